import Derived.Test.YtnhpacaoobpkhaaGParse
import Derived.Test.YtnhpacaoobpkhaaGNum
import Derived.Test.YtnhpacaoobpkhaaGRPub
import Derived.Test.YtnhpacaoobpkhaaGBody
import Derived.Test.YtnhpacaoobpkhaaGRead
namespace Go.Proofs.Ytnhpacaoobpkhaa
open Go.RowKit Go.Lib
set_option linter.unusedVariables false
set_option maxRecDepth 100000
set_option maxHeartbeats 8000000
theorem dread_bad (A:Option Addr)(cap:Nat)(b:List UInt8)(B:Nat)(w:World)(hB:B≤w.heap.size)(hv:BytesAt w B (.slice A b.length cap) b)(hm:b.length≤1000000)(x y z:Int)(hT:bndP b=(x,y,z))(hz:z≠0) :
  Calls Try.prog 25 #[.slice A b.length cap] w (RdPost w (pk0,0,z)):=by
 have hbw:Below w.heap.size w (w.alloc (.cells (pkC pk0 sv0) 28)):=(Below.refl _ _).alloc (Nat.le_refl _) _
 have r0:(w.alloc (.cells (pkC pk0 sv0) 28)).heap[w.heap.size]? = some (.cells (pkC pk0 sv0) 28 (0,0)):=heap_alloc_last _ _
 have R0:=Lib.hid r0
 rcases b with _ | ⟨c,r⟩
 ·obtain ⟨rfl,rfl,rfl⟩:(0:Int)=x∧(0:Int)=y∧(20:Int)=z:=by simpa [bndP] using hT
  clear hv hm hT hz r0
  go_enter Try.func25,Try.ntmps25
  go_wp2_with ((with_reducible show wpList _ _ _ (⟨_,.store 28 (.tmp 2) _,_,_,_,_⟩ :: _) _ _);refine stR (w.heap.size) _ (pkC pk0 sv0) (by rfl) (by rfl) (by exact R0.out) (by rfl) (by rfl) (pkc_one _ _) ?_)
  refine bodyPost_ret (results_row2 (by rfl) _ _ (w.heap.size) _ (by rfl) (ldv_pk (setRow_heap _ _ _ _ _ _ (by exact R0.out)))) (by rfl) ⟨sv0,rfl,pk0_own _ _,?_⟩
  exact below_setRow (hbw) (Nat.le_refl _) _
 ·rcases A with _ | ad
  ·obtain ⟨A',c',hv1,hc,hm',hz',_⟩:=hv
   injection hv1 with v1 v2 v3
   have:=hz' v1.symm
   cases this
  have z0:∀C t q,(w.alloc (.cells C t q)).cell? ad=some (.int .u8 (c.toNat:Int)):=fun C t q=>by have:=cell_zero (hv.to hB ((Below.refl _ _).alloc (Nat.le_refl _) (.cells C t q)));exact this
  obtain ⟨a1,a2,a3,a4,a5⟩:=readT_in r
  have hd:=BytesAt.drop hv 1 (by simp)
  have hcap:1≤cap∧cap≤9223372036854775807∧(c :: r).length≤cap:=by
   obtain ⟨A',c',hv1,hc,hm',hz',_⟩:=hv
   injection hv1 with v1 v2 v3
   subst v3
   unfold maxLen at hm'
   simp at hc ⊢;omega
  have hlen:(c :: r).length=r.length+1:=by simp
  have hr:r.length≤1000000:=by omega
  have hdl:(c :: r).length - 1=r.length:=by omega
  have hu:(c.toNat:Int)≤255:=by have:=c.toNat_lt;omega
  have HBeg:=Lib.hid (fun W=>rhead_any (c.toNat:Int) (by omega) hu W)
  rw [rbeg_eq _ (by omega) hu] at HBeg
  rw [hdl] at hd
  have HD:=Lib.hid hd
  have e0:(c :: r).drop 1=r:=rfl
  rw [e0] at HD
  have ea:ad.add 1=⟨ad.block,ad.off+1,none⟩:=rfl
  rw [ea] at HD
  have HR:=Lib.hid (fun (W:World) (h:Below w.heap.size w W) (t1 t2 t3:Int) (ht:readT r=(t1,t2,t3))=>rread_any _ r W B (HD.out.below (h.mono hB)) hr t1 t2 t3 ht)
  have HZ:=Lib.hid (fun (W:World) (h:r=[])=>rread_any (.slice (some ad) 0 0) [] W B (BytesAt.void W B ad 0 (by decide)) (by decide) 0 0 20 rfl)
  have hT0:r=[]→readT r=(0,0,20):=fun e=>by rw [e];rfl
  have hnil:cap=1→r=[]:=fun e=>List.eq_nil_of_length_eq_zero (by omega)
  have HN:=Lib.hid hnil
  clear hnil
  have hbn:bndP (c :: r)=if begP c.toNat=false then (0,0,21) else if (readT r).2.2≠0 then (0,0,(readT r).2.2) else if (readT r).1 > 8192 then (0,0,22) else if 1+(readT r).2.1+(readT r).1 > (c :: r).length then (0,0,20) else (1+(readT r).2.1,1+(readT r).2.1+(readT r).1,0):=rfl
  rw [hbn] at hT
  rw [hlen] at hT ⊢
  rw [hlen] at hcap
  clear hv hd e0 hbn hdl hlen ea r0
  generalize begP c.toNat=bg at *
  have HT0:=Lib.hid hT0
  clear hT0
  generalize hR:readT r=T at *
  obtain ⟨t1,t2,t3⟩:=T
  simp only at a1 a2 a3 a4 a5 hT
  have HR2:=Lib.hid (fun W h=>HR.out W h t1 t2 t3 rfl)
  have HC:Hid (cap=1→t3=20):=Lib.hid (fun e=>by have:=HT0.out (HN.out e);injection this with _ q;injection q)
  clear HR hR HT0
  generalize r.length=L at *
  cases bg with
  | false =>
   obtain ⟨rfl,rfl,rfl⟩:(0:Int)=x∧(0:Int)=y∧(21:Int)=z:=by simpa using hT
   clear hz hT
   go_enter Try.func25,Try.ntmps25
   go_wp2_with fail
   refine (HBeg.out _).mono ?_
   rintro e w1 ⟨rfl,rfl⟩
   go_wp2_with ((with_reducible show wpList _ _ _ (⟨_,.store 28 (.tmp 2) _,_,_,_,_⟩ :: _) _ _);refine stR (w.heap.size) _ (pkC pk0 sv0) (by rfl) (by rfl) (by exact R0.out) (by rfl) (by rfl) (pkc_one _ _) ?_)
   refine bodyPost_ret (results_row2 (by rfl) _ _ (w.heap.size) _ (by rfl) (ldv_pk (setRow_heap _ _ _ _ _ _ (by exact R0.out)))) (by rfl) ⟨sv0,rfl,pk0_own _ _,?_⟩
   exact below_setRow (hbw) (Nat.le_refl _) _
  | true =>
   simp only [Bool.true_eq_false,if_false] at hT
   by_cases q2:t3≠0
   ·obtain ⟨rfl,rfl,rfl⟩:(0:Int)=x∧(0:Int)=y∧t3=z:=by simpa [q2] using hT
    have q2b:(t3 != 0)=true:=by simpa using q2
    clear hT q2 a5 hz
    by_cases hc1:cap=1
    ·subst hc1
     have HZ2:=Lib.hid (fun W=>HZ.out W (HN.out rfl))
     have e3:=HC.out rfl
     subst e3
     clear HZ HR2 HN HC
     have hL:L=0:=by omega
     subst hL
     go_enter Try.func25,Try.ntmps25
     go_wp2_with fail
     refine (HBeg.out _).mono ?_
     rintro e w1 ⟨rfl,rfl⟩
     go_wp2_with fail
     refine (HZ2.out _).mono ?_
     rintro e w2 ⟨rfl,rfl⟩
     go_wp2_with ((with_reducible show wpList _ _ _ (⟨_,.store 28 (.tmp 2) _,_,_,_,_⟩ :: _) _ _);refine stR (w.heap.size) _ (pkC pk0 sv0) (by rfl) (by rfl) (by exact R0.out) (by rfl) (by rfl) (pkc_one _ _) ?_)
     refine bodyPost_ret (results_row2 (by rfl) _ _ (w.heap.size) _ (by rfl) (ldv_pk (setRow_heap _ _ _ _ _ _ (by exact R0.out)))) (by rfl) ⟨sv0,rfl,pk0_own _ _,?_⟩
     exact below_setRow (hbw) (Nat.le_refl _) _
    clear HZ HN HC
    go_enter Try.func25,Try.ntmps25
    go_wp2_with fail
    refine (HBeg.out _).mono ?_
    rintro e w1 ⟨rfl,rfl⟩
    go_wp2_with fail
    refine (HR2.out _ hbw).mono ?_
    rintro e w2 ⟨rfl,rfl⟩
    go_wp2_with ((with_reducible show wpList _ _ _ (⟨_,.store 28 (.tmp 2) _,_,_,_,_⟩ :: _) _ _);refine stR (w.heap.size) _ (pkC pk0 sv0) (by rfl) (by rfl) (by exact R0.out) (by rfl) (by rfl) (pkc_one _ _) ?_)
    refine bodyPost_ret (results_row2 (by rfl) _ _ (w.heap.size) _ (by rfl) (ldv_pk (setRow_heap _ _ _ _ _ _ (by exact R0.out)))) (by rfl) ⟨sv0,rfl,pk0_own _ _,?_⟩
    exact below_setRow (hbw) (Nat.le_refl _) _
   ·simp only [ne_eq,Decidable.not_not] at q2
    subst q2
    simp only [ne_eq,not_true_eq_false,if_false] at hT
    clear a5
    have hc1:cap≠1:=fun e=>by have:=HC.out e;omega
    clear HZ HN HC
    by_cases q3:t1 > 8192
    ·obtain ⟨rfl,rfl,rfl⟩:(0:Int)=x∧(0:Int)=y∧(22:Int)=z:=by simpa [q3] using hT
     clear hT hz
     go_enter Try.func25,Try.ntmps25
     go_wp2_with fail
     refine (HBeg.out _).mono ?_
     rintro e w1 ⟨rfl,rfl⟩
     go_wp2_with fail
     refine (HR2.out _ hbw).mono ?_
     rintro e w2 ⟨rfl,rfl⟩
     go_wp2_with ((with_reducible show wpList _ _ _ (⟨_,.store 28 (.tmp 2) _,_,_,_,_⟩ :: _) _ _);refine stR (w.heap.size) _ (pkC pk0 sv0) (by rfl) (by rfl) (by exact R0.out) (by rfl) (by rfl) (pkc_one _ _) ?_)
     refine bodyPost_ret (results_row2 (by rfl) _ _ (w.heap.size) _ (by rfl) (ldv_pk (setRow_heap _ _ _ _ _ _ (by exact R0.out)))) (by rfl) ⟨sv0,rfl,pk0_own _ _,?_⟩
     exact below_setRow (hbw) (Nat.le_refl _) _
    simp only [q3,if_false] at hT
    by_cases q4:1+t2+t1 > ((L+1:Nat):Int)
    ·obtain ⟨rfl,rfl,rfl⟩:(0:Int)=x∧(0:Int)=y∧(20:Int)=z:=by rw [if_pos q4] at hT;simpa using hT
     clear hT hz
     go_enter Try.func25,Try.ntmps25
     go_wp2_with fail
     refine (HBeg.out _).mono ?_
     rintro e w1 ⟨rfl,rfl⟩
     go_wp2_with fail
     refine (HR2.out _ hbw).mono ?_
     rintro e w2 ⟨rfl,rfl⟩
     go_wp2_with ((with_reducible show wpList _ _ _ (⟨_,.store 28 (.tmp 2) _,_,_,_,_⟩ :: _) _ _);refine stR (w.heap.size) _ (pkC pk0 sv0) (by rfl) (by rfl) (by exact R0.out) (by rfl) (by rfl) (pkc_one _ _) ?_)
     refine bodyPost_ret (results_row2 (by rfl) _ _ (w.heap.size) _ (by rfl) (ldv_pk (setRow_heap _ _ _ _ _ _ (by exact R0.out)))) (by rfl) ⟨sv0,rfl,pk0_own _ _,?_⟩
     exact below_setRow (hbw) (Nat.le_refl _) _
    ·rw [if_neg q4] at hT
     injection hT with _ hT
     injection hT with _ hT
     exact absurd hT.symm hz
def zC (l:List UInt8):Array Value:=(l.map fun b=>Value.int .u8 (b.toNat:Int)).toArray
theorem make_u8 (l:List UInt8)(k:Nat)(hl:l=List.replicate k 0)(hk:k≤100000)(w:World) :
  (Instr.makeSlice 22 (.int .i64 (l.length:Int)) (.int .i64 (l.length:Int))).run Try.prog w=.ok (.slice (some ⟨w.heap.size,0,none⟩) l.length l.length) (w.alloc (.cells (zC l) 5)):=by
 obtain ⟨i0,hi,hz0,hz1,hz2⟩:=info_parts Try.info5
 have hlen:l.length=k:=by rw [hl];simp
 have hm:=run_make (P:=Try.prog) w 22 5 i0 _ Try.underlying22 hi hz0 .i64 .i64 (k:Int) (k:Int) (by omega) (by omega) (by rw [hz2];omega) (by omega)
 simp only [Int.toNat_natCast] at hm
 have e:madeCells (Value.int .u8 0).cells (k*i0.size)=zC l:=by
  apply Array.toList_inj.1
  rw [hz1,Nat.mul_one]
  refine (toList_madeCells_one _ _).trans ?_
  unfold zC
  rw [hl]
  simp
 rw [hlen,hm,e]
theorem mk_at {ops:Array Oper} {rest:List Oper} {a:Act} {w:World} {Q:Exit→Act→World→Prop} {d:Option Tmp} {x:Operand} {ty:TypeId} {ps:String} {af:Array Edge}
  (g:Nat) (hg:w.heap.size=g) (l:List UInt8) (k:Nat) (hl:Hid (l=List.replicate k 0)) (hk:k≤100000) (hx:a.eval x=.int .i64 (l.length:Int))
  (h:wpList Try.prog ops Q rest (a.put d (.slice (some ⟨g,0,none⟩) l.length l.length)) (w.alloc (.cells (zC l) 5))) :
  wpList Try.prog ops Q (⟨d,.makeSlice 22 x x,ty,ps,af,none⟩ :: rest) a w :=
 wpList_plain rfl fun K hK=>by
  subst hg
  unfold Oper.wp execOp
  simp only [Sem.run_bind,hx,make_u8 l k hl.out hk,Result.andThen_ok]
  exact hK _ _ h
theorem BytesAt.takeL {w:World}{B:Nat}{A:Option Addr}{n c:Nat}{l:List UInt8}(h:BytesAt w B (.slice A n c) l)(i:Nat)(hi:i≤l.length):BytesAt w B (.slice A i c) (l.take i):=by
 obtain ⟨A',c',hv,hc,hm,hn,hB,hx⟩:=h
 injection hv with v1 v2 v3
 subst v1 v3
 have hlen:(l.take i).length=i:=by rw [List.length_take];omega
 refine ⟨A,c,by rw [hlen],by omega,hm,fun e=>by rw [hn e];simp,fun ad had hne=>hB ad had (fun e=>hne (by rw [e];simp)),fun ad had j x hj=>hx ad had j x ?_⟩
 rw [List.getElem?_take] at hj
 split at hj
 ·exact hj
 ·cases hj
theorem rd_long (j:Nat)(h:j<3):rdP [48,129,UInt8.ofNat (64+j)]=(pk0,0,22)∧bndP [48,129,UInt8.ofNat (64+j)]=(0,0,22):=by
 rcases (show j=0∨j=1∨j=2 by omega) with rfl | rfl | rfl <;> exact ⟨by decide +kernel,by decide +kernel⟩
theorem three_cells (j:Nat)(h:j<3):(#[.int .u8 48,.int .u8 129,.int .u8 (64+(j:Int))]:Array Value)=([48,129,UInt8.ofNat (64+j)].map fun b=>Value.int .u8 (b.toNat:Int)).toArray:=by
 rcases (show j=0∨j=1∨j=2 by omega) with rfl | rfl | rfl <;> rfl
theorem limits_walk (k q:Nat)(hk:k<256)(hq:q<256)(w:World) :
  Calls Try.prog 5 #[.int .u8 k,.int .u8 q] w fun e w'=>e=.returned (.bool true)∧Below w.heap.size w w':=by
 obtain ⟨m,hm⟩:∃m,8185+k%5=m:=⟨_,rfl⟩
 have h3:k%3<3:=Nat.mod_lt _ (by omega)
 have hn:(8189+(k:Int)%5 - 2)=((List.replicate (m+2) (0:UInt8)).length:Int):=by rw [List.length_replicate];omega
 have hl0:(List.replicate (m+2) (0:UInt8)).length=m+2:=List.length_replicate
 have hl2:(List.replicate m (0:UInt8)).length=m:=List.length_replicate
 have hb0:∀W:World,BytesAt (W.alloc (.cells (zC (List.replicate (m+2) 0)) 5)) (W.heap.size+1) (.slice (some ⟨W.heap.size,0,none⟩) (List.replicate (m+2) (0:UInt8)).length (List.replicate (m+2) (0:UInt8)).length) (List.replicate (m+2) 0):=fun W=>bytesAt_new W _ _ (0,0) rfl (by rw [hl0];unfold maxLen;omega)
 have ht:(List.replicate (m+2) (0:UInt8)).take m=List.replicate m 0:=by rw [List.take_replicate];congr 1;omega
 have hb2:∀W:World,BytesAt (W.alloc (.cells (zC (List.replicate (m+2) 0)) 5)) (W.heap.size+1) (.slice (some ⟨W.heap.size,0,none⟩) (List.replicate m (0:UInt8)).length (List.replicate (m+2) (0:UInt8)).length) (List.replicate m 0):=fun W=>by
  have:=BytesAt.takeL (hb0 W) m (by rw [hl0];omega)
  rw [ht] at this
  rw [hl2]
  exact this
 clear ht
 generalize hl:List.replicate (m+2) (0:UInt8)=l at hn hl0 hb0 hb2
 have HL:=Lib.hid hl.symm
 have H0:=Lib.hid hl0
 have H1:=Lib.hid hm
 have hm5:m+2≤100000:=by omega
 have hls:2≤l.length∧l.length≤8191:=by omega
 clear hl
 rcases e1:((q:Int)%2==1) with _ | _
 ·clear hb2 hl2
  have HB1:=Lib.hid hb0
  have hln:lenP (msgA false l)=3+(l.length:Int):=by rw [msgA_len];simp
  clear hb0
  rcases hrt:decide (lenP (msgA false l)≤8192) with _ | _
  ·have h5:decide ((k:Int)%5≤2)=false:=by rw [hln] at hrt;simp at hrt ⊢;omega
   clear hln hl0 hm
   go_enter Try.func5,Try.ntmps5
   go_wp2_with fail
   refine (known3_any w).mono ?_
   rintro e w1 ⟨rfl,hb1⟩
   go_wp2_with (first
    | ((with_reducible show wpList _ _ _ (⟨_,.makeSlice 22 _ _,_,_,_,_⟩ :: _) _ _);refine mk_at (w1.heap.size) (by rfl) l (m+2) HL hm5 (by rfl) ?_)
    | ((with_reducible show wpList _ _ _ (⟨_,.store 28 (.tmp 6) _,_,_,_,_⟩ :: _) _ _);refine stLst (w1.heap.size+1) (by simp) _ (pkC (msgA false l) (svA (some ⟨w1.heap.size,0,none⟩) l.length)) (by rfl) (by rfl) (by rfl) (by rfl) (pkc_one _ _) ?_)
    | ((with_reducible show wpList _ _ _ (⟨_,.load 28 (.tmp 6),_,_,_,_⟩ :: _) _ _);refine ld_pk (w1.heap.size+1) (by rfl) (by rfl) (pkC (msgA false l) (svA (some ⟨w1.heap.size,0,none⟩) l.length)) _ _ (by exact heap_last2 _ _ _) (by rfl) ?_))
   have hpk:PkAt ((w1.alloc (.cells (zC l) 5)).alloc (.cells (pkC (msgA false l) (svA (some ⟨w1.heap.size,0,none⟩) l.length)) 28)) (w1.heap.size+1) (msgA false l) (svA (some ⟨w1.heap.size,0,none⟩) l.length):=(msgA_at _ _ _ _ _ _ (HB1.out w1)).to (by simp) ((Below.refl _ _).alloc (Nat.le_refl _) _)
   have r0:((w1.alloc (.cells (zC l) 5)).alloc (.cells (pkC (msgA false l) (svA (some ⟨w1.heap.size,0,none⟩) l.length)) 28)).heap[w1.heap.size+1]? = some (.cells (pkC (msgA false l) (svA (some ⟨w1.heap.size,0,none⟩) l.length)) 28 (0,0)):=heap_last2 _ _ _
   have bW:Below w.heap.size w ((w1.alloc (.cells (zC l) 5)).alloc (.cells (pkC (msgA false l) (svA (some ⟨w1.heap.size,0,none⟩) l.length)) 28)):=alB (alB hb1 _) _
   have hBW:w1.heap.size+1≤((w1.alloc (.cells (zC l) 5)).alloc (.cells (pkC (msgA false l) (svA (some ⟨w1.heap.size,0,none⟩) l.length)) 28)).heap.size:=by simp
   have HPK:=Lib.hid hpk
   have HNZ:Hid ((some ⟨w1.heap.size,0,none⟩:Option Addr)=none→l.length=0):=Lib.hid (fun e=>by cases e)
   have HRT:=Lib.hid hrt
   clear hpk hrt
   generalize (w1.alloc (.cells (zC l) 5)).alloc (.cells (pkC (msgA false l) (svA (some ⟨w1.heap.size,0,none⟩) l.length)) 28)=W0 at *
   refine (wput_no (msgA false l) (svA (some ⟨w1.heap.size,0,none⟩) l.length) (w1.heap.size+1) W0 HPK.out hBW (msgA_ok _ _ (by have:=H0.out;omega)) (by rw [msgA_right,HRT.out])).mono ?_
   rintro e w2 ⟨rfl,hb2⟩
   have r2:=heap_below hb2 r0
   have D2:=Lib.hid (dput_no (msgA false l) (svA (some ⟨w1.heap.size,0,none⟩) l.length) (w1.heap.size+1) w2 (HPK.out.to hBW hb2) (Nat.le_trans hBW hb2.size) (fun W h1 h2=>(msgA_dright _ _ (by have:=H0.out;omega) _ _ HNZ.out _ W h1 h2).mono fun _ _ h=>⟨h.1.trans (by rw [HRT.out]),h.2⟩))
   go_wp2_with ((with_reducible show wpList _ _ _ (⟨_,.load 28 (.tmp 6),_,_,_,_⟩ :: _) _ _);refine ld_pk (w1.heap.size+1) (by rfl) (by rfl) (pkC (msgA false l) (svA (some ⟨w1.heap.size,0,none⟩) l.length)) _ _ (by exact r2) (by rfl) ?_)
   refine D2.out.mono ?_
   rintro e w3 ⟨rfl,hb3⟩
   have cv0:(convert 22 9 (.slice none 0 0)).run Try.prog w3=.ok (.string ⟨#[]⟩) w3:=(bytes_nil w3 0).conv
   have bw3:Below w.heap.size w w3:=thn (thn bW hb2) hb3
   clear hb2 hb3 r0 r2 bW HPK HRT HNZ D2 hb1
   go_wp2_with fail
   refine (wread_any (some ⟨w3.heap.size,0,none⟩) 3 [48,129,UInt8.ofNat (64+k%3)] _ (new_bytes _ (w3.heap.size) (by rfl) [48,129,UInt8.ofNat (64+k%3)] _ 3 rfl (by exact three_cells (k%3) h3) (by simp)) (by simp)).mono ?_
   rw [(rd_long (k%3) h3).1]
   rintro e w4 ⟨s4,rfl,o4,hb4⟩
   have bw4:Below w.heap.size w w4:=thn (alB bw3 _) hb4
   clear o4 hb4
   go_wp2_with ((with_reducible show wpList _ _ _ (⟨_,.store 28 (.tmp 11) _,_,_,_,_⟩ :: _) _ _);refine stLst (w4.heap.size) (by rfl) _ (pkC pk0 s4) (by rfl) (by rfl) (by rfl) (by rfl) (pkc_one _ _) ?_)
   have bw5:Below w.heap.size w (w4.alloc (.cells (pkC pk0 s4) 28)):=alB bw4 _
   refine (dread_bad (some ⟨w4.heap.size+1,0,none⟩) 3 [48,129,UInt8.ofNat (64+k%3)] _ _ (Nat.le_refl _) (new_bytes _ (w4.heap.size+1) (by simp) [48,129,UInt8.ofNat (64+k%3)] _ 3 rfl (by exact three_cells (k%3) h3) (by simp)) (by simp) 0 0 22 (rd_long (k%3) h3).2 (by decide)).mono ?_
   rintro e w6 ⟨s6,rfl,o6,hb6⟩
   have bw6:Below w.heap.size w w6:=thn (alB bw5 _) hb6
   clear o6 hb6
   go_wp2_with ((with_reducible show wpList _ _ _ (⟨_,.store 28 (.tmp 14) _,_,_,_,_⟩ :: _) _ _);refine stLst (w6.heap.size) (by rfl) _ (pkC pk0 s6) (by rfl) (by rfl) (by rfl) (by rfl) (pkc_one _ _) ?_)
   go_ret
   exact ⟨rfl,alB bw6 _⟩
  ·have h5:decide ((k:Int)%5≤2)=true:=by rw [hln] at hrt;simp at hrt ⊢;omega
   clear hln hl0 hm
   go_enter Try.func5,Try.ntmps5
   go_wp2_with fail
   refine (known3_any w).mono ?_
   rintro e w1 ⟨rfl,hb1⟩
   go_wp2_with (first
    | ((with_reducible show wpList _ _ _ (⟨_,.makeSlice 22 _ _,_,_,_,_⟩ :: _) _ _);refine mk_at (w1.heap.size) (by rfl) l (m+2) HL hm5 (by rfl) ?_)
    | ((with_reducible show wpList _ _ _ (⟨_,.store 28 (.tmp 6) _,_,_,_,_⟩ :: _) _ _);refine stLst (w1.heap.size+1) (by simp) _ (pkC (msgA false l) (svA (some ⟨w1.heap.size,0,none⟩) l.length)) (by rfl) (by rfl) (by rfl) (by rfl) (pkc_one _ _) ?_)
    | ((with_reducible show wpList _ _ _ (⟨_,.load 28 (.tmp 6),_,_,_,_⟩ :: _) _ _);refine ld_pk (w1.heap.size+1) (by rfl) (by rfl) (pkC (msgA false l) (svA (some ⟨w1.heap.size,0,none⟩) l.length)) _ _ (by exact heap_last2 _ _ _) (by rfl) ?_))
   have hpk:PkAt ((w1.alloc (.cells (zC l) 5)).alloc (.cells (pkC (msgA false l) (svA (some ⟨w1.heap.size,0,none⟩) l.length)) 28)) (w1.heap.size+1) (msgA false l) (svA (some ⟨w1.heap.size,0,none⟩) l.length):=(msgA_at _ _ _ _ _ _ (HB1.out w1)).to (by simp) ((Below.refl _ _).alloc (Nat.le_refl _) _)
   have r0:((w1.alloc (.cells (zC l) 5)).alloc (.cells (pkC (msgA false l) (svA (some ⟨w1.heap.size,0,none⟩) l.length)) 28)).heap[w1.heap.size+1]? = some (.cells (pkC (msgA false l) (svA (some ⟨w1.heap.size,0,none⟩) l.length)) 28 (0,0)):=heap_last2 _ _ _
   have bW:Below w.heap.size w ((w1.alloc (.cells (zC l) 5)).alloc (.cells (pkC (msgA false l) (svA (some ⟨w1.heap.size,0,none⟩) l.length)) 28)):=alB (alB hb1 _) _
   have hBW:w1.heap.size+1≤((w1.alloc (.cells (zC l) 5)).alloc (.cells (pkC (msgA false l) (svA (some ⟨w1.heap.size,0,none⟩) l.length)) 28)).heap.size:=by simp
   have HPK:=Lib.hid hpk
   have HNZ:Hid ((some ⟨w1.heap.size,0,none⟩:Option Addr)=none→l.length=0):=Lib.hid (fun e=>by cases e)
   have HRT:=Lib.hid hrt
   clear hpk hrt
   generalize (w1.alloc (.cells (zC l) 5)).alloc (.cells (pkC (msgA false l) (svA (some ⟨w1.heap.size,0,none⟩) l.length)) 28)=W0 at *
   refine (wput_yes (msgA false l) (svA (some ⟨w1.heap.size,0,none⟩) l.length) (w1.heap.size+1) W0 HPK.out hBW (msgA_ok _ _ (by have:=H0.out;omega)) ⟨HNZ.out,fun _=>rfl,fun _=>rfl⟩ (by rw [msgA_right,HRT.out])).mono ?_
   unfold PutPost
   rintro e w2 ⟨A1,c1,rfl,o1,hb2⟩
   have r2:=heap_below hb2 r0
   have D2:=Lib.hid (dput_yes (msgA false l) (svA (some ⟨w1.heap.size,0,none⟩) l.length) (w1.heap.size+1) w2 (HPK.out.to hBW hb2) (Nat.le_trans hBW hb2.size) (show (1:Int)≤3 by decide) (show (3:Int)≤14 by decide) (show (0:Int)≤0 by decide) (show (0:Int)≤2 by decide) (of_decide_eq_true HRT.out) (body_len _) (fun W h1 h2=>(msgA_dright _ _ (by have:=H0.out;omega) _ _ HNZ.out _ W h1 h2).mono fun _ _ h=>⟨h.1.trans (by rw [HRT.out]),h.2⟩) (msgA_body _ _ (by have:=H0.out;omega) _ _ HNZ.out _))
   generalize encP (msgA false l)=L at *
   have y1:=ownsBytes o1
   go_wp2_with ((with_reducible show wpList _ _ _ (⟨_,.load 28 (.tmp 6),_,_,_,_⟩ :: _) _ _);refine ld_pk (w1.heap.size+1) (by rfl) (by rfl) (pkC (msgA false l) (svA (some ⟨w1.heap.size,0,none⟩) l.length)) _ _ (by exact r2) (by rfl) ?_)
   refine D2.out.mono ?_
   unfold PutPost
   rintro e w3 ⟨A2,c2,rfl,o2,hb3⟩
   have cv1:=(y1.to (Nat.le_refl _) hb3).conv
   have cv2:=(ownsBytes o2).conv
   clear y1 o1 o2
   have bw3:Below w.heap.size w w3:=thn (thn bW hb2) hb3
   clear hb2 hb3 r0 r2 bW HPK HRT HNZ D2 hb1
   go_wp2_with fail
   refine (wread_any (some ⟨w3.heap.size,0,none⟩) 3 [48,129,UInt8.ofNat (64+k%3)] _ (new_bytes _ (w3.heap.size) (by rfl) [48,129,UInt8.ofNat (64+k%3)] _ 3 rfl (by exact three_cells (k%3) h3) (by simp)) (by simp)).mono ?_
   rw [(rd_long (k%3) h3).1]
   rintro e w4 ⟨s4,rfl,o4,hb4⟩
   have bw4:Below w.heap.size w w4:=thn (alB bw3 _) hb4
   clear o4 hb4
   go_wp2_with ((with_reducible show wpList _ _ _ (⟨_,.store 28 (.tmp 11) _,_,_,_,_⟩ :: _) _ _);refine stLst (w4.heap.size) (by rfl) _ (pkC pk0 s4) (by rfl) (by rfl) (by rfl) (by rfl) (pkc_one _ _) ?_)
   have bw5:Below w.heap.size w (w4.alloc (.cells (pkC pk0 s4) 28)):=alB bw4 _
   refine (dread_bad (some ⟨w4.heap.size+1,0,none⟩) 3 [48,129,UInt8.ofNat (64+k%3)] _ _ (Nat.le_refl _) (new_bytes _ (w4.heap.size+1) (by simp) [48,129,UInt8.ofNat (64+k%3)] _ 3 rfl (by exact three_cells (k%3) h3) (by simp)) (by simp) 0 0 22 (rd_long (k%3) h3).2 (by decide)).mono ?_
   rintro e w6 ⟨s6,rfl,o6,hb6⟩
   have bw6:Below w.heap.size w w6:=thn (alB bw5 _) hb6
   clear o6 hb6
   go_wp2_with ((with_reducible show wpList _ _ _ (⟨_,.store 28 (.tmp 14) _,_,_,_,_⟩ :: _) _ _);refine stLst (w6.heap.size) (by rfl) _ (pkC pk0 s6) (by rfl) (by rfl) (by rfl) (by rfl) (pkc_one _ _) ?_)
   go_ret
   exact ⟨rfl,alB bw6 _⟩
 ·have hc2:((l.length:Int) - 2)=((List.replicate m (0:UInt8)).length:Int):=by rw [hl2,hl0];omega
  generalize List.replicate m (0:UInt8)=l2 at hb2 hl2 hc2
  have HB1:=Lib.hid hb2
  have hle2:l2.length≤l.length:=by omega
  have H0:Hid (l2.length=m):=Lib.hid hl2
  have hln:lenP (msgA true l2)=5+(l2.length:Int):=by rw [msgA_len];simp;omega
  clear hb0 hb2
  rcases hrt:decide (lenP (msgA true l2)≤8192) with _ | _
  ·have h5:decide ((k:Int)%5≤2)=false:=by rw [hln] at hrt;simp at hrt ⊢;omega
   clear hln hl0 hl2 hm
   go_enter Try.func5,Try.ntmps5
   go_wp2_with fail
   refine (known3_any w).mono ?_
   rintro e w1 ⟨rfl,hb1⟩
   go_wp2_with (first
    | ((with_reducible show wpList _ _ _ (⟨_,.makeSlice 22 _ _,_,_,_,_⟩ :: _) _ _);refine mk_at (w1.heap.size) (by rfl) l (m+2) HL hm5 (by rfl) ?_)
    | ((with_reducible show wpList _ _ _ (⟨_,.store 28 (.tmp 6) _,_,_,_,_⟩ :: _) _ _);refine stLst (w1.heap.size+1) (by simp) _ #[.int .i64 3,.bool false,.bool false,.int .i64 0,.int .i64 0,.string ⟨#[97]⟩,.slice (some ⟨w1.heap.size,0,none⟩) l.length l.length,.int .i64 0,.string ⟨#[]⟩,.bool false,.int .i64 0,.bool false,.string ⟨#[]⟩,.slice none 0 0,.int .i64 0,.bool false,.bool false,.bool false,.string ⟨#[]⟩,.slice none 0 0,.bool false,.int .i64 0,.slice none 0 0,.slice none 0 0] (by rfl) (by rfl) (by rfl) (by rfl) (by rfl) ?_)
    | ((with_reducible show wpList _ _ _ (⟨_,.load 28 (.tmp 6),_,_,_,_⟩ :: _) _ _);refine ld_pk (w1.heap.size+1) (by rfl) (by rfl) (pkC (msgA true l2) (svA (some ⟨w1.heap.size,0,none⟩) l.length)) _ _ (by exact heap_last2 _ _ _) (by rfl) ?_))
   rw [show (#[.int .i64 3,.bool false,.bool false,.int .i64 1,.int .i64 7,.string ⟨#[97]⟩,.slice (some ⟨w1.heap.size,0,none⟩) l2.length l.length,.int .i64 0,.string ⟨#[]⟩,.bool false,.int .i64 0,.bool false,.string ⟨#[]⟩,.slice none 0 0,.int .i64 0,.bool false,.bool false,.bool false,.string ⟨#[]⟩,.slice none 0 0,.bool false,.int .i64 0,.slice none 0 0,.slice none 0 0]:Array Value)=pkC (msgA true l2) (svA (some ⟨w1.heap.size,0,none⟩) l.length) from rfl]
   have hpk:PkAt ((w1.alloc (.cells (zC l) 5)).alloc (.cells (pkC (msgA true l2) (svA (some ⟨w1.heap.size,0,none⟩) l.length)) 28)) (w1.heap.size+1) (msgA true l2) (svA (some ⟨w1.heap.size,0,none⟩) l.length):=(msgA_at _ _ _ _ _ _ (HB1.out w1)).to (by simp) ((Below.refl _ _).alloc (Nat.le_refl _) _)
   have r0:((w1.alloc (.cells (zC l) 5)).alloc (.cells (pkC (msgA true l2) (svA (some ⟨w1.heap.size,0,none⟩) l.length)) 28)).heap[w1.heap.size+1]? = some (.cells (pkC (msgA true l2) (svA (some ⟨w1.heap.size,0,none⟩) l.length)) 28 (0,0)):=heap_last2 _ _ _
   have bW:Below w.heap.size w ((w1.alloc (.cells (zC l) 5)).alloc (.cells (pkC (msgA true l2) (svA (some ⟨w1.heap.size,0,none⟩) l.length)) 28)):=alB (alB hb1 _) _
   have hBW:w1.heap.size+1≤((w1.alloc (.cells (zC l) 5)).alloc (.cells (pkC (msgA true l2) (svA (some ⟨w1.heap.size,0,none⟩) l.length)) 28)).heap.size:=by simp
   have HPK:=Lib.hid hpk
   have HNZ:Hid ((some ⟨w1.heap.size,0,none⟩:Option Addr)=none→l.length=0):=Lib.hid (fun e=>by cases e)
   have HRT:=Lib.hid hrt
   clear hpk hrt
   generalize (w1.alloc (.cells (zC l) 5)).alloc (.cells (pkC (msgA true l2) (svA (some ⟨w1.heap.size,0,none⟩) l.length)) 28)=W0 at *
   refine (wput_no (msgA true l2) (svA (some ⟨w1.heap.size,0,none⟩) l.length) (w1.heap.size+1) W0 HPK.out hBW (msgA_ok _ _ (by have:=H0.out;omega)) (by rw [msgA_right,HRT.out])).mono ?_
   rintro e w2 ⟨rfl,hb2⟩
   have r2:=heap_below hb2 r0
   have D2:=Lib.hid (dput_no (msgA true l2) (svA (some ⟨w1.heap.size,0,none⟩) l.length) (w1.heap.size+1) w2 (HPK.out.to hBW hb2) (Nat.le_trans hBW hb2.size) (fun W h1 h2=>(msgA_dright _ _ (by have:=H0.out;omega) _ _ HNZ.out _ W h1 h2).mono fun _ _ h=>⟨h.1.trans (by rw [HRT.out]),h.2⟩))
   go_wp2_with ((with_reducible show wpList _ _ _ (⟨_,.load 28 (.tmp 6),_,_,_,_⟩ :: _) _ _);refine ld_pk (w1.heap.size+1) (by rfl) (by rfl) (pkC (msgA true l2) (svA (some ⟨w1.heap.size,0,none⟩) l.length)) _ _ (by exact r2) (by rfl) ?_)
   refine D2.out.mono ?_
   rintro e w3 ⟨rfl,hb3⟩
   have cv0:(convert 22 9 (.slice none 0 0)).run Try.prog w3=.ok (.string ⟨#[]⟩) w3:=(bytes_nil w3 0).conv
   have bw3:Below w.heap.size w w3:=thn (thn bW hb2) hb3
   clear hb2 hb3 r0 r2 bW HPK HRT HNZ D2 hb1
   go_wp2_with fail
   refine (wread_any (some ⟨w3.heap.size,0,none⟩) 3 [48,129,UInt8.ofNat (64+k%3)] _ (new_bytes _ (w3.heap.size) (by rfl) [48,129,UInt8.ofNat (64+k%3)] _ 3 rfl (by exact three_cells (k%3) h3) (by simp)) (by simp)).mono ?_
   rw [(rd_long (k%3) h3).1]
   rintro e w4 ⟨s4,rfl,o4,hb4⟩
   have bw4:Below w.heap.size w w4:=thn (alB bw3 _) hb4
   clear o4 hb4
   go_wp2_with ((with_reducible show wpList _ _ _ (⟨_,.store 28 (.tmp 11) _,_,_,_,_⟩ :: _) _ _);refine stLst (w4.heap.size) (by rfl) _ (pkC pk0 s4) (by rfl) (by rfl) (by rfl) (by rfl) (pkc_one _ _) ?_)
   have bw5:Below w.heap.size w (w4.alloc (.cells (pkC pk0 s4) 28)):=alB bw4 _
   refine (dread_bad (some ⟨w4.heap.size+1,0,none⟩) 3 [48,129,UInt8.ofNat (64+k%3)] _ _ (Nat.le_refl _) (new_bytes _ (w4.heap.size+1) (by simp) [48,129,UInt8.ofNat (64+k%3)] _ 3 rfl (by exact three_cells (k%3) h3) (by simp)) (by simp) 0 0 22 (rd_long (k%3) h3).2 (by decide)).mono ?_
   rintro e w6 ⟨s6,rfl,o6,hb6⟩
   have bw6:Below w.heap.size w w6:=thn (alB bw5 _) hb6
   clear o6 hb6
   go_wp2_with ((with_reducible show wpList _ _ _ (⟨_,.store 28 (.tmp 14) _,_,_,_,_⟩ :: _) _ _);refine stLst (w6.heap.size) (by rfl) _ (pkC pk0 s6) (by rfl) (by rfl) (by rfl) (by rfl) (pkc_one _ _) ?_)
   go_ret
   exact ⟨rfl,alB bw6 _⟩
  ·have h5:decide ((k:Int)%5≤2)=true:=by rw [hln] at hrt;simp at hrt ⊢;omega
   clear hln hl0 hl2 hm
   go_enter Try.func5,Try.ntmps5
   go_wp2_with fail
   refine (known3_any w).mono ?_
   rintro e w1 ⟨rfl,hb1⟩
   go_wp2_with (first
    | ((with_reducible show wpList _ _ _ (⟨_,.makeSlice 22 _ _,_,_,_,_⟩ :: _) _ _);refine mk_at (w1.heap.size) (by rfl) l (m+2) HL hm5 (by rfl) ?_)
    | ((with_reducible show wpList _ _ _ (⟨_,.store 28 (.tmp 6) _,_,_,_,_⟩ :: _) _ _);refine stLst (w1.heap.size+1) (by simp) _ #[.int .i64 3,.bool false,.bool false,.int .i64 0,.int .i64 0,.string ⟨#[97]⟩,.slice (some ⟨w1.heap.size,0,none⟩) l.length l.length,.int .i64 0,.string ⟨#[]⟩,.bool false,.int .i64 0,.bool false,.string ⟨#[]⟩,.slice none 0 0,.int .i64 0,.bool false,.bool false,.bool false,.string ⟨#[]⟩,.slice none 0 0,.bool false,.int .i64 0,.slice none 0 0,.slice none 0 0] (by rfl) (by rfl) (by rfl) (by rfl) (by rfl) ?_)
    | ((with_reducible show wpList _ _ _ (⟨_,.load 28 (.tmp 6),_,_,_,_⟩ :: _) _ _);refine ld_pk (w1.heap.size+1) (by rfl) (by rfl) (pkC (msgA true l2) (svA (some ⟨w1.heap.size,0,none⟩) l.length)) _ _ (by exact heap_last2 _ _ _) (by rfl) ?_))
   rw [show (#[.int .i64 3,.bool false,.bool false,.int .i64 1,.int .i64 7,.string ⟨#[97]⟩,.slice (some ⟨w1.heap.size,0,none⟩) l2.length l.length,.int .i64 0,.string ⟨#[]⟩,.bool false,.int .i64 0,.bool false,.string ⟨#[]⟩,.slice none 0 0,.int .i64 0,.bool false,.bool false,.bool false,.string ⟨#[]⟩,.slice none 0 0,.bool false,.int .i64 0,.slice none 0 0,.slice none 0 0]:Array Value)=pkC (msgA true l2) (svA (some ⟨w1.heap.size,0,none⟩) l.length) from rfl]
   have hpk:PkAt ((w1.alloc (.cells (zC l) 5)).alloc (.cells (pkC (msgA true l2) (svA (some ⟨w1.heap.size,0,none⟩) l.length)) 28)) (w1.heap.size+1) (msgA true l2) (svA (some ⟨w1.heap.size,0,none⟩) l.length):=(msgA_at _ _ _ _ _ _ (HB1.out w1)).to (by simp) ((Below.refl _ _).alloc (Nat.le_refl _) _)
   have r0:((w1.alloc (.cells (zC l) 5)).alloc (.cells (pkC (msgA true l2) (svA (some ⟨w1.heap.size,0,none⟩) l.length)) 28)).heap[w1.heap.size+1]? = some (.cells (pkC (msgA true l2) (svA (some ⟨w1.heap.size,0,none⟩) l.length)) 28 (0,0)):=heap_last2 _ _ _
   have bW:Below w.heap.size w ((w1.alloc (.cells (zC l) 5)).alloc (.cells (pkC (msgA true l2) (svA (some ⟨w1.heap.size,0,none⟩) l.length)) 28)):=alB (alB hb1 _) _
   have hBW:w1.heap.size+1≤((w1.alloc (.cells (zC l) 5)).alloc (.cells (pkC (msgA true l2) (svA (some ⟨w1.heap.size,0,none⟩) l.length)) 28)).heap.size:=by simp
   have HPK:=Lib.hid hpk
   have HNZ:Hid ((some ⟨w1.heap.size,0,none⟩:Option Addr)=none→l.length=0):=Lib.hid (fun e=>by cases e)
   have HRT:=Lib.hid hrt
   clear hpk hrt
   generalize (w1.alloc (.cells (zC l) 5)).alloc (.cells (pkC (msgA true l2) (svA (some ⟨w1.heap.size,0,none⟩) l.length)) 28)=W0 at *
   refine (wput_yes (msgA true l2) (svA (some ⟨w1.heap.size,0,none⟩) l.length) (w1.heap.size+1) W0 HPK.out hBW (msgA_ok _ _ (by have:=H0.out;omega)) ⟨HNZ.out,fun _=>rfl,fun _=>rfl⟩ (by rw [msgA_right,HRT.out])).mono ?_
   unfold PutPost
   rintro e w2 ⟨A1,c1,rfl,o1,hb2⟩
   have r2:=heap_below hb2 r0
   have D2:=Lib.hid (dput_yes (msgA true l2) (svA (some ⟨w1.heap.size,0,none⟩) l.length) (w1.heap.size+1) w2 (HPK.out.to hBW hb2) (Nat.le_trans hBW hb2.size) (show (1:Int)≤3 by decide) (show (3:Int)≤14 by decide) (show (0:Int)≤1 by decide) (show (1:Int)≤2 by decide) (of_decide_eq_true HRT.out) (body_len _) (fun W h1 h2=>(msgA_dright _ _ (by have:=H0.out;omega) _ _ HNZ.out _ W h1 h2).mono fun _ _ h=>⟨h.1.trans (by rw [HRT.out]),h.2⟩) (msgA_body _ _ (by have:=H0.out;omega) _ _ HNZ.out _))
   generalize encP (msgA true l2)=L at *
   have y1:=ownsBytes o1
   go_wp2_with ((with_reducible show wpList _ _ _ (⟨_,.load 28 (.tmp 6),_,_,_,_⟩ :: _) _ _);refine ld_pk (w1.heap.size+1) (by rfl) (by rfl) (pkC (msgA true l2) (svA (some ⟨w1.heap.size,0,none⟩) l.length)) _ _ (by exact r2) (by rfl) ?_)
   refine D2.out.mono ?_
   unfold PutPost
   rintro e w3 ⟨A2,c2,rfl,o2,hb3⟩
   have cv1:=(y1.to (Nat.le_refl _) hb3).conv
   have cv2:=(ownsBytes o2).conv
   clear y1 o1 o2
   have bw3:Below w.heap.size w w3:=thn (thn bW hb2) hb3
   clear hb2 hb3 r0 r2 bW HPK HRT HNZ D2 hb1
   go_wp2_with fail
   refine (wread_any (some ⟨w3.heap.size,0,none⟩) 3 [48,129,UInt8.ofNat (64+k%3)] _ (new_bytes _ (w3.heap.size) (by rfl) [48,129,UInt8.ofNat (64+k%3)] _ 3 rfl (by exact three_cells (k%3) h3) (by simp)) (by simp)).mono ?_
   rw [(rd_long (k%3) h3).1]
   rintro e w4 ⟨s4,rfl,o4,hb4⟩
   have bw4:Below w.heap.size w w4:=thn (alB bw3 _) hb4
   clear o4 hb4
   go_wp2_with ((with_reducible show wpList _ _ _ (⟨_,.store 28 (.tmp 11) _,_,_,_,_⟩ :: _) _ _);refine stLst (w4.heap.size) (by rfl) _ (pkC pk0 s4) (by rfl) (by rfl) (by rfl) (by rfl) (pkc_one _ _) ?_)
   have bw5:Below w.heap.size w (w4.alloc (.cells (pkC pk0 s4) 28)):=alB bw4 _
   refine (dread_bad (some ⟨w4.heap.size+1,0,none⟩) 3 [48,129,UInt8.ofNat (64+k%3)] _ _ (Nat.le_refl _) (new_bytes _ (w4.heap.size+1) (by simp) [48,129,UInt8.ofNat (64+k%3)] _ 3 rfl (by exact three_cells (k%3) h3) (by simp)) (by simp) 0 0 22 (rd_long (k%3) h3).2 (by decide)).mono ?_
   rintro e w6 ⟨s6,rfl,o6,hb6⟩
   have bw6:Below w.heap.size w w6:=thn (alB bw5 _) hb6
   clear o6 hb6
   go_wp2_with ((with_reducible show wpList _ _ _ (⟨_,.store 28 (.tmp 14) _,_,_,_,_⟩ :: _) _ _);refine stLst (w6.heap.size) (by rfl) _ (pkC pk0 s6) (by rfl) (by rfl) (by rfl) (by rfl) (pkc_one _ _) ?_)
   go_ret
   exact ⟨rfl,alB bw6 _⟩
end Go.Proofs.Ytnhpacaoobpkhaa
