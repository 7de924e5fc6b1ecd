import Derived.Test.YtnhpacaoobpkhaaDAll
import Derived.Test.YtnhpacaoobpkhaaGLim
import Derived.Test.YtnhpacaoobpkhaaGRead
import Derived.Test.YtnhpacaoobpkhaaRSame
namespace Go.Proofs.Ytnhpacaoobpkhaa
open Go.RowKit Go.Lib
set_option linter.unusedSimpArgs false
set_option linter.unusedVariables false
set_option maxRecDepth 100000
set_option maxHeartbeats 16000000
def DRdPost (w:World) (t:Pk×Int×Int) (e:Ending) (w':World):Prop :=
 ∃s,e=.returned (.tuple #[pkV t.1 s,.int .i64 t.2.1,.int .i64 t.2.2])∧PkAt w' w'.heap.size t.1 s∧NilOk s∧Below w.heap.size w w'
theorem enc_parts (q:Pk)(h:rightP q=true)(c:UInt8)(r:List UInt8)(k n:Nat)(hb:bndP (c :: r)=(1+(k:Int),1+(k:Int)+(n:Int),0))(hall:encP q=(c :: r).take (1+k+n)):headP q=(c.toNat:Int)∧bodyL q=((c :: r).take (1+k+n)).drop (1+k):=by
 have f:=right_f q h
 obtain ⟨g3,g4⟩:=head_in q f
 have e:c :: r=encP q++(c :: r).drop (1+k+n):=by rw [hall,List.take_append_drop]
 have hx:=bnd_enc q h ((c :: r).drop (1+k+n))
 rw [←e,hb] at hx
 injection hx with hx _
 have e1:encP q=(UInt8.ofNat (headP q).toNat :: putL (lenP q))++bodyL q:=by unfold encP;simp
 refine ⟨?_,?_⟩
 ·rw [show 1+k+n=(k+n)+1 by omega,List.take_succ_cons] at hall
  rw [e1,List.cons_append] at hall
  injection hall with h1 h2
  rw [←h1];exact (byte_of _ g3 g4).symm
 ·rw [←hall,e1]
  rw [show 1+k=(UInt8.ofNat (headP q).toNat :: putL (lenP q)).length by simp only [List.length_cons];omega]
  exact List.drop_left.symm
theorem bytesOf_inj (a b:List UInt8)(h:bytesOfL a=bytesOfL b):a=b:=by
 have:=congrArg (fun s=>s.data.toList) h
 simpa [bytesOfL] using this
theorem str_ne (a b:List UInt8):((⟨a.toArray⟩:ByteArray).toList==(⟨b.toArray⟩:ByteArray).toList)=decide (a=b):=by
 have h:eqS (⟨a.toArray⟩:ByteArray) ⟨b.toArray⟩=true↔(⟨a.toArray⟩:ByteArray)=⟨b.toArray⟩:=eqS_iff
 unfold eqS at h
 rw [Bool.eq_iff_iff,decide_eq_true_iff,h]
 exact ⟨fun q=>bytesOf_inj a b q,fun q=>by rw [q]⟩
theorem dread_in1 (ad:Addr) (cap:Nat) (c:UInt8) (r:List UInt8) (B:Nat) (w:World) (hB:B≤w.heap.size) (hv:BytesAt w B (.slice (some ad) (c :: r).length cap) (c :: r)) (hm:(c :: r).length≤1000000) (k n:Nat)
  (hR:readT r=((n:Int),(k:Int),0)) (hg:begP c.toNat=true) (hn:n≤8192) (hk:k≤4) (hy:1+k+n≤(c :: r).length) (hb:bndP (c :: r)=(1+(k:Int),1+(k:Int)+(n:Int),0)) (hcx:cap≠1+k) :
  Calls Try.prog 25 #[.slice (some ad) (c :: r).length cap] w (DRdPost w (rdP (c :: r))):=by
 have z0:∀W,Below w.heap.size w W→W.cell? ad=some (.int .u8 (c.toNat:Int)):=fun W hW=>cell_zero (hv.to hB hW)
 have hcap:1≤cap∧cap≤9223372036854775807∧(c :: r).length≤cap:=by
  obtain ⟨A',c',hv1,hc,hm',hz',_⟩:=hv
  injection hv1 with v1 v2 v3
  subst v3
  unfold maxLen at hm'
  simp at hc ⊢;omega
 have hu:(c.toNat:Int)≤255:=by have:=c.toNat_lt;omega
 obtain ⟨kh0,kh1⟩:=beg_head (c.toNat:Int) (by omega) hu hg
 have hbw:Below w.heap.size w (w.alloc (.cells (pkC pk0 sv0) 28)):=(Below.refl _ _).alloc (Nat.le_refl _) _
 have HBeg:=Lib.hid (fun W=>rhead_any (c.toNat:Int) (by omega) hu W)
 rw [rbeg_eq _ (by omega) hu,hg] at HBeg
 have hd:=BytesAt.drop hv 1 (by simp)
 have e0:(c :: r).drop 1=r:=rfl
 have hdl:(c :: r).length - 1=r.length:=by simp
 rw [e0,hdl] at hd
 have ea:ad.add 1=⟨ad.block,ad.off+1,none⟩:=rfl
 rw [ea] at hd
 have hr:r.length≤1000000:=by simp at hm;omega
 have HR2:=Lib.hid (fun (W:World) (h:Below w.heap.size w W)=>rread_any _ r W B (hd.below (h.mono hB)) hr _ _ _ hR)
 obtain ⟨all,hall⟩:∃all,all=(c :: r).take (1+k+n):=⟨_,rfl⟩
 obtain ⟨body,hbody⟩:∃body,body=all.drop (1+k):=⟨_,rfl⟩
 have hal:all.length=1+k+n:=by rw [hall,List.length_take];omega
 have hbl:body.length=n:=by rw [hbody,List.length_drop];omega
 have HALL:=Lib.hid (fun (W:World) (h:Below w.heap.size w W)=>(BytesAt.tk hv (1+k+n) hy).below (h.mono hB))
 rw [←hall] at HALL
 have hparts:∀q,rightP q=true→encP q=all→(headP q=(c.toNat:Int)∧bodyL q=body):=fun q h1 h2=>by rw [hbody,hall];exact enc_parts q h1 c r k n hb (by rw [h2,hall])
 have hrd:rdP (c :: r)=if rightP (parR c.toNat body) && decide (encP (parR c.toNat body)=all) then (parR c.toNat body,1+(k:Int)+((n:Nat):Int),0) else (pk0,0,21):=by
  simp only [rdP]
  rw [hb]
  simp only [ne_eq,not_true_eq_false,if_false]
  rw [show (1+(k:Int)+(n:Nat)).toNat=1+k+n by omega,show (1+(k:Int)).toNat=1+k by omega,←hall,←hbody]
 obtain ⟨hA,hBd⟩:=doc_prog c all (1+k) body (by rw [hall,show 1+k+n=(k+n)+1 by omega,List.take_succ_cons];rfl) hbody hparts
 obtain ⟨okp,lip⟩:=parD_ok (c.toNat:Int) (by omega) hu (body,false) (by simp only [hbl];omega)
 have HP:=Lib.hid (fun W rr (h:PtS W B rr (body,false))=>dpar_any (c.toNat:Int) (by omega) hu kh0 kh1 B rr (body,false) W h)
 have YES:rightP (parD c.toNat (body,false)).1=true→encP (parD c.toNat (body,false)).1=all→rdP (c :: r)=((parD c.toNat (body,false)).1,1+(k:Int)+((n:Nat):Int),0)∧(parD c.toNat (body,false)).2=([],false):=fun h1 h2=>by
  have e:=hBd h1 h2
  have e2:=hA _ (by rw [e];exact h1) (by rw [e];exact h2) rfl
  refine ⟨?_,by rw [e2]⟩
  rw [hrd,e,h1,h2];simp
 have NO:¬(rightP (parD c.toNat (body,false)).1=true∧encP (parD c.toNat (body,false)).1=all)→rdP (c :: r)=(pk0,0,21):=fun h=>by
  rw [hrd,if_neg]
  intro q
  simp only [Bool.and_eq_true,decide_eq_true_eq] at q
  have e2:=hA _ q.1 q.2 rfl
  apply h
  rw [e2];exact q
 generalize rdP (c :: r)=RES at *
 clear hrd hA hBd hparts e0 ea hR hb hg kh0 kh1 hd hdl
 obtain ⟨⟨p,S⟩,hp⟩:∃z,parD (c.toNat:Int) (body,false)=z:=⟨_,rfl⟩
 rw [hp] at YES NO okp lip HP
 simp only at YES NO okp lip HP
 clear hp
 have hbody2:∀W,Below w.heap.size w W→BytesAt W B (.slice (some (ad.add (1+k))) body.length (cap - (1+k))) body:=fun W hW=>by
  have q:=(BytesAt.tk hv (1+k+n) hy).below (hW.mono hB)
  rw [←hall] at q
  have q2:=BytesAt.drop q (1+k) (by omega)
  rw [←hbody,show all.length - (1+k)=body.length by omega] at q2
  exact q2
 have HBD:=Lib.hid hbody2
 have Z0:=Lib.hid z0
 have z1:∀C t q,(w.alloc (.cells C t q)).cell? ad=some (.int .u8 (c.toNat:Int)):=fun C t q=>z0 _ ((Below.refl _ _).alloc (Nat.le_refl _) _)
 have HV:=Lib.hid (And.intro YES NO)
 have OK:=Lib.hid (And.intro okp lip)
 clear hbody2 hall hbody hv YES NO okp lip z0
 have hL:(c :: r).length=r.length+1:=by simp
 rw [hL] at hy hcap hm ⊢
 generalize r.length=L at *
 have HAL:=Lib.hid hal
 have HBL:=Lib.hid hbl
 clear hal hbl hL
 generalize (c.toNat:Int)=cc at *
 go_enter Try.func25,Try.ntmps25
 go_wp2_with fail
 refine (HBeg.out _).mono ?_
 rintro e w1 ⟨rfl,rfl⟩
 go_wp2_with fail
 refine (HR2.out _ hbw).mono ?_
 rintro e w2 ⟨rfl,rfl⟩
 have z2:∀C C2 t t2 q q2,((w.alloc (.cells C2 t2 q2)).alloc (.cells C t q)).cell? ad=some (.int .u8 cc):=fun C C2 t t2 q q2=>Z0.out _ (((Below.refl _ _).alloc (Nat.le_refl _) _).alloc (by simp) _)
 go_wp2_with fail
 have hb3:Below w.heap.size w ((w.alloc (.cells (pkC pk0 sv0) 28)).alloc (.cells #[.slice (some (ad.add (1+k))) n (cap - (1+k)),.int .i64 0,.bool false] 91)):=hbw.alloc (by simp) _
 have hps:PtS ((w.alloc (.cells (pkC pk0 sv0) 28)).alloc (.cells #[.slice (some (ad.add (1+k))) n (cap - (1+k)),.int .i64 0,.bool false] 91)) B (w.heap.size+1) (body,false):=by
  refine ⟨(ad.add (1+k)),(cap - (1+k)),body,0,⟨?_,HBD.out _ hb3,by omega,Nat.zero_le _,by rw [HBL.out];omega⟩,rfl⟩
  rw [HBL.out];exact heap_last2 _ _ _
 refine (HP.out _ _ hps).mono ?_
 rintro e w3 ⟨s,rfl,hrow,hpt,ht⟩
 have hgs:w.heap.size+1<w3.heap.size:=hpt.lt
 have R3:Hid (w3.heap[w.heap.size]? = some (.cells (pkC pk0 sv0) 28 (0,0))):=Lib.hid ((ht.below.block _ (by omega)).trans (heap_keep (heap_alloc_last _ _)))
 have B3:Hid (Below w.heap.size w w3):=Lib.hid (hb3.trans (ht.below.mono (by omega)))
 have HROW:Hid (DRows w3 B (w.heap.size+2) p s):=Lib.hid (by rw [←(show ∀o1 o2,((w.alloc o1).alloc o2).heap.size=w.heap.size+2 from fun _ _=>by simp)];exact hrow)
 have HPT:=Lib.hid hpt
 clear hrow hpt ht hps hb3 z1 z2 HBeg HR2 HP HBD Z0 hbw
 obtain ⟨W4,hW4⟩:∃W4,W4=w3.alloc (.cells (pkC p s) 28):=⟨_,rfl⟩
 have hb4:Below w3.heap.size w3 W4:=by rw [hW4];exact (Below.refl _ _).alloc (Nat.le_refl _) _
 have g4:W4.heap[w3.heap.size]? = some (.cells (pkC p s) 28 (0,0)):=by rw [hW4];exact heap_alloc_last _ _
 have HROW4:=Lib.hid (HROW.out.below hb4 (by omega))
 have HPT4:=Lib.hid (HPT.out.more hb4)
 have R4:=Lib.hid (heap_below hb4 R3.out)
 have B4:=Lib.hid (thn B3.out hb4)
 have G4:=Lib.hid g4
 have hgs4:w3.heap.size<W4.heap.size:=by rw [hW4];simp
 clear hb4 g4 HROW HPT R3 B3
 obtain ⟨gp,hgp⟩:∃gp,gp=w3.heap.size:=⟨_,rfl⟩
 rw [←hgp] at G4 hgs4 hgs
 go_wp2_with (first
  | ((with_reducible show wpList _ _ _ (⟨_,.store 28 (.tmp 10) _,_,_,_,_⟩ :: _) _ _);refine stLst (w3.heap.size) (by rfl) _ (pkC p s) (by rfl) (by rfl) (by rfl) (by rfl) (pkc_one _ _) ?_;rw [←hW4,←hgp];clear hW4 hgp)
  | ((with_reducible show wpList _ _ _ (⟨_,.load 28 (.tmp 10),_,_,_,_⟩ :: _) _ _);refine ld_pk gp (by rfl) (by rfl) (pkC p s) _ _ (by exact G4.out) (by rfl) ?_))
 rcases hRt:rightP p with _ | _
 ·have e1:=HV.out.2 (by rw [hRt];intro q;cases q.1)
  obtain ⟨pka,nila⟩:=HROW4.out.at_ (by omega)
  refine (dput_all_no p s W4.heap.size W4 pka (Nat.le_refl _) OK.out.1 nila.p OK.out.2 hRt).mono ?_
  rintro e w5 ⟨rfl,hb5⟩
  have R5:=Lib.hid (heap_below hb5 R4.out)
  have B5:=Lib.hid (thn B4.out hb5)
  have q2:=(HPT4.out.more hb5).cell2
  clear pka nila hb5
  rcases S with ⟨SL,SB⟩
  simp only at q2
  cases SB with
  | false =>
   go_wp2_with ((with_reducible show wpList _ _ _ (⟨_,.store 28 (.tmp 2) _,_,_,_,_⟩ :: _) _ _);refine stR (w.heap.size) _ (pkC (pk0) (sv0)) (by rfl) (by rfl) (by exact R5.out) (by rfl) (by rfl) (pkc_one _ _) ?_)
   refine bodyPost_ret (results_row2 (by rfl) _ _ (w.heap.size) _ (by rfl) (ldv_pk (setRow_heap _ _ _ _ _ _ (by exact R5.out)))) (by rfl) ?_
   rw [e1]
   exact ⟨sv0,rfl,pk0_at _ _,sv0_nil,below_setRow B5.out (Nat.le_refl _) _⟩
  | true =>
   go_wp2_with ((with_reducible show wpList _ _ _ (⟨_,.store 28 (.tmp 2) _,_,_,_,_⟩ :: _) _ _);refine stR (w.heap.size) _ (pkC (pk0) (sv0)) (by rfl) (by rfl) (by exact R5.out) (by rfl) (by rfl) (pkc_one _ _) ?_)
   refine bodyPost_ret (results_row2 (by rfl) _ _ (w.heap.size) _ (by rfl) (ldv_pk (setRow_heap _ _ _ _ _ _ (by exact R5.out)))) (by rfl) ?_
   rw [e1]
   exact ⟨sv0,rfl,pk0_at _ _,sv0_nil,below_setRow B5.out (Nat.le_refl _) _⟩
 ·obtain ⟨pka,nila⟩:=HROW4.out.at_ (by omega)
  refine (dput_all_yes p s W4.heap.size W4 pka (Nat.le_refl _) OK.out.1 nila.p OK.out.2 hRt).mono ?_
  rintro e w5 ⟨A5,c5,rfl,o5,hb5⟩
  have R5:=Lib.hid (heap_below hb5 R4.out)
  have B5:=Lib.hid (thn B4.out hb5)
  have G5:=Lib.hid (heap_below hb5 G4.out)
  have q2:=(HPT4.out.more hb5).cell2
  have cv5:=(ownsBytes o5).conv
  have cva:=(HALL.out w5 B5.out).conv
  have ROW5:=Lib.hid (HROW4.out.below hb5 (by omega))
  have hs5:=hb5.size
  clear pka nila hb5 o5
  have hse:=str_ne (encP p) all
  have hse2:(encP p==all)=decide (encP p=all):=by rw [Bool.eq_iff_iff,beq_iff_eq,decide_eq_true_iff]
  rcases S with ⟨SL,SB⟩
  simp only at q2
  cases hE:decide (encP p=all) with
  | false =>
   rw [hE] at hse hse2
   have e1:=HV.out.2 (by intro q;rw [decide_eq_true q.2] at hE;cases hE)
   generalize (encP p).length=EL at *
   cases SB with
   | false =>
    go_wp2_with ((with_reducible show wpList _ _ _ (⟨_,.store 28 (.tmp 2) _,_,_,_,_⟩ :: _) _ _);refine stR (w.heap.size) _ (pkC (pk0) (sv0)) (by rfl) (by rfl) (by exact R5.out) (by rfl) (by rfl) (pkc_one _ _) ?_)
    refine bodyPost_ret (results_row2 (by rfl) _ _ (w.heap.size) _ (by rfl) (ldv_pk (setRow_heap _ _ _ _ _ _ (by exact R5.out)))) (by rfl) ?_
    rw [e1]
    exact ⟨sv0,rfl,pk0_at _ _,sv0_nil,below_setRow B5.out (Nat.le_refl _) _⟩
   | true =>
    go_wp2_with ((with_reducible show wpList _ _ _ (⟨_,.store 28 (.tmp 2) _,_,_,_,_⟩ :: _) _ _);refine stR (w.heap.size) _ (pkC (pk0) (sv0)) (by rfl) (by rfl) (by exact R5.out) (by rfl) (by rfl) (pkc_one _ _) ?_)
    refine bodyPost_ret (results_row2 (by rfl) _ _ (w.heap.size) _ (by rfl) (ldv_pk (setRow_heap _ _ _ _ _ _ (by exact R5.out)))) (by rfl) ?_
    rw [e1]
    exact ⟨sv0,rfl,pk0_at _ _,sv0_nil,below_setRow B5.out (Nat.le_refl _) _⟩
  | true =>
   rw [hE] at hse hse2
   obtain ⟨e1,e2⟩:=HV.out.1 hRt (by simpa using hE)
   injection e2 with e2 e3
   subst e2 e3
   generalize (encP p).length=EL at *
   go_wp2_with (first
    | ((with_reducible show wpList _ _ _ (⟨_,.load 28 (.tmp 10),_,_,_,_⟩ :: _) _ _);refine ld_pk gp (by rfl) (by rfl) (pkC p s) _ _ (by exact G5.out) (by rfl) ?_)
    | ((with_reducible show wpList _ _ _ (⟨_,.store 28 (.tmp 2) _,_,_,_,_⟩ :: _) _ _);refine stR (w.heap.size) _ (pkC (p) (s)) (by rfl) (by rfl) (by exact R5.out) (by rfl) (by rfl) (pkc_one _ _) ?_))
   refine bodyPost_ret (results_row2 (by rfl) _ _ (w.heap.size) _ (by rfl) (ldv_pk (setRow_heap _ _ _ _ _ _ (by exact R5.out)))) (by rfl) ?_
   rw [e1]
   obtain ⟨pkb,nilb⟩:=(ROW5.out.setRow w.heap.size hB (by omega) (pkC p s)).at_ (by rw [setRow_size];omega)
   exact ⟨s,by simp,pkb,nilb,below_setRow B5.out (Nat.le_refl _) _⟩
theorem dread_in0 (ad:Addr) (cap:Nat) (c:UInt8) (r:List UInt8) (B:Nat) (w:World) (hB:B≤w.heap.size) (hv:BytesAt w B (.slice (some ad) (c :: r).length cap) (c :: r)) (hm:(c :: r).length≤1000000) (k n:Nat)
  (hR:readT r=((n:Int),(k:Int),0)) (hg:begP c.toNat=true) (hn:n≤8192) (hk:k≤4) (hy:1+k+n≤(c :: r).length) (hb:bndP (c :: r)=(1+(k:Int),1+(k:Int)+(n:Int),0)) (hcx:cap=1+k) :
  Calls Try.prog 25 #[.slice (some ad) (c :: r).length cap] w (DRdPost w (rdP (c :: r))):=by
 have z0:∀W,Below w.heap.size w W→W.cell? ad=some (.int .u8 (c.toNat:Int)):=fun W hW=>cell_zero (hv.to hB hW)
 have hcap:1≤cap∧cap≤9223372036854775807∧(c :: r).length≤cap:=by
  obtain ⟨A',c',hv1,hc,hm',hz',_⟩:=hv
  injection hv1 with v1 v2 v3
  subst v3
  unfold maxLen at hm'
  simp at hc ⊢;omega
 have n0:n=0:=by omega
 subst n0
 have hc1:cap≠1:=fun e=>by
  have h1:r=[]:=List.eq_nil_of_length_eq_zero (by simp only [List.length_cons] at hcap;omega)
  rw [h1] at hR
  exact absurd (show (20:Int)=0 from congrArg (fun z=>z.2.2) hR) (by decide)
 have HCX:=Lib.hid hcx
 have hcx2:(cap=1+k)=True:=by simp [hcx]
 clear hcx
 have hu:(c.toNat:Int)≤255:=by have:=c.toNat_lt;omega
 obtain ⟨kh0,kh1⟩:=beg_head (c.toNat:Int) (by omega) hu hg
 have hbw:Below w.heap.size w (w.alloc (.cells (pkC pk0 sv0) 28)):=(Below.refl _ _).alloc (Nat.le_refl _) _
 have HBeg:=Lib.hid (fun W=>rhead_any (c.toNat:Int) (by omega) hu W)
 rw [rbeg_eq _ (by omega) hu,hg] at HBeg
 have hd:=BytesAt.drop hv 1 (by simp)
 have e0:(c :: r).drop 1=r:=rfl
 have hdl:(c :: r).length - 1=r.length:=by simp
 rw [e0,hdl] at hd
 have ea:ad.add 1=⟨ad.block,ad.off+1,none⟩:=rfl
 rw [ea] at hd
 have hr:r.length≤1000000:=by simp at hm;omega
 have HR2:=Lib.hid (fun (W:World) (h:Below w.heap.size w W)=>rread_any _ r W B (hd.below (h.mono hB)) hr _ _ _ hR)
 obtain ⟨all,hall⟩:∃all,all=(c :: r).take (1+k+0):=⟨_,rfl⟩
 obtain ⟨body,hbody⟩:∃body,body=all.drop (1+k):=⟨_,rfl⟩
 have hal:all.length=1+k+0:=by rw [hall,List.length_take];omega
 have hbl:body.length=0:=by rw [hbody,List.length_drop];omega
 have HALL:=Lib.hid (fun (W:World) (h:Below w.heap.size w W)=>(BytesAt.tk hv (1+k+0) hy).below (h.mono hB))
 rw [←hall] at HALL
 have hparts:∀q,rightP q=true→encP q=all→(headP q=(c.toNat:Int)∧bodyL q=body):=fun q h1 h2=>by rw [hbody,hall];exact enc_parts q h1 c r k 0 hb (by rw [h2,hall])
 have hrd:rdP (c :: r)=if rightP (parR c.toNat body) && decide (encP (parR c.toNat body)=all) then (parR c.toNat body,1+(k:Int)+((0:Nat):Int),0) else (pk0,0,21):=by
  simp only [rdP]
  rw [hb]
  simp only [ne_eq,not_true_eq_false,if_false]
  rw [show (1+(k:Int)+(0:Nat)).toNat=1+k+0 by omega,show (1+(k:Int)).toNat=1+k by omega,←hall,←hbody]
 obtain ⟨hA,hBd⟩:=doc_prog c all (1+k) body (by rw [hall,show 1+k+0=(k+0)+1 by omega,List.take_succ_cons];rfl) hbody hparts
 obtain ⟨okp,lip⟩:=parD_ok (c.toNat:Int) (by omega) hu (body,false) (by simp only [hbl];omega)
 have HP:=Lib.hid (fun W rr (h:PtS W B rr (body,false))=>dpar_any (c.toNat:Int) (by omega) hu kh0 kh1 B rr (body,false) W h)
 have YES:rightP (parD c.toNat (body,false)).1=true→encP (parD c.toNat (body,false)).1=all→rdP (c :: r)=((parD c.toNat (body,false)).1,1+(k:Int)+((0:Nat):Int),0)∧(parD c.toNat (body,false)).2=([],false):=fun h1 h2=>by
  have e:=hBd h1 h2
  have e2:=hA _ (by rw [e];exact h1) (by rw [e];exact h2) rfl
  refine ⟨?_,by rw [e2]⟩
  rw [hrd,e,h1,h2];simp
 have NO:¬(rightP (parD c.toNat (body,false)).1=true∧encP (parD c.toNat (body,false)).1=all)→rdP (c :: r)=(pk0,0,21):=fun h=>by
  rw [hrd,if_neg]
  intro q
  simp only [Bool.and_eq_true,decide_eq_true_eq] at q
  have e2:=hA _ q.1 q.2 rfl
  apply h
  rw [e2];exact q
 generalize rdP (c :: r)=RES at *
 clear hrd hA hBd hparts e0 ea hR hb hg kh0 kh1 hd hdl
 obtain ⟨⟨p,S⟩,hp⟩:∃z,parD (c.toNat:Int) (body,false)=z:=⟨_,rfl⟩
 rw [hp] at YES NO okp lip HP
 simp only at YES NO okp lip HP
 clear hp
 have hbody2:∀W,Below w.heap.size w W→BytesAt W B (.slice (some ad) body.length 0) body:=fun W hW=>by
  have q:=(BytesAt.tk hv (1+k+0) hy).below (hW.mono hB)
  rw [←hall] at q
  rw [List.eq_nil_of_length_eq_zero hbl]
  exact BytesAt.void W B ad _ (by unfold maxLen;omega)
 have HBD:=Lib.hid hbody2
 have Z0:=Lib.hid z0
 have z1:∀C t q,(w.alloc (.cells C t q)).cell? ad=some (.int .u8 (c.toNat:Int)):=fun C t q=>z0 _ ((Below.refl _ _).alloc (Nat.le_refl _) _)
 have HV:=Lib.hid (And.intro YES NO)
 have OK:=Lib.hid (And.intro okp lip)
 clear hbody2 hall hbody hv YES NO okp lip z0
 have hL:(c :: r).length=r.length+1:=by simp
 rw [hL] at hy hcap hm ⊢
 generalize r.length=L at *
 have HAL:=Lib.hid hal
 have HBL:=Lib.hid hbl
 clear hal hbl hL
 generalize (c.toNat:Int)=cc at *
 go_enter Try.func25,Try.ntmps25
 go_wp2_with fail
 refine (HBeg.out _).mono ?_
 rintro e w1 ⟨rfl,rfl⟩
 go_wp2_with fail
 refine (HR2.out _ hbw).mono ?_
 rintro e w2 ⟨rfl,rfl⟩
 have z2:∀C C2 t t2 q q2,((w.alloc (.cells C2 t2 q2)).alloc (.cells C t q)).cell? ad=some (.int .u8 cc):=fun C C2 t t2 q q2=>Z0.out _ (((Below.refl _ _).alloc (Nat.le_refl _) _).alloc (by simp) _)
 go_wp2_with fail
 have hb3:Below w.heap.size w ((w.alloc (.cells (pkC pk0 sv0) 28)).alloc (.cells #[.slice (some ad) 0 0,.int .i64 0,.bool false] 91)):=hbw.alloc (by simp) _
 have hps:PtS ((w.alloc (.cells (pkC pk0 sv0) 28)).alloc (.cells #[.slice (some ad) 0 0,.int .i64 0,.bool false] 91)) B (w.heap.size+1) (body,false):=by
  refine ⟨ad,0,body,0,⟨?_,HBD.out _ hb3,by omega,Nat.zero_le _,by rw [HBL.out];omega⟩,rfl⟩
  rw [HBL.out];exact heap_last2 _ _ _
 refine (HP.out _ _ hps).mono ?_
 rintro e w3 ⟨s,rfl,hrow,hpt,ht⟩
 have hgs:w.heap.size+1<w3.heap.size:=hpt.lt
 have R3:Hid (w3.heap[w.heap.size]? = some (.cells (pkC pk0 sv0) 28 (0,0))):=Lib.hid ((ht.below.block _ (by omega)).trans (heap_keep (heap_alloc_last _ _)))
 have B3:Hid (Below w.heap.size w w3):=Lib.hid (hb3.trans (ht.below.mono (by omega)))
 have HROW:Hid (DRows w3 B (w.heap.size+2) p s):=Lib.hid (by rw [←(show ∀o1 o2,((w.alloc o1).alloc o2).heap.size=w.heap.size+2 from fun _ _=>by simp)];exact hrow)
 have HPT:=Lib.hid hpt
 clear hrow hpt ht hps hb3 z1 z2 HBeg HR2 HP HBD Z0 hbw
 obtain ⟨W4,hW4⟩:∃W4,W4=w3.alloc (.cells (pkC p s) 28):=⟨_,rfl⟩
 have hb4:Below w3.heap.size w3 W4:=by rw [hW4];exact (Below.refl _ _).alloc (Nat.le_refl _) _
 have g4:W4.heap[w3.heap.size]? = some (.cells (pkC p s) 28 (0,0)):=by rw [hW4];exact heap_alloc_last _ _
 have HROW4:=Lib.hid (HROW.out.below hb4 (by omega))
 have HPT4:=Lib.hid (HPT.out.more hb4)
 have R4:=Lib.hid (heap_below hb4 R3.out)
 have B4:=Lib.hid (thn B3.out hb4)
 have G4:=Lib.hid g4
 have hgs4:w3.heap.size<W4.heap.size:=by rw [hW4];simp
 clear hb4 g4 HROW HPT R3 B3
 obtain ⟨gp,hgp⟩:∃gp,gp=w3.heap.size:=⟨_,rfl⟩
 rw [←hgp] at G4 hgs4 hgs
 go_wp2_with (first
  | ((with_reducible show wpList _ _ _ (⟨_,.store 28 (.tmp 10) _,_,_,_,_⟩ :: _) _ _);refine stLst (w3.heap.size) (by rfl) _ (pkC p s) (by rfl) (by rfl) (by rfl) (by rfl) (pkc_one _ _) ?_;rw [←hW4,←hgp];clear hW4 hgp)
  | ((with_reducible show wpList _ _ _ (⟨_,.load 28 (.tmp 10),_,_,_,_⟩ :: _) _ _);refine ld_pk gp (by rfl) (by rfl) (pkC p s) _ _ (by exact G4.out) (by rfl) ?_))
 rcases hRt:rightP p with _ | _
 ·have e1:=HV.out.2 (by rw [hRt];intro q;cases q.1)
  obtain ⟨pka,nila⟩:=HROW4.out.at_ (by omega)
  refine (dput_all_no p s W4.heap.size W4 pka (Nat.le_refl _) OK.out.1 nila.p OK.out.2 hRt).mono ?_
  rintro e w5 ⟨rfl,hb5⟩
  have R5:=Lib.hid (heap_below hb5 R4.out)
  have B5:=Lib.hid (thn B4.out hb5)
  have q2:=(HPT4.out.more hb5).cell2
  clear pka nila hb5
  rcases S with ⟨SL,SB⟩
  simp only at q2
  cases SB with
  | false =>
   go_wp2_with ((with_reducible show wpList _ _ _ (⟨_,.store 28 (.tmp 2) _,_,_,_,_⟩ :: _) _ _);refine stR (w.heap.size) _ (pkC (pk0) (sv0)) (by rfl) (by rfl) (by exact R5.out) (by rfl) (by rfl) (pkc_one _ _) ?_)
   refine bodyPost_ret (results_row2 (by rfl) _ _ (w.heap.size) _ (by rfl) (ldv_pk (setRow_heap _ _ _ _ _ _ (by exact R5.out)))) (by rfl) ?_
   rw [e1]
   exact ⟨sv0,rfl,pk0_at _ _,sv0_nil,below_setRow B5.out (Nat.le_refl _) _⟩
  | true =>
   go_wp2_with ((with_reducible show wpList _ _ _ (⟨_,.store 28 (.tmp 2) _,_,_,_,_⟩ :: _) _ _);refine stR (w.heap.size) _ (pkC (pk0) (sv0)) (by rfl) (by rfl) (by exact R5.out) (by rfl) (by rfl) (pkc_one _ _) ?_)
   refine bodyPost_ret (results_row2 (by rfl) _ _ (w.heap.size) _ (by rfl) (ldv_pk (setRow_heap _ _ _ _ _ _ (by exact R5.out)))) (by rfl) ?_
   rw [e1]
   exact ⟨sv0,rfl,pk0_at _ _,sv0_nil,below_setRow B5.out (Nat.le_refl _) _⟩
 ·obtain ⟨pka,nila⟩:=HROW4.out.at_ (by omega)
  refine (dput_all_yes p s W4.heap.size W4 pka (Nat.le_refl _) OK.out.1 nila.p OK.out.2 hRt).mono ?_
  rintro e w5 ⟨A5,c5,rfl,o5,hb5⟩
  have R5:=Lib.hid (heap_below hb5 R4.out)
  have B5:=Lib.hid (thn B4.out hb5)
  have G5:=Lib.hid (heap_below hb5 G4.out)
  have q2:=(HPT4.out.more hb5).cell2
  have cv5:=(ownsBytes o5).conv
  have cva:=(HALL.out w5 B5.out).conv
  rw [HCX.out,Nat.add_zero] at cva
  have ROW5:=Lib.hid (HROW4.out.below hb5 (by omega))
  have hs5:=hb5.size
  clear pka nila hb5 o5
  have hse:=str_ne (encP p) all
  have hse2:(encP p==all)=decide (encP p=all):=by rw [Bool.eq_iff_iff,beq_iff_eq,decide_eq_true_iff]
  rcases S with ⟨SL,SB⟩
  simp only at q2
  cases hE:decide (encP p=all) with
  | false =>
   rw [hE] at hse hse2
   have e1:=HV.out.2 (by intro q;rw [decide_eq_true q.2] at hE;cases hE)
   generalize (encP p).length=EL at *
   cases SB with
   | false =>
    go_wp2_with ((with_reducible show wpList _ _ _ (⟨_,.store 28 (.tmp 2) _,_,_,_,_⟩ :: _) _ _);refine stR (w.heap.size) _ (pkC (pk0) (sv0)) (by rfl) (by rfl) (by exact R5.out) (by rfl) (by rfl) (pkc_one _ _) ?_)
    refine bodyPost_ret (results_row2 (by rfl) _ _ (w.heap.size) _ (by rfl) (ldv_pk (setRow_heap _ _ _ _ _ _ (by exact R5.out)))) (by rfl) ?_
    rw [e1]
    exact ⟨sv0,rfl,pk0_at _ _,sv0_nil,below_setRow B5.out (Nat.le_refl _) _⟩
   | true =>
    go_wp2_with ((with_reducible show wpList _ _ _ (⟨_,.store 28 (.tmp 2) _,_,_,_,_⟩ :: _) _ _);refine stR (w.heap.size) _ (pkC (pk0) (sv0)) (by rfl) (by rfl) (by exact R5.out) (by rfl) (by rfl) (pkc_one _ _) ?_)
    refine bodyPost_ret (results_row2 (by rfl) _ _ (w.heap.size) _ (by rfl) (ldv_pk (setRow_heap _ _ _ _ _ _ (by exact R5.out)))) (by rfl) ?_
    rw [e1]
    exact ⟨sv0,rfl,pk0_at _ _,sv0_nil,below_setRow B5.out (Nat.le_refl _) _⟩
  | true =>
   rw [hE] at hse hse2
   obtain ⟨e1,e2⟩:=HV.out.1 hRt (by simpa using hE)
   injection e2 with e2 e3
   subst e2 e3
   generalize (encP p).length=EL at *
   go_wp2_with (first
    | ((with_reducible show wpList _ _ _ (⟨_,.load 28 (.tmp 10),_,_,_,_⟩ :: _) _ _);refine ld_pk gp (by rfl) (by rfl) (pkC p s) _ _ (by exact G5.out) (by rfl) ?_)
    | ((with_reducible show wpList _ _ _ (⟨_,.store 28 (.tmp 2) _,_,_,_,_⟩ :: _) _ _);refine stR (w.heap.size) _ (pkC (p) (s)) (by rfl) (by rfl) (by exact R5.out) (by rfl) (by rfl) (pkc_one _ _) ?_))
   refine bodyPost_ret (results_row2 (by rfl) _ _ (w.heap.size) _ (by rfl) (ldv_pk (setRow_heap _ _ _ _ _ _ (by exact R5.out)))) (by rfl) ?_
   rw [e1]
   obtain ⟨pkb,nilb⟩:=(ROW5.out.setRow w.heap.size hB (by omega) (pkC p s)).at_ (by rw [setRow_size];omega)
   exact ⟨s,by simp,pkb,nilb,below_setRow B5.out (Nat.le_refl _) _⟩
theorem rd_drd {w w':World}{t:Pk×Int×Int}{e:Ending}(h:RdPost w t e w'):DRdPost w t e w':=by
 obtain ⟨s,h1,h2,h3⟩:=h
 exact ⟨s,h1,h2.at_,h2.nil,h3⟩
theorem dread_any (A:Option Addr)(cap:Nat)(b:List UInt8)(B:Nat)(w:World)(hB:B≤w.heap.size)(hv:BytesAt w B (.slice A b.length cap) b)(hm:b.length≤1000000) :
  Calls Try.prog 25 #[.slice A b.length cap] w (DRdPost w (rdP b)):=by
 rcases b with _ | ⟨c,r⟩
 ·exact (dread_bad A cap [] B w hB hv hm 0 0 20 rfl (by decide)).mono fun e w' h=>rd_drd h
 ·by_cases hz:(bndP (c :: r)).2.2≠0
  ·have e:rdP (c :: r)=(pk0,0,(bndP (c :: r)).2.2):=by simp only [rdP];rw [if_pos hz]
   rw [e]
   exact (dread_bad A cap (c :: r) B w hB hv hm _ _ _ rfl hz).mono fun e w' h=>rd_drd h
  ·simp only [ne_eq,Decidable.not_not] at hz
   obtain ⟨h1,h2,h3,h4,h5,h6,h7,h8,h9⟩:=bnd_ok c r hz
   obtain ⟨a1,a2,a3,a4,a5⟩:=readT_in r
   rcases A with _ | ad
   ·obtain ⟨A',c',hv1,hc,hm',hn,_⟩:=hv
    injection hv1 with v1 v2 v3
    have:=hn v1.symm
    cases this
   have hT:readT r=(((readT r).1.toNat:Int),((readT r).2.1.toNat:Int),0):=by rw [Int.toNat_of_nonneg a1,Int.toNat_of_nonneg a2,←h9]
   have hb:bndP (c :: r)=(1+((readT r).2.1.toNat:Int),1+((readT r).2.1.toNat:Int)+((readT r).1.toNat:Int),0):=by rw [Int.toNat_of_nonneg a1,Int.toNat_of_nonneg a2,←h8,←h7];exact Prod.ext rfl (Prod.ext rfl hz)
   by_cases hcx:cap=1+(readT r).2.1.toNat
   ·exact dread_in0 ad cap c r B w hB hv hm _ _ hT h1 (by omega) (by omega) (by omega) hb hcx
   ·exact dread_in1 ad cap c r B w hB hv hm _ _ hT h1 (by omega) (by omega) (by omega) hb hcx
def RowAt (W:World) (G:Nat) (v:Value):Prop:=∃A cap l,v=.slice A l.length cap∧l.length≤1000000∧BytesAt W G v l
theorem RowAt.below {W W':World}{G:Nat}{v:Value}(h:RowAt W G v)(hb:Below G W W'):RowAt W' G v:=by
 obtain ⟨A,cap,l,h1,h2,h3⟩:=h
 exact ⟨A,cap,l,h1,h2,h3.below hb⟩
theorem RowAt.on {W W':World}{v:Value}(h:RowAt W W.heap.size v)(hb:Below W.heap.size W W'):RowAt W' W'.heap.size v:=by
 obtain ⟨A,cap,l,h1,h2,h3⟩:=h
 exact ⟨A,cap,l,h1,h2,h3.on hb⟩
theorem RowAt.alc {W:World}{v:Value}(h:RowAt W W.heap.size v)(o:Obj):RowAt (W.alloc o) (W.alloc o).heap.size v:=h.on ((Below.refl _ _).alloc (Nat.le_refl _) _)
theorem RowAt.new (W:World)(g:Nat)(hg:W.heap.size=g)(l:List UInt8)(C:Array Value)(n:Nat)(hn:n=l.length)(hC:C=(l.map fun b=>Value.int .u8 (b.toNat:Int)).toArray)(hm:l.length≤1000) :
  RowAt (W.alloc (.cells C 5)) (W.alloc (.cells C 5)).heap.size (.slice (some ⟨g,0,none⟩) n n):=by
 subst hn
 exact ⟨_,_,l,rfl,by omega,new_bytes W g hg l C _ rfl hC hm⟩
theorem RowAt.own {W:World}{base:Nat}{A:Option Addr}{c n:Nat}{l:List UInt8}(h:W.ownsRow base 5 1 (.slice A n c) n (Lib.byteCells l))(hn:n=l.length)(hm:l.length≤1000000):RowAt W W.heap.size (.slice A n c):=by
 subst hn
 exact ⟨A,c,l,rfl,hm,ownsBytes h⟩
def RowsAt (W:World) (G g N:Nat):Prop:=g<G∧G≤W.heap.size∧∀j,j<N→∃v,W.cell? ⟨g,j,none⟩=some v∧RowAt W G v
theorem RowsAt.below {W W':World}{G g N:Nat}(h:RowsAt W G g N)(hb:Below W.heap.size W W'):RowsAt W' G g N:=by
 obtain ⟨h1,h2,h3⟩:=h
 refine ⟨h1,Nat.le_trans h2 hb.size,fun j hj=>?_⟩
 obtain ⟨v,hv,hr⟩:=h3 j hj
 exact ⟨v,by rw [hb.cell (p:=⟨g,j,none⟩) (by show g<_;omega)];exact hv,hr.below (hb.mono h2)⟩
theorem RowsAt.new (W:World)(vs:List Value)(E:TypeId)(h:∀v ∈ vs,RowAt W W.heap.size v):RowsAt (W.alloc (.cells vs.toArray E)) (W.alloc (.cells vs.toArray E)).heap.size W.heap.size vs.length:=by
 refine ⟨by simp,Nat.le_refl _,fun j hj=>⟨vs[j],?_,(h _ (List.getElem_mem hj)).alc _⟩⟩
 rw [World.cell?_alloc_mark]
 simp [hj]
theorem rdP_ok (l:List UInt8)(hl:l.length≤1000000):PkOk (rdP l).1:=by
 have z:PkOk pk0:=plain_okk 0 (by omega) (by omega)
 rcases l with _ | ⟨c,r⟩
 ·exact z
 have hc:=c.toNat_lt
 simp only [rdP]
 split
 ·exact z
 split
 ·exact par_ok _ (by omega) (by omega) _ (by rw [List.length_drop,List.length_take];omega)
 ·exact z
end Go.Proofs.Ytnhpacaoobpkhaa
