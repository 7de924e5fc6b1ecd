import Derived.Test.YtnhpacaoobpkhaaSeat
import Derived.Test.YtnhpacaoobpkhaaGRead
import Derived.Test.YtnhpacaoobpkhaaGSame
import Derived.Test.YtnhpacaoobpkhaaRSame
namespace Go.Proofs.Ytnhpacaoobpkhaa
open Go.RowKit Go.Lib
set_option linter.unusedVariables false
set_option maxRecDepth 100000
set_option maxHeartbeats 8000000
theorem enc_short (p:Pk)(h:rightP p=true):(encP p).length≤9000:=by
 have h1:=enc_len p
 have h2:=putL_len (lenP p)
 have h3:=(right_f p h).len
 omega
theorem two_row1 (w:World)(a b:Obj):((w.alloc a).alloc b).heap[w.heap.size]? = some a:=heap_keep (heap_alloc_last _ _)
theorem two_row2 (w:World)(a b:Obj):((w.alloc a).alloc b).heap[w.heap.size+1]? = some b:=by rw [←size1 w a];exact heap_alloc_last _ _
theorem st_two1 {ops:Array Oper} {rest:List Oper} {Q:Exit→Act→World→Prop} {a:Act} {w:World} {x y:Operand} {ty:TypeId} {ps:String} {af:Array Edge}
  (o2:Obj) (old cs:Array Value) (hx:a.eval x=.pointer (some ⟨w.heap.size,0,none⟩)) (hy:a.eval y=.agg cs) (ho:old.size=24) (hc:cs.size=24) (h1:cs.toList.all (·.oneCell')=true)
  (h:wpList Try.prog ops Q rest a ((w.alloc (.cells cs 28)).alloc o2)) :
  wpList Try.prog ops Q (⟨none,.store 28 x y,ty,ps,af,none⟩ :: rest) a ((w.alloc (.cells old 28)).alloc o2):=by
 refine wpList_store_rowTo rfl 28 x y rfl rfl _ cs hx hy 28 old (two_row1 _ _ _) (by rw [hc];exact pk_sz) (by rw [ho,hc]) (by rw [←Array.all_toList];exact h1) ?_
 rw [setRow_keep _ _ _ _ (by simp),World.setRow_alloc_new];exact h
theorem st_two2 {ops:Array Oper} {rest:List Oper} {Q:Exit→Act→World→Prop} {a:Act} {w:World} {x y:Operand} {ty:TypeId} {ps:String} {af:Array Edge}
  (o1:Obj) (old cs:Array Value) (hx:a.eval x=.pointer (some ⟨w.heap.size+1,0,none⟩)) (hy:a.eval y=.agg cs) (ho:old.size=24) (hc:cs.size=24) (h1:cs.toList.all (·.oneCell')=true)
  (h:wpList Try.prog ops Q rest a ((w.alloc o1).alloc (.cells cs 28))) :
  wpList Try.prog ops Q (⟨none,.store 28 x y,ty,ps,af,none⟩ :: rest) a ((w.alloc o1).alloc (.cells old 28)):=by
 refine wpList_store_rowTo rfl 28 x y rfl rfl _ cs hx hy 28 old (two_row2 _ _ _) (by rw [hc];exact pk_sz) (by rw [ho,hc]) (by rw [←Array.all_toList];exact h1) ?_
 rw [←size1 w o1,World.setRow_alloc_new];exact h
def SeatAny:Prop:=∀(k a b c:Int) (A:Option Addr) (n cx:Nat) (l:List UInt8) (w:World),0≤k→k≤255→0≤a→a≤255→0≤b→b≤255→0≤c→c≤255→BytesAt w w.heap.size (.slice A n cx) l→n=l.length→l.length≤60→(A=none→cx=0) →
  Calls Try.prog 15 #[.int .u8 k,.int .u8 a,.int .u8 b,.int .u8 c,.slice A n cx] w (SeatPost w)
theorem two_walk (HS:SeatAny)(k a b c j:Int)(A:Option Addr)(cx:Nat)(x:List UInt8)(w:World)(hk:0≤k∧k≤255)(ha:0≤a∧a≤255)(hb:0≤b∧b≤255)(hc:0≤c∧c≤255)(hj:0≤j∧j≤255)(h2:x.length≤40)(hv:BytesAt w w.heap.size (.slice A x.length cx) x)(hn:A=none→cx=0) :
  Calls Try.prog 7 #[.int .u8 k,.int .u8 a,.int .u8 b,.int .u8 c,.int .u8 j,.slice A x.length cx] w fun e w'=>e=.returned (.bool true)∧Below w.heap.size w w':=by
 have HV:=Lib.hid hv
 have HN:=Lib.hid hn
 clear hv hn
 go_enter Try.func7,Try.ntmps7
 go_wp2_with fail
 refine (known3_any w).mono ?_
 rintro e w1 ⟨rfl,hb1⟩
 go_wp2_with fail
 have hv1:=HV.out.on hb1
 refine (HS k a b c A x.length cx x w1 hk.1 hk.2 ha.1 ha.2 hb.1 hb.2 hc.1 hc.2 hv1 rfl (by omega) HN.out).mono ?_
 rintro e w2 ⟨p,s,rfl,hp,hn1,hg1,hb2⟩
 have hv2:=hv1.on hb2
 go_wp2_with fail
 refine (HS j b c a A x.length cx x w2 hj.1 hj.2 hb.1 hb.2 hc.1 hc.2 ha.1 ha.2 hv2 rfl (by omega) HN.out).mono ?_
 rintro e w3 ⟨q,t,rfl,hq,hn2,hg2,hb3⟩
 have bW:Below w.heap.size w w3:=thn (thn hb1 hb2) hb3
 have hp:=Lib.hid (hp.on hb3)
 have hq:=Lib.hid hq
 have N1:=Lib.hid hn1
 have N2:=Lib.hid hn2
 have G1:=Lib.hid hg1
 have G2:=Lib.hid hg2
 clear hv1 hv2 hb1 hb2 hb3 hn1 hn2 hg1 hg2 HV HN
 go_wp2_with (first
  | ((with_reducible show wpList _ _ _ (⟨_,.store 28 (.tmp 13) _,_,_,_,_⟩ :: _) _ _);refine st_two1 _ _ (pkC p s) (by rfl) (by rfl) (by rfl) (by rfl) (pk_one _ _) ?_)
  | ((with_reducible show wpList _ _ _ (⟨_,.store 28 (.tmp 14) _,_,_,_,_⟩ :: _) _ _);refine st_two2 _ _ (pkC q t) (by rfl) (by rfl) (by rfl) (by rfl) (pk_one _ _) ?_)
  | ((with_reducible show wpList _ _ _ (⟨_,.load 28 (.tmp 13),_,_,_,_⟩ :: _) _ _);refine ld_pk w3.heap.size (by rfl) (by rfl) (pkC p s) _ _ (by exact two_row1 _ _ _) (by rfl) ?_))
 have r1:=two_row1 w3 (.cells (pkC p s) 28) (.cells (pkC q t) 28)
 have r2:=two_row2 w3 (.cells (pkC p s) 28) (.cells (pkC q t) 28)
 have B0:Below w.heap.size w ((w3.alloc (.cells (pkC p s) 28)).alloc (.cells (pkC q t) 28)):=alB (alB bW _) _
 have P0:=Lib.hid (hp.out.on (alB (alB (Below.refl _ w3) (.cells (pkC p s) 28)) (.cells (pkC q t) 28)))
 have Q0:=Lib.hid (hq.out.on (alB (alB (Below.refl _ w3) (.cells (pkC p s) 28)) (.cells (pkC q t) 28)))
 have sW:w3.heap.size+1<((w3.alloc (.cells (pkC p s) 28)).alloc (.cells (pkC q t) 28)).heap.size:=by simp
 clear hp hq bW
 show Calls _ _ _ ((w3.alloc (.cells (pkC p s) 28)).alloc (.cells (pkC q t) 28)) _
 generalize (w3.alloc (.cells (pkC p s) 28)).alloc (.cells (pkC q t) 28)=W0 at *
 have g1:w3.heap.size<W0.heap.size:=by omega
 generalize w3.heap.size+1=h at *
 have g2:h<W0.heap.size:=sW
 generalize w3.heap.size=g at *
 have E1:=Lib.hid (enc_short p G1.out.2)
 have E2:=Lib.hid (enc_short q G2.out.2)
 have RD:=Lib.hid (rd_enc p G1.out.2 (encP q))
 have INJ:=Lib.hid (fun e:encP p=encP q=>enc_inj p q G1.out.2 G2.out.2 e)
 have F1:=Lib.hid (show 1≤(encP p).length from by unfold encP;simp)
 have F2:=Lib.hid (show 1≤(encP q).length from by unfold encP;simp)
 refine (wput_yes p s W0.heap.size W0 P0.out (Nat.le_refl _) G1.out.1 N1.out G1.out.2).mono ?_
 unfold PutPost
 rintro e w4 ⟨A1,c1,rfl,o1,hb4⟩
 have r1:=heap_below hb4 r1
 have r2:=heap_below hb4 r2
 have P4:=Lib.hid (P0.out.on hb4)
 have Q4:=Lib.hid (Q0.out.on hb4)
 have B4:=thn B0 hb4
 have M4:=Lib.hid (ownsBytes o1)
 have z4:=hb4.size
 clear P0 Q0 B0 o1 hb4
 go_wp2_with ((with_reducible show wpList _ _ _ (⟨_,.load 28 (.tmp 14),_,_,_,_⟩ :: _) _ _);refine ld_pk h (by rfl) (by rfl) (pkC q t) _ _ (by exact r2) (by rfl) ?_)
 refine (wput_yes q t w4.heap.size w4 Q4.out (Nat.le_refl _) G2.out.1 N2.out G2.out.2).mono ?_
 unfold PutPost
 rintro e w5 ⟨A2,c2,rfl,o2,hb5⟩
 have r1:=heap_below hb5 r1
 have r2:=heap_below hb5 r2
 have P5:=Lib.hid (P4.out.on hb5)
 have Q5:=Lib.hid (Q4.out.on hb5)
 have B5:=thn B4 hb5
 have M5:=Lib.hid (M4.out.on hb5)
 have K5:=Lib.hid (ownsBytes o2)
 have z5:=hb5.size
 clear P4 Q4 B4 M4 o2 hb5
 go_wp2_with (at_builtin;go_must (refine ap_bytes w5.heap.size none 0 0 [] w5.heap.size A1 c1 (encP p).length (encP p) (by rfl) (by rfl) (World.ownsRow_nil _ _ _ _) M5.out (M5.out.nz F1.out) (by have:=E1.out;omega) (Nat.le_refl _) ?_))
 intro A3 c3 w6 o3 a3
 simp only [Nat.zero_add,List.nil_append] at o3 a3 ⊢
 have b3:Below w5.heap.size w5 w6:=a3.below _ (Nat.le_refl _) (by intro k hk;simp [Value.ownBlock] at hk)
 have b53:=b3.size
 go_wp2_with (at_builtin;go_must (refine ap_bytes w5.heap.size A3 c3 (encP p).length (encP p) w6.heap.size A2 c2 (encP q).length (encP q) (by rfl) (by rfl) o3 (K5.out.on b3) (K5.out.nz F2.out) (by have:=E1.out;have:=E2.out;omega) b53 ?_))
 intro A4 c4 w7 o4 a4
 have b4:Below w5.heap.size w5 w7:=b3.trans (a4.below _ b53 (fun k hk=>(o3.lt k hk).1))
 simp only [←List.length_append] at o4 ⊢
 have LL:=Lib.hid (show (encP p++encP q).length≤18000 by have:=E1.out;have:=E2.out;rw [List.length_append];omega)
 generalize encP p++encP q=L at *
 have r1:=heap_below b4 r1
 have r2:=heap_below b4 r2
 have P7:=Lib.hid (P5.out.on b4)
 have Q7:=Lib.hid (Q5.out.on b4)
 have B7:=thn B5 b4
 have M7:=Lib.hid (M5.out.on b4)
 have K7:=Lib.hid (K5.out.on b4)
 have O7:=Lib.hid (ownsBytes o4)
 have z7:=b4.size
 clear P5 Q5 B5 M5 K5 o3 a3 b3 b53 o4 a4 b4
 go_wp2_with fail
 refine (wread_any A4 c4 L w7 O7.out (by have:=LL.out;omega)).mono ?_
 rw [RD.out]
 rintro e w8 ⟨s8,rfl,o8,hb8⟩
 have r1:=heap_below hb8 r1
 have r2:=heap_below hb8 r2
 have P8:=Lib.hid (P7.out.on hb8)
 have Q8:=Lib.hid (Q7.out.on hb8)
 have B8:=thn B7 hb8
 have M8:=Lib.hid (M7.out.on hb8)
 have K8:=Lib.hid (K7.out.on hb8)
 have z8:=hb8.size
 have O8:=Lib.hid o8.at_
 clear P7 Q7 B7 M7 K7 O7 o8 hb8
 have r3:(w8.alloc (.cells (pkC p s8) 28)).heap[w8.heap.size]? = some (.cells (pkC p s8) 28 (0,0)):=heap_alloc_last _ _
 have r1':=heap_keep (o':=.cells (pkC p s8) 28) r1
 have r2':=heap_keep (o':=.cells (pkC p s8) 28) r2
 have bA:Below w8.heap.size w8 (w8.alloc (.cells (pkC p s8) 28)):=alB (Below.refl _ _) _
 have P9:=Lib.hid (P8.out.on bA)
 have Q9:=Lib.hid (Q8.out.on bA)
 have B9:=thn B8 bA
 have M9:=Lib.hid (M8.out.on bA)
 have K9:=Lib.hid (K8.out.on bA)
 have O9:=Lib.hid (O8.out.on bA)
 have R1:=Lib.hid r1'
 have R2:=Lib.hid r2'
 have R3:=Lib.hid r3
 clear P8 Q8 B8 M8 K8 O8 r1 r2 r1' r2' r3 bA
 go_wp2_with (first
  | ((with_reducible show wpList _ _ _ (⟨_,.store 28 (.tmp 19) _,_,_,_,_⟩ :: _) _ _);refine stLst w8.heap.size (by rfl) _ (pkC p s8) (by rfl) (by rfl) (by rfl) (by rfl) (pkc_one _ _) ?_)
  | ((with_reducible show wpList _ _ _ (⟨_,.load 28 (.tmp 19),_,_,_,_⟩ :: _) _ _);refine ld_pk w8.heap.size (by rfl) (by rfl) (pkC p s8) _ _ (by exact R3.out) (by rfl) ?_)
  | ((with_reducible show wpList _ _ _ (⟨_,.load 28 (.tmp 13),_,_,_,_⟩ :: _) _ _);refine ld_pk g (by rfl) (by rfl) (pkC p s) _ _ (by exact R1.out) (by rfl) ?_))
 refine (rsame_any p p s8 s _ _ O9.out P9.out (Nat.le_refl _) G1.out.1.subs G1.out.1.codes).mono (fun e w' h=>(⟨h.1.trans (by simp),h.2⟩:e=.returned (.bool true)∧Below _ _ w')) |>.mono ?_
 rintro e wa ⟨rfl,hba⟩
 have RA1:=Lib.hid (heap_below hba R1.out)
 have RA2:=Lib.hid (heap_below hba R2.out)
 have PA:=Lib.hid (P9.out.on hba)
 have QA:=Lib.hid (Q9.out.on hba)
 have BA:=thn B9 hba
 obtain ⟨X,Y,hxy,hX,hY⟩:∃X Y:ByteArray,((X.toList==Y.toList)=decide (p=q))∧(∀W,Below wa.heap.size wa W→(convert 22 9 (.slice A1 (encP p).length c1)).run Try.prog W=.ok (.string X) W)∧(∀W,Below wa.heap.size wa W→(convert 22 9 (.slice A2 (encP q).length c2)).run Try.prog W=.ok (.string Y) W):=by
  refine ⟨⟨(encP p).toArray⟩,⟨(encP q).toArray⟩,?_,fun W hW=>((M9.out.on hba).on hW).conv,fun W hW=>((K9.out.on hba).on hW).conv⟩
  rw [ByteArray.toList_eq,ByteArray.toList_eq]
  show (encP p==encP q)=decide (p=q)
  by_cases e:p=q
  ·rw [e];simp
  ·rw [decide_eq_false e]
   exact beq_eq_false_iff_ne.2 (fun h=>e (INJ.out h))
 have XY:=Lib.hid hxy
 have HX:=Lib.hid hX
 have HY:=Lib.hid hY
 clear hxy hX hY P9 Q9 B9 M9 K9 O9 R1 R2 R3 hba
 go_wp2_with fail
 refine wp_region_held_drew (S:=(fun W=>Below wa.heap.size wa W)) (by rfl) (Below.refl _ _).drew ?_
 intro hS
 refine wpAnyH_take (i:=0) (oi:=⟨some 80,.move (.tmp 15),22,"more.go:43",#[],none⟩) (v:=.slice A1 (encP p).length c1) rfl (by kernel_rfl) (by kernel_rfl) (by kernel_rfl) (fun _ _ _ h=>h) (.inl ⟨by kernel_rfl,fun W hW=>by go_simp⟩) hS ?_
 simp only [Act.put,List.setIfInBounds_toArray,List.set_cons_zero,List.set_cons_succ]
 refine wpAnyH_take (i:=1) (oi:=⟨some 81,.convert 22 9 (.tmp 80),9,"more.go:43",#[⟨0,.data⟩],none⟩) (v:=.string X) rfl (by kernel_rfl) (by kernel_rfl) (by kernel_rfl) (fun _ _ _ h=>h) (.inl ⟨by kernel_rfl,fun W hW=>by simp [execOp,go_sem,HX.out W hW]⟩) hS ?_
 simp only [Act.put,List.setIfInBounds_toArray,List.set_cons_zero,List.set_cons_succ]
 refine wpAnyH_take (i:=2) (oi:=⟨some 82,.move (.tmp 17),22,"more.go:43",#[],none⟩) (v:=.slice A2 (encP q).length c2) rfl (by kernel_rfl) (by kernel_rfl) (by kernel_rfl) (fun _ _ _ h=>h) (.inl ⟨by kernel_rfl,fun W hW=>by go_simp⟩) hS ?_
 simp only [Act.put,List.setIfInBounds_toArray,List.set_cons_zero,List.set_cons_succ]
 refine wpAnyH_take (i:=3) (oi:=⟨some 83,.convert 22 9 (.tmp 82),9,"more.go:43",#[⟨2,.data⟩],none⟩) (v:=.string Y) rfl (by kernel_rfl) (by kernel_rfl) (by kernel_rfl) (fun _ _ _ h=>h) (.inl ⟨by kernel_rfl,fun W hW=>by simp [execOp,go_sem,HY.out W hW]⟩) hS ?_
 simp only [Act.put,List.setIfInBounds_toArray,List.set_cons_zero,List.set_cons_succ]
 refine wpAnyH_take (i:=4) (oi:=⟨some 84,.binOp .eql 9 (.tmp 81) (.tmp 83) 9,4,"more.go:43",#[⟨1,.data⟩,⟨3,.data⟩],none⟩) (v:=.bool (decide (p=q))) rfl (by kernel_rfl) (by kernel_rfl) (by kernel_rfl) (fun _ _ _ h=>h) (.inl ⟨by kernel_rfl,fun W hW=>by simp [execOp,go_sem,XY.out]⟩) hS ?_
 simp only [Act.put,List.setIfInBounds_toArray,List.set_cons_zero,List.set_cons_succ]
 refine wpAnyH_take (i:=5) (oi:=⟨some 85,.load 28 (.tmp 13),28,"more.go:43",#[],none⟩) (v:=.agg (pkC p s)) rfl (by kernel_rfl) (by kernel_rfl) (by kernel_rfl) (fun _ _ _ h=>h) (.inl ⟨by kernel_rfl,fun W hW=>ld_exec rfl rfl (heap_below hW RA1.out) rfl⟩) hS ?_
 simp only [Act.put,List.setIfInBounds_toArray,List.set_cons_zero,List.set_cons_succ]
 refine wpAnyH_take (i:=6) (oi:=⟨some 86,.load 28 (.tmp 14),28,"more.go:43",#[],none⟩) (v:=.agg (pkC q t)) rfl (by kernel_rfl) (by kernel_rfl) (by kernel_rfl) (fun _ _ _ h=>h) (.inl ⟨by kernel_rfl,fun W hW=>ld_exec rfl rfl (heap_below hW RA2.out) rfl⟩) hS ?_
 simp only [Act.put,List.setIfInBounds_toArray,List.set_cons_zero,List.set_cons_succ]
 refine wpAnyH_ready (rs:=[7]) (by kernel_rfl) (by simp) ?_
 refine AllReadyH.cons (o:=⟨some 87,.call ⟨.value (.func 21),#[.tmp 85,.tmp 86],#[28,28]⟩,4,"more.go:43",#[⟨5,.data⟩,⟨6,.data⟩],none⟩) rfl (fun K hK=>?_) (AllReadyH.nil)
 rw [if_pos (by kernel_rfl)]
 go_wp2_with fail
 refine (same_any p q s t _ _ (PA.out.on hS) (QA.out.on hS) (Nat.le_refl _) G1.out.1.subs G1.out.1.codes).mono ?_
 rintro e wb ⟨rfl,hbb⟩
 go_wp2_with fail
 refine hK.out _ _ (thn hS hbb) (fun hS'=>?_)
 clear hK hS hbb
 have hS:=hS'
 clear hS'
 refine wpAnyH_take (i:=8) (oi:=⟨some 88,.binOp .eql 4 (.tmp 84) (.tmp 87) 4,4,"more.go:43",#[⟨4,.data⟩,⟨7,.data⟩],none⟩) (v:=.bool true) rfl (by kernel_rfl) (by kernel_rfl) (by kernel_rfl) (fun _ _ _ h=>h) (.inl ⟨by kernel_rfl,fun W hW=>by simp [execOp,go_sem]⟩) hS ?_
 simp only [Act.put,List.setIfInBounds_toArray,List.set_cons_zero,List.set_cons_succ]
 refine wpAnyH_take (i:=9) (oi:=⟨some 12,.assign (.tmp 88),4,"more.go:43",#[⟨8,.data⟩,⟨7,.chain⟩,⟨0,.phase⟩,⟨1,.phase⟩,⟨2,.phase⟩,⟨3,.phase⟩,⟨4,.phase⟩,⟨5,.phase⟩,⟨6,.phase⟩,⟨7,.phase⟩,⟨8,.phase⟩],none⟩) (v:=.bool true) rfl (by kernel_rfl) (by kernel_rfl) (by kernel_rfl) (fun _ _ _ h=>h) (.inl ⟨by kernel_rfl,fun W hW=>by go_simp⟩) hS ?_
 simp only [Act.put,List.setIfInBounds_toArray,List.set_cons_zero,List.set_cons_succ]
 refine wpAnyH_done (by kernel_rfl) ?_ _
 go_wp2_with fail
 go_ret
 exact ⟨rfl,thn BA hS⟩
theorem twoLaw_any (HS:SeatAny)(k a b c j:Int)(A:Option Addr)(cx:Nat)(x:List UInt8)(w:World)(hk:0≤k∧k≤255)(ha:0≤a∧a≤255)(hb:0≤b∧b≤255)(hc:0≤c∧c≤255)(hj:0≤j∧j≤255)(hv:BytesAt w w.heap.size (.slice A x.length cx) x)(hn:A=none→cx=0) :
  Calls Try.prog 7 #[.int .u8 k,.int .u8 a,.int .u8 b,.int .u8 c,.int .u8 j,.slice A x.length cx] w fun e w'=>e=.returned (.bool true)∧Below w.heap.size w w':=by
 by_cases h2:40<x.length
 ·go_enter Try.func7,Try.ntmps7
  go_wp2_with fail
  refine (known3_any w).mono ?_
  rintro e w1 ⟨rfl,hb1⟩
  go_wp2_with fail
  go_ret
  exact ⟨rfl,hb1⟩
 ·exact two_walk HS k a b c j A cx x w hk ha hb hc hj (by omega) hv hn
end Go.Proofs.Ytnhpacaoobpkhaa
