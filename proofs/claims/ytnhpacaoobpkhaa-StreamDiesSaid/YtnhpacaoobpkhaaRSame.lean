import Derived.Test.YtnhpacaoobpkhaaRef3
import Derived.Test.YtnhpacaoobpkhaaGSame
import Derived.Test.YtnhpacaoobpkhaaGPkt
import Derived.Deep.Cut
import Derived.Deep.QuietTactic
import Derived.BigQuiet
namespace Go.Proofs.Ytnhpacaoobpkhaa
open Go.RowKit Go.Lib
set_option linter.unusedVariables false
set_option maxRecDepth 100000
set_option maxHeartbeats 4000000
theorem rsame_any (p q:Pk)(s t:Sv)(B:Nat)(w:World)(hp:PkAt w B p s)(hq:PkAt w B q t)(hB:B≤w.heap.size)(l1:p.subs.length≤1000000)(l2:p.codes.length≤1000000) :
  Calls Try.prog 22 #[pkV p s,pkV q t] w fun e w'=>e=.returned (.bool (decide (p=q)))∧Below w.heap.size w w':=by
 obtain ⟨pA,pC,wA,wC,uA,uC,sA,sC,cA,cC⟩:=s
 obtain ⟨pA',pC',wA',wC',uA',uC',sA',sC',cA',cC'⟩:=t
 have H1:=Lib.hid hp
 have H2:=Lib.hid hq
 clear hp hq
 have bw:Below w.heap.size w ((w.alloc (.cells (pkC p ⟨pA,pC,wA,wC,uA,uC,sA,sC,cA,cC⟩) 28)).alloc (.cells (pkC q ⟨pA',pC',wA',wC',uA',uC',sA',sC',cA',cC'⟩) 28)):=by (repeat (first | assumption | exact Below.refl _ _ | exact (Below.refl _ _).alloc (Nat.le_refl _) _ | (refine thn ?_ (by assumption)) | (refine alB ?_ _) | (refine dwN ?_ _) | (refine Below.drew ?_)))
 have d1:=(H1.out.pay.to hB bw).conv
 have d2:=(H2.out.pay.to hB bw).conv
 have d3:=(H1.out.pass.to hB bw).conv
 have d4:=(H2.out.pass.to hB bw).conv
 have E1:Hid (((⟨p.pay.toArray⟩:ByteArray).toList==(⟨q.pay.toArray⟩:ByteArray).toList)=(p.pay==q.pay)):=Lib.hid (by rw [ByteArray.toList_eq,ByteArray.toList_eq])
 have E2:Hid (((⟨p.pass.toArray⟩:ByteArray).toList==(⟨q.pass.toArray⟩:ByteArray).toList)=(p.pass==q.pass)):=Lib.hid (by rw [ByteArray.toList_eq,ByteArray.toList_eq])
 have BW:=Lib.hid bw
 clear bw
 go_enter Try.func22,Try.ntmps22
 go_wp2_with (first
  | ((with_reducible show wpList _ _ _ (⟨_,.load 24 _,_,_,_,_⟩ :: _) _ _);refine ld_wl (w.heap.size) p ⟨pA,pC,wA,wC,uA,uC,sA,sC,cA,cC⟩ (by rfl) (by rfl) _ _ (by (first | assumption | exact heap_alloc_last _ _ | (repeat (first | assumption | exact heap_alloc_last _ _ | exact heap_last2 _ _ _ | refine heap_keep ?_ | refine heap_below (by assumption) ?_)))) ?_)
  | ((with_reducible show wpList _ _ _ (⟨_,.load 24 _,_,_,_,_⟩ :: _) _ _);refine ld_wl ((w.heap.size+1)) q ⟨pA',pC',wA',wC',uA',uC',sA',sC',cA',cC'⟩ (by rfl) (by rfl) _ _ (by (first | assumption | exact heap_alloc_last _ _ | (repeat (first | assumption | exact heap_alloc_last _ _ | exact heap_last2 _ _ _ | refine heap_keep ?_ | refine heap_below (by assumption) ?_)))) ?_)
  | (go_at_call 52;refine (rsameWill_any p q ⟨pA,pC,wA,wC,uA,uC,sA,sC,cA,cC⟩ ⟨pA',pC',wA',wC',uA',uC',sA',sC',cA',cC'⟩ B _ (H1.out.to hB BW.out) (H2.out.to hB BW.out) (by simp;omega)).mono ?_;rintro e w2 ⟨rfl,hb2⟩;have r1:=heap_below hb2 (heap_keep (heap_alloc_last _ _));have r2:=heap_below hb2 (heap_last2 _ _ _);have b2:Below w.heap.size w w2:=thn BW.out hb2;have R1:=Lib.hid r1;have R2:=Lib.hid r2;have C1:=row_cells r1;have C2:=row_cells r2;clear hb2 d1 d2 d3 d4 r1 r2))
 any_goals (go_ret;exact ⟨ret_bool (by symm;rw [decide_eq_false_iff_not];rename_i hh;intro e;first | (apply hh;rw [e];done) | (revert hh;rw [e];simp [sameWillP,eqS_iff])),by first | exact b2 | exact BW.out⟩)
 rename (p.subs.length:Int)=q.subs.length=>g1
 rename (p.codes.length:Int)=q.codes.length=>g2
 rename p.pay=q.pay=>g3
 rename p.pass=q.pass=>g4
 rename (!sameWillP p q)=false=>g5
 have L1:Hid (p.subs.length=q.subs.length):=Lib.hid (by omega)
 have L2:Hid (p.codes.length=q.codes.length):=Lib.hid (by omega)
 have G:=Lib.hid (And.intro g3 (And.intro g4 g5))
 clear C1 C2 g1 g2 g3 g4 g5
 go_loopw [5] (fun i wr=>∃k:Nat,k≤p.subs.length∧i=.int .i64 k∧Hid (p.subs.take k=q.subs.take k)∧Below w.heap.size w wr∧Hid (wr.heap[w.heap.size]? = some (.cells (pkC p ⟨pA,pC,wA,wC,uA,uC,sA,sC,cA,cC⟩) 28 (0,0)))∧Hid (wr.heap[w.heap.size+1]? = some (.cells (pkC q ⟨pA',pC',wA',wC',uA',uC',sA',sC',cA',cC'⟩) 28 (0,0)))) (fun i _=>p.subs.length - (intOf i).toNat)
 case atStart=>exact ⟨0,Nat.zero_le _,rfl,Lib.hid (by simp),b2,R1,R2⟩
 case round =>
  obtain ⟨k,hk,rfl,hT,hb,h1,h2⟩:=hrel
  have C1:=row_cells h1.out
  have C2:=row_cells h2.out
  by_cases hlt:k<p.subs.length
  ·have hlt':k<q.subs.length:=by have:=L1.out;omega
   obtain ⟨ad,hA,hkc,c1,c2⟩:=(H1.out.subs.to hB hb).at_ k hlt
   obtain ⟨ad',hA',hkc',c1',c2'⟩:=(H2.out.subs.to hB hb).at_ k hlt'
   dsimp only at hA hA' hkc hkc'
   subst hA hA'
   have hst:=Lib.hid (eq_take2 p.subs q.subs k hlt hlt' hT.out)
   have hfl:Hid (¬(p.subs[k].1=q.subs[k].1∧p.subs[k].2=q.subs[k].2)→¬p=q):=Lib.hid (fun u e=>u (by subst e;exact ⟨rfl,rfl⟩))
   generalize p.subs[k].1=x at *
   generalize p.subs[k].2=x2 at *
   generalize q.subs[k].1=y at *
   generalize q.subs[k].2=y2 at *
   clear R1 R2
   by_cases hx:x=y∧x2=y2
   ·obtain ⟨rfl,rfl⟩:=hx
    go_wp2_with fail
    go_quiet (fail)
    go_wp2_with fail
    go_roundw
    case rel=>exact ⟨k+1,hlt,by go_num,Lib.hid (by simpa using hst.out),by (repeat (first | assumption | exact Below.refl _ _ | exact (Below.refl _ _).alloc (Nat.le_refl _) _ | (refine thn ?_ (by assumption)) | (refine alB ?_ _) | (refine dwN ?_ _) | (refine Below.drew ?_))),h1,h2⟩
    case measure=>simp [intOf];omega
   ·have H:=Lib.hid hx
    by_cases hx1:x=y
    ·subst hx1
     have hx2:(x2==y2)=false:=beq_eq_false_iff_ne.2 fun e=>hx ⟨rfl,e⟩
     clear hx
     go_wp2_with fail
     go_quiet (fail)
     go_wp2_with fail
     go_ret
     exact ⟨ret_bool (by symm;rw [decide_eq_false_iff_not];exact hfl.out H.out),by (repeat (first | assumption | exact Below.refl _ _ | exact (Below.refl _ _).alloc (Nat.le_refl _) _ | (refine thn ?_ (by assumption)) | (refine alB ?_ _) | (refine dwN ?_ _) | (refine Below.drew ?_)))⟩
    ·have hx2:(x.toList==y.toList)=false:=Bool.eq_false_iff.2 fun e=>hx1 (eqS_iff.1 e)
     clear hx
     have HX1:=Lib.hid hx1
     clear hx1
     go_wp2_with fail
     go_quiet (fail)
     go_wp2_with fail
     go_ret
     exact ⟨ret_bool (by symm;rw [decide_eq_false_iff_not];exact hfl.out H.out),by (repeat (first | assumption | exact Below.refl _ _ | exact (Below.refl _ _).alloc (Nat.le_refl _) _ | (refine thn ?_ (by assumption)) | (refine alB ?_ _) | (refine dwN ?_ _) | (refine Below.drew ?_)))⟩
  ·have S1:Hid (p.subs=q.subs):=Lib.hid (by have e:=hT.out;rwa [List.take_of_length_le (by omega),List.take_of_length_le (by have:=L1.out;omega)] at e)
   clear R1 R2 hT
   go_wp2_with fail
   go_loopw [6] (fun i wr'=>∃k:Nat,k≤p.codes.length∧i=.int .i64 k∧Hid (p.codes.take k=q.codes.take k)∧Below w.heap.size w wr'∧Hid (wr'.heap[w.heap.size]? = some (.cells (pkC p ⟨pA,pC,wA,wC,uA,uC,sA,sC,cA,cC⟩) 28 (0,0)))∧Hid (wr'.heap[w.heap.size+1]? = some (.cells (pkC q ⟨pA',pC',wA',wC',uA',uC',sA',sC',cA',cC'⟩) 28 (0,0)))) (fun i _=>p.codes.length - (intOf i).toNat)
   case atStart=>exact ⟨0,Nat.zero_le _,rfl,Lib.hid (by simp),hb,h1,h2⟩
   case round =>
    clear C1 C2 hb h1 h2
    obtain ⟨j,hj,rfl,hT,hb,h1,h2⟩:=hrel
    have C1:=row_cells h1.out
    have C2:=row_cells h2.out
    by_cases hlt2:j<p.codes.length
    ·have hlt':j<q.codes.length:=by have:=L2.out;omega
     obtain ⟨ad,hA,hkc,c1⟩:=(H1.out.codes.to hB hb).at_ j hlt2
     obtain ⟨ad',hA',hkc',c1'⟩:=(H2.out.codes.to hB hb).at_ j hlt'
     dsimp only at hA hA' hkc hkc'
     subst hA hA'
     have hst:=Lib.hid (eq_take p.codes q.codes j hlt2 hlt' hT.out)
     have hfl:Hid (¬p.codes[j]=q.codes[j]→¬p=q):=Lib.hid (fun u e=>u (by subst e;rfl))
     generalize p.codes[j]=x at *
     generalize q.codes[j]=y at *
     by_cases hx:x=y
     ·subst hx
      go_wp2_with fail
      go_quiet (fail)
      go_wp2_with fail
      go_roundw
      case rel=>exact ⟨j+1,hlt2,by go_num,Lib.hid (by simpa using hst.out),by (repeat (first | assumption | exact Below.refl _ _ | exact (Below.refl _ _).alloc (Nat.le_refl _) _ | (refine thn ?_ (by assumption)) | (refine alB ?_ _) | (refine dwN ?_ _) | (refine Below.drew ?_))),h1,h2⟩
      case measure=>simp [intOf];omega
     ·have hxb:(x != y)=true:=by simp [hx]
      go_wp2_with fail
      go_quiet (fail)
      go_wp2_with fail
      go_ret
      exact ⟨ret_bool (by symm;rw [decide_eq_false_iff_not];exact hfl.out hx),by (repeat (first | assumption | exact Below.refl _ _ | exact (Below.refl _ _).alloc (Nat.le_refl _) _ | (refine thn ?_ (by assumption)) | (refine alB ?_ _) | (refine dwN ?_ _) | (refine Below.drew ?_)))⟩
    ·have S2:Hid (p.codes=q.codes):=Lib.hid (by have e:=hT.out;rwa [List.take_of_length_le (by omega),List.take_of_length_le (by have:=L2.out;omega)] at e)
     clear hT h1 h2
     go_upto_region 13 with fail
     refine wp_region_list ?_
     refine eq_start 195 2 3 85 (.pointer (some ⟨w.heap.size,0,none⟩)) (.pointer (some ⟨w.heap.size+1,0,none⟩)) (p.kind==q.kind) (by rfl) (by rfl) (by rfl) (by rfl) (by omega) (by omega) (by omega) (.pointer (some ⟨w.heap.size,0,none⟩)) (.pointer (some ⟨w.heap.size+1,0,none⟩)) (.int .i64 p.kind) (.int .i64 q.kind) (fun a h=>by simp [execOp,go_sem,ev_raw h]) (fun a h=>by simp [execOp,go_sem,ev_raw h,C1]) (fun a h=>by simp [execOp,go_sem,ev_raw h]) (fun a h=>by simp [execOp,go_sem,ev_raw h,C2]) (fun a h h'=>by simp [execOp,go_sem,ev_raw h,ev_raw h']) ?_
     intro a0 F0
     refine eq_step 195 2 3 91 5 97 (.move (.tmp 96)) (.pointer (some ⟨w.heap.size,0,none⟩)) (.pointer (some ⟨w.heap.size+1,0,none⟩)) _ (p.dup==q.dup) F0 (by omega) (by omega) (by omega) (by omega) (by omega) (by omega) (by rfl) (.pointer (some ⟨w.heap.size,1,none⟩)) (.pointer (some ⟨w.heap.size+1,1,none⟩)) (.bool p.dup) (.bool q.dup) (fun a h=>by simp [execOp,go_sem,ev_raw h]) (fun a h=>by simp [execOp,go_sem,ev_raw h,C1]) (fun a h=>by simp [execOp,go_sem,ev_raw h]) (fun a h=>by simp [execOp,go_sem,ev_raw h,C2]) (fun a h h'=>by simp [execOp,go_sem,ev_raw h,ev_raw h']) (fun a v h=>by simp [execOp,h]) ?_
     intro a1 F1
     clear F0 a0
     refine eq_step 195 2 3 98 12 104 (.move (.tmp 103)) (.pointer (some ⟨w.heap.size,0,none⟩)) (.pointer (some ⟨w.heap.size+1,0,none⟩)) _ (p.ret==q.ret) F1 (by omega) (by omega) (by omega) (by omega) (by omega) (by omega) (by rfl) (.pointer (some ⟨w.heap.size,2,none⟩)) (.pointer (some ⟨w.heap.size+1,2,none⟩)) (.bool p.ret) (.bool q.ret) (fun a h=>by simp [execOp,go_sem,ev_raw h]) (fun a h=>by simp [execOp,go_sem,ev_raw h,C1]) (fun a h=>by simp [execOp,go_sem,ev_raw h]) (fun a h=>by simp [execOp,go_sem,ev_raw h,C2]) (fun a h h'=>by simp [execOp,go_sem,ev_raw h,ev_raw h']) (fun a v h=>by simp [execOp,h]) ?_
     intro a2 F2
     clear F1 a1
     refine eq_step 195 2 3 105 19 111 (.move (.tmp 110)) (.pointer (some ⟨w.heap.size,0,none⟩)) (.pointer (some ⟨w.heap.size+1,0,none⟩)) _ (p.qos==q.qos) F2 (by omega) (by omega) (by omega) (by omega) (by omega) (by omega) (by rfl) (.pointer (some ⟨w.heap.size,3,none⟩)) (.pointer (some ⟨w.heap.size+1,3,none⟩)) (.int .i64 p.qos) (.int .i64 q.qos) (fun a h=>by simp [execOp,go_sem,ev_raw h]) (fun a h=>by simp [execOp,go_sem,ev_raw h,C1]) (fun a h=>by simp [execOp,go_sem,ev_raw h]) (fun a h=>by simp [execOp,go_sem,ev_raw h,C2]) (fun a h h'=>by simp [execOp,go_sem,ev_raw h,ev_raw h']) (fun a v h=>by simp [execOp,h]) ?_
     intro a3 F3
     clear F2 a2
     refine eq_step 195 2 3 112 26 118 (.move (.tmp 117)) (.pointer (some ⟨w.heap.size,0,none⟩)) (.pointer (some ⟨w.heap.size+1,0,none⟩)) _ (p.id==q.id) F3 (by omega) (by omega) (by omega) (by omega) (by omega) (by omega) (by rfl) (.pointer (some ⟨w.heap.size,4,none⟩)) (.pointer (some ⟨w.heap.size+1,4,none⟩)) (.int .i64 p.id) (.int .i64 q.id) (fun a h=>by simp [execOp,go_sem,ev_raw h]) (fun a h=>by simp [execOp,go_sem,ev_raw h,C1]) (fun a h=>by simp [execOp,go_sem,ev_raw h]) (fun a h=>by simp [execOp,go_sem,ev_raw h,C2]) (fun a h h'=>by simp [execOp,go_sem,ev_raw h,ev_raw h']) (fun a v h=>by simp [execOp,h]) ?_
     intro a4 F4
     clear F3 a3
     refine eq_step 195 2 3 119 33 125 (.move (.tmp 124)) (.pointer (some ⟨w.heap.size,0,none⟩)) (.pointer (some ⟨w.heap.size+1,0,none⟩)) _ (eqS p.top q.top) F4 (by omega) (by omega) (by omega) (by omega) (by omega) (by omega) (by rfl) (.pointer (some ⟨w.heap.size,5,none⟩)) (.pointer (some ⟨w.heap.size+1,5,none⟩)) (.string p.top) (.string q.top) (fun a h=>by simp [execOp,go_sem,ev_raw h]) (fun a h=>by simp [execOp,go_sem,ev_raw h,C1]) (fun a h=>by simp [execOp,go_sem,ev_raw h]) (fun a h=>by simp [execOp,go_sem,ev_raw h,C2]) (fun a h h'=>by simp [execOp,go_sem,ev_raw h,ev_raw h',eqS]) (fun a v h=>by simp [execOp,h]) ?_
     intro a5 F5
     clear F4 a4
     refine eq_step 195 2 3 126 40 132 (.move (.tmp 131)) (.pointer (some ⟨w.heap.size,0,none⟩)) (.pointer (some ⟨w.heap.size+1,0,none⟩)) _ (p.level==q.level) F5 (by omega) (by omega) (by omega) (by omega) (by omega) (by omega) (by rfl) (.pointer (some ⟨w.heap.size,7,none⟩)) (.pointer (some ⟨w.heap.size+1,7,none⟩)) (.int .i64 p.level) (.int .i64 q.level) (fun a h=>by simp [execOp,go_sem,ev_raw h]) (fun a h=>by simp [execOp,go_sem,ev_raw h,C1]) (fun a h=>by simp [execOp,go_sem,ev_raw h]) (fun a h=>by simp [execOp,go_sem,ev_raw h,C2]) (fun a h h'=>by simp [execOp,go_sem,ev_raw h,ev_raw h']) (fun a v h=>by simp [execOp,h]) ?_
     intro a6 F6
     clear F5 a5
     refine eq_step 195 2 3 133 47 139 (.move (.tmp 138)) (.pointer (some ⟨w.heap.size,0,none⟩)) (.pointer (some ⟨w.heap.size+1,0,none⟩)) _ (eqS p.cli q.cli) F6 (by omega) (by omega) (by omega) (by omega) (by omega) (by omega) (by rfl) (.pointer (some ⟨w.heap.size,8,none⟩)) (.pointer (some ⟨w.heap.size+1,8,none⟩)) (.string p.cli) (.string q.cli) (fun a h=>by simp [execOp,go_sem,ev_raw h]) (fun a h=>by simp [execOp,go_sem,ev_raw h,C1]) (fun a h=>by simp [execOp,go_sem,ev_raw h]) (fun a h=>by simp [execOp,go_sem,ev_raw h,C2]) (fun a h h'=>by simp [execOp,go_sem,ev_raw h,ev_raw h',eqS]) (fun a v h=>by simp [execOp,h]) ?_
     intro a7 F7
     clear F6 a6
     refine eq_step 195 2 3 140 54 146 (.move (.tmp 145)) (.pointer (some ⟨w.heap.size,0,none⟩)) (.pointer (some ⟨w.heap.size+1,0,none⟩)) _ (p.clean==q.clean) F7 (by omega) (by omega) (by omega) (by omega) (by omega) (by omega) (by rfl) (.pointer (some ⟨w.heap.size,9,none⟩)) (.pointer (some ⟨w.heap.size+1,9,none⟩)) (.bool p.clean) (.bool q.clean) (fun a h=>by simp [execOp,go_sem,ev_raw h]) (fun a h=>by simp [execOp,go_sem,ev_raw h,C1]) (fun a h=>by simp [execOp,go_sem,ev_raw h]) (fun a h=>by simp [execOp,go_sem,ev_raw h,C2]) (fun a h h'=>by simp [execOp,go_sem,ev_raw h,ev_raw h']) (fun a v h=>by simp [execOp,h]) ?_
     intro a8 F8
     clear F7 a7
     refine eq_step 195 2 3 147 61 153 (.move (.tmp 152)) (.pointer (some ⟨w.heap.size,0,none⟩)) (.pointer (some ⟨w.heap.size+1,0,none⟩)) _ (p.keep==q.keep) F8 (by omega) (by omega) (by omega) (by omega) (by omega) (by omega) (by rfl) (.pointer (some ⟨w.heap.size,10,none⟩)) (.pointer (some ⟨w.heap.size+1,10,none⟩)) (.int .i64 p.keep) (.int .i64 q.keep) (fun a h=>by simp [execOp,go_sem,ev_raw h]) (fun a h=>by simp [execOp,go_sem,ev_raw h,C1]) (fun a h=>by simp [execOp,go_sem,ev_raw h]) (fun a h=>by simp [execOp,go_sem,ev_raw h,C2]) (fun a h h'=>by simp [execOp,go_sem,ev_raw h,ev_raw h']) (fun a v h=>by simp [execOp,h]) ?_
     intro a9 F9
     clear F8 a8
     refine eq_step 195 2 3 154 68 160 (.move (.tmp 159)) (.pointer (some ⟨w.heap.size,0,none⟩)) (.pointer (some ⟨w.heap.size+1,0,none⟩)) _ (p.hw==q.hw) F9 (by omega) (by omega) (by omega) (by omega) (by omega) (by omega) (by rfl) (.pointer (some ⟨w.heap.size,11,none⟩)) (.pointer (some ⟨w.heap.size+1,11,none⟩)) (.bool p.hw) (.bool q.hw) (fun a h=>by simp [execOp,go_sem,ev_raw h]) (fun a h=>by simp [execOp,go_sem,ev_raw h,C1]) (fun a h=>by simp [execOp,go_sem,ev_raw h]) (fun a h=>by simp [execOp,go_sem,ev_raw h,C2]) (fun a h h'=>by simp [execOp,go_sem,ev_raw h,ev_raw h']) (fun a v h=>by simp [execOp,h]) ?_
     intro a10 F10
     clear F9 a9
     refine eq_step 195 2 3 161 75 167 (.move (.tmp 166)) (.pointer (some ⟨w.heap.size,0,none⟩)) (.pointer (some ⟨w.heap.size+1,0,none⟩)) _ (p.hu==q.hu) F10 (by omega) (by omega) (by omega) (by omega) (by omega) (by omega) (by rfl) (.pointer (some ⟨w.heap.size,16,none⟩)) (.pointer (some ⟨w.heap.size+1,16,none⟩)) (.bool p.hu) (.bool q.hu) (fun a h=>by simp [execOp,go_sem,ev_raw h]) (fun a h=>by simp [execOp,go_sem,ev_raw h,C1]) (fun a h=>by simp [execOp,go_sem,ev_raw h]) (fun a h=>by simp [execOp,go_sem,ev_raw h,C2]) (fun a h h'=>by simp [execOp,go_sem,ev_raw h,ev_raw h']) (fun a v h=>by simp [execOp,h]) ?_
     intro a11 F11
     clear F10 a10
     refine eq_step 195 2 3 168 82 174 (.move (.tmp 173)) (.pointer (some ⟨w.heap.size,0,none⟩)) (.pointer (some ⟨w.heap.size+1,0,none⟩)) _ (p.hp==q.hp) F11 (by omega) (by omega) (by omega) (by omega) (by omega) (by omega) (by rfl) (.pointer (some ⟨w.heap.size,17,none⟩)) (.pointer (some ⟨w.heap.size+1,17,none⟩)) (.bool p.hp) (.bool q.hp) (fun a h=>by simp [execOp,go_sem,ev_raw h]) (fun a h=>by simp [execOp,go_sem,ev_raw h,C1]) (fun a h=>by simp [execOp,go_sem,ev_raw h]) (fun a h=>by simp [execOp,go_sem,ev_raw h,C2]) (fun a h h'=>by simp [execOp,go_sem,ev_raw h,ev_raw h']) (fun a v h=>by simp [execOp,h]) ?_
     intro a12 F12
     clear F11 a11
     refine eq_step 195 2 3 175 89 181 (.move (.tmp 180)) (.pointer (some ⟨w.heap.size,0,none⟩)) (.pointer (some ⟨w.heap.size+1,0,none⟩)) _ (eqS p.user q.user) F12 (by omega) (by omega) (by omega) (by omega) (by omega) (by omega) (by rfl) (.pointer (some ⟨w.heap.size,18,none⟩)) (.pointer (some ⟨w.heap.size+1,18,none⟩)) (.string p.user) (.string q.user) (fun a h=>by simp [execOp,go_sem,ev_raw h]) (fun a h=>by simp [execOp,go_sem,ev_raw h,C1]) (fun a h=>by simp [execOp,go_sem,ev_raw h]) (fun a h=>by simp [execOp,go_sem,ev_raw h,C2]) (fun a h h'=>by simp [execOp,go_sem,ev_raw h,ev_raw h',eqS]) (fun a v h=>by simp [execOp,h]) ?_
     intro a13 F13
     clear F12 a12
     refine eq_step 195 2 3 182 96 188 (.move (.tmp 187)) (.pointer (some ⟨w.heap.size,0,none⟩)) (.pointer (some ⟨w.heap.size+1,0,none⟩)) _ (p.pres==q.pres) F13 (by omega) (by omega) (by omega) (by omega) (by omega) (by omega) (by rfl) (.pointer (some ⟨w.heap.size,20,none⟩)) (.pointer (some ⟨w.heap.size+1,20,none⟩)) (.bool p.pres) (.bool q.pres) (fun a h=>by simp [execOp,go_sem,ev_raw h]) (fun a h=>by simp [execOp,go_sem,ev_raw h,C1]) (fun a h=>by simp [execOp,go_sem,ev_raw h]) (fun a h=>by simp [execOp,go_sem,ev_raw h,C2]) (fun a h h'=>by simp [execOp,go_sem,ev_raw h,ev_raw h']) (fun a v h=>by simp [execOp,h]) ?_
     intro a14 F14
     clear F13 a13
     refine eq_step 195 2 3 189 103 4 (.assign (.tmp 194)) (.pointer (some ⟨w.heap.size,0,none⟩)) (.pointer (some ⟨w.heap.size+1,0,none⟩)) _ (p.code==q.code) F14 (by omega) (by omega) (by omega) (by omega) (by omega) (by omega) (by rfl) (.pointer (some ⟨w.heap.size,21,none⟩)) (.pointer (some ⟨w.heap.size+1,21,none⟩)) (.int .i64 p.code) (.int .i64 q.code) (fun a h=>by simp [execOp,go_sem,ev_raw h]) (fun a h=>by simp [execOp,go_sem,ev_raw h,C1]) (fun a h=>by simp [execOp,go_sem,ev_raw h]) (fun a h=>by simp [execOp,go_sem,ev_raw h,C2]) (fun a h h'=>by simp [execOp,go_sem,ev_raw h,ev_raw h']) (fun a v h=>by simp [execOp,h]) ?_
     intro a15 F15
     clear F14 a14
     refine wpList_nil ?_
     go_wp2_with fail
     refine bodyPost_ret (results_tmp (by rfl) _ _ _) F15.defers ⟨?_,hb⟩
     have e4:a15.tmps.getD 4 undef=_:=ev_tmp F15.acc
     rw [e4]
     refine ret_bool ?_
     rw [←samePk_iff]
     obtain ⟨x1,x2,x3⟩:=G.out
     have x4:sameWillP p q=true:=by simpa using x3
     simp only [sameWillP,Bool.and_eq_true,beq_iff_eq] at x4
     obtain ⟨⟨⟨y1,y2⟩,y3⟩,y4⟩:=x4
     have y1':=eqS_iff.1 y1
     rw [Bool.eq_iff_iff]
     simp only [samePk,sameMsgP,sameGrP,sameWillP,eqSubs,eqInts,Bool.and_eq_true,beq_iff_eq,eqS_iff,decide_eq_true_iff]
     constructor
     ·intro h
      simp only [h,x1,x2,y1',y2,y3,y4,S1.out,S2.out,and_self]
     ·intro h
      simp only [h,and_self]
end Go.Proofs.Ytnhpacaoobpkhaa
