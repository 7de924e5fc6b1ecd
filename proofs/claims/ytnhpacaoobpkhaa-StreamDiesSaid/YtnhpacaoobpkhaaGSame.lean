import Derived.Test.YtnhpacaoobpkhaaGFits
namespace Go.Proofs.Ytnhpacaoobpkhaa
open Go.RowKit Go.Lib
set_option maxRecDepth 100000
set_option maxHeartbeats 4000000
def eqS (a b:ByteArray):Bool:=a.toList==b.toList
theorem eqS_iff {a b:ByteArray}:eqS a b=true↔a=b:=by
 unfold eqS;rw [beq_iff_eq]
 constructor
 ·intro h
  have:a.data.toList=b.data.toList:=by rw [←ByteArray.toList_eq,←ByteArray.toList_eq,h]
  cases a;cases b;congr;exact Array.toList_inj.1 this
 ·intro h;rw [h]
theorem beq_any (v1 v2:Value)(l1 l2:List UInt8)(B:Nat)(w:World)(h1:BytesAt w B v1 l1)(h2:BytesAt w B v2 l2) :
  Calls Try.prog 55 #[v1,v2] w fun e w'=>e=.returned (.bool (l1==l2))∧w=w':=by
 have c1:=h1.conv
 have c2:=h2.conv
 clear h1 h2
 have E:((⟨l1.toArray⟩:ByteArray).toList==(⟨l2.toArray⟩:ByteArray).toList)=(l1==l2):=by
  rw [ByteArray.toList_eq,ByteArray.toList_eq]
 generalize (⟨l1.toArray⟩:ByteArray)=s1 at *
 generalize (⟨l2.toArray⟩:ByteArray)=s2 at *
 have E:=Lib.hid E
 go_enter Try.func55,Try.ntmps55
 go_wp2
 all_goals (go_ret;exact ⟨ret_bool (by rw [←E.out]),rfl⟩)
def sameMsgP (p q:Pk):Bool:=p.dup==q.dup && p.ret==q.ret && p.qos==q.qos && eqS p.top q.top && p.pay==q.pay
def sameWillP (p q:Pk):Bool:=eqS p.wtop q.wtop && p.wpay==q.wpay && p.wqos==q.wqos && p.wret==q.wret
def sameGrP (p q:Pk):Bool:=p.level==q.level && eqS p.cli q.cli && p.clean==q.clean && p.keep==q.keep && p.hw==q.hw && sameWillP p q && p.hu==q.hu && p.hp==q.hp && eqS p.user q.user && p.pass==q.pass
theorem sameMsg_any (p q:Pk)(s t:Sv)(B:Nat)(w:World)(hp:PkAt w B p s)(hq:PkAt w B q t)(hB:B≤w.heap.size) :
  Calls Try.prog 48 #[pkV p s,pkV q t] w fun e w'=>e=.returned (.bool (sameMsgP p q))∧Below w.heap.size w w':=by
 have H1:=Lib.hid hp.pay
 have H2:=Lib.hid hq.pay
 clear hp hq
 go_enter Try.func48,Try.ntmps48
 go_wp2_with (go_at_call 55;refine (beq_any _ _ p.pay q.pay B _ (H1.out.to hB (by (repeat (first | assumption | exact Below.refl _ _ | exact (Below.refl _ _).alloc (Nat.le_refl _) _ | (refine thn ?_ (by assumption)) | (refine alB ?_ _) | (refine dwN ?_ _) | (refine Below.drew ?_))))) (H2.out.to hB (by (repeat (first | assumption | exact Below.refl _ _ | exact (Below.refl _ _).alloc (Nat.le_refl _) _ | (refine thn ?_ (by assumption)) | (refine alB ?_ _) | (refine dwN ?_ _) | (refine Below.drew ?_)))))).mono ?_;rintro e w' ⟨rfl,rfl⟩)
 all_goals (go_ret;exact ⟨ret_bool (by unfold sameMsgP eqS;simp [*]),by (repeat (first | assumption | exact Below.refl _ _ | exact (Below.refl _ _).alloc (Nat.le_refl _) _ | (refine thn ?_ (by assumption)) | (refine alB ?_ _) | (refine dwN ?_ _) | (refine Below.drew ?_)))⟩)
theorem sameWill_any (p q:Pk)(s t:Sv)(B:Nat)(w:World)(hp:PkAt w B p s)(hq:PkAt w B q t)(hB:B≤w.heap.size) :
  Calls Try.prog 81 #[wlV p s,wlV q t] w fun e w'=>e=.returned (.bool (sameWillP p q))∧Below w.heap.size w w':=by
 have H1:=Lib.hid hp.wpay
 have H2:=Lib.hid hq.wpay
 clear hp hq
 go_enter Try.func81,Try.ntmps81
 go_wp2_with (go_at_call 55;refine (beq_any _ _ p.wpay q.wpay B _ (H1.out.to hB (by (repeat (first | assumption | exact Below.refl _ _ | exact (Below.refl _ _).alloc (Nat.le_refl _) _ | (refine thn ?_ (by assumption)) | (refine alB ?_ _) | (refine dwN ?_ _) | (refine Below.drew ?_))))) (H2.out.to hB (by (repeat (first | assumption | exact Below.refl _ _ | exact (Below.refl _ _).alloc (Nat.le_refl _) _ | (refine thn ?_ (by assumption)) | (refine alB ?_ _) | (refine dwN ?_ _) | (refine Below.drew ?_)))))).mono ?_;rintro e w' ⟨rfl,rfl⟩)
 all_goals (go_ret;exact ⟨ret_bool (by unfold sameWillP eqS;simp [*]),by (repeat (first | assumption | exact Below.refl _ _ | exact (Below.refl _ _).alloc (Nat.le_refl _) _ | (refine thn ?_ (by assumption)) | (refine alB ?_ _) | (refine dwN ?_ _) | (refine Below.drew ?_)))⟩)
def eqSubs (a b:List (ByteArray×Int)):Bool:=decide (a=b)
def eqInts (a b:List Int):Bool:=decide (a=b)
theorem eq_take {α:Type} [DecidableEq α](a b:List α)(k:Nat)(h1:k<a.length)(h2:k<b.length)(h:a.take k=b.take k)(hk:a[k]=b[k]):a.take (k+1)=b.take (k+1):=by
 rw [List.take_succ_eq_append_getElem h1,List.take_succ_eq_append_getElem h2,h,hk]
theorem ne_at {α:Type}(a b:List α)(k:Nat)(h1:k<a.length)(h2:k<b.length)(hk:¬a[k]=b[k]):¬a=b:=by
 intro e;subst e;exact hk rfl
theorem eqInts_any (A A':Option Addr)(n n' c c':Nat)(l l':List Int)(B:Nat)(w:World)(hv:IntsAt w B (.slice A n c) l)(hv':IntsAt w B (.slice A' n' c') l')(hn:n=l.length)(hn':n'=l'.length)(hB:B≤w.heap.size)(hl:l.length≤1000000) :
  Calls Try.prog 51 #[.slice A n c,.slice A' n' c'] w fun e w'=>e=.returned (.bool (eqInts l l'))∧Below w.heap.size w w':=by
 subst hn;subst hn'
 by_cases hne:l.length=l'.length
 ·have hneb:((l.length:Int) != (l'.length:Int))=false:=by rw [hne];simp
  have HN:=Lib.hid hne
  clear hne
  go_enter Try.func51,Try.ntmps51
  go_wp2
  go_loopw [13] (fun i w'=>∃k:Nat,k≤l.length∧i=.int .i64 k∧Below w.heap.size w w'∧Hid (l.take k=l'.take k)) (fun i _=>l.length - (intOf i).toNat)
  case atStart=>exact ⟨0,Nat.zero_le _,rfl,Below.refl _ _,Lib.hid (by simp)⟩
  case round =>
   obtain ⟨k,hk,rfl,hb,hal⟩:=hrel
   by_cases hlt:k<l.length
   ·have hlt':k<l'.length:=by have:=HN.out;omega
    obtain ⟨ad,rfl,hkc,c1⟩:=(hv.to hB hb).at_ k hlt
    obtain ⟨ad',rfl,hkc',c1'⟩:=(hv'.to hB hb).at_ k hlt'
    have hst:=Lib.hid (eq_take l l' k hlt hlt' hal.out)
    have hfl:=Lib.hid (ne_at l l' k hlt hlt')
    generalize l[k]=x at *
    generalize l'[k]=y at *
    clear hv hv'
    by_cases hx:x=y
    ·subst hx
     go_wp2_with fail
     go_quiet (fail)
     go_wp2_with fail
     go_roundw
     case rel=>exact ⟨k+1,hlt,by go_num,by (repeat (first | assumption | exact Below.refl _ _ | exact (Below.refl _ _).alloc (Nat.le_refl _) _ | (refine thn ?_ (by assumption)) | (refine alB ?_ _) | (refine dwN ?_ _) | (refine Below.drew ?_))),Lib.hid (by simpa using hst.out)⟩
     case measure=>simp [intOf];omega
    ·have hxb:(x != y)=true:=by simp [hx]
     go_wp2_with fail
     go_quiet (fail)
     go_wp2_with fail
     go_ret
     exact ⟨ret_bool (by unfold eqInts;symm;rw [decide_eq_false_iff_not];exact hfl.out hx),by (repeat (first | assumption | exact Below.refl _ _ | exact (Below.refl _ _).alloc (Nat.le_refl _) _ | (refine thn ?_ (by assumption)) | (refine alB ?_ _) | (refine dwN ?_ _) | (refine Below.drew ?_)))⟩
   ·go_wp2
    go_ret
    exact ⟨ret_bool (by have e:=hal.out;rw [List.take_of_length_le (by omega),List.take_of_length_le (by have:=HN.out;omega)] at e;unfold eqInts;simp [e]),by (repeat (first | assumption | exact Below.refl _ _ | exact (Below.refl _ _).alloc (Nat.le_refl _) _ | (refine thn ?_ (by assumption)) | (refine alB ?_ _) | (refine dwN ?_ _) | (refine Below.drew ?_)))⟩
 ·have hneb:((l.length:Int) != (l'.length:Int))=true:=by simp;omega
  have HN:=Lib.hid hne
  clear hne
  go_enter Try.func51,Try.ntmps51
  go_wp2
  go_ret
  exact ⟨ret_bool (by unfold eqInts;symm;rw [decide_eq_false_iff_not];intro e;exact HN.out (by rw [e])),by (repeat (first | assumption | exact Below.refl _ _ | exact (Below.refl _ _).alloc (Nat.le_refl _) _ | (refine thn ?_ (by assumption)) | (refine alB ?_ _) | (refine dwN ?_ _) | (refine Below.drew ?_)))⟩
theorem eq_take2 (a b:List (ByteArray×Int))(k:Nat)(h1:k<a.length)(h2:k<b.length)(h:a.take k=b.take k)(hk:a[k].1=b[k].1)(hk2:a[k].2=b[k].2):a.take (k+1)=b.take (k+1) :=
 eq_take a b k h1 h2 h (Prod.ext hk hk2)
theorem ne_at2 (a b:List (ByteArray×Int))(k:Nat)(h1:k<a.length)(h2:k<b.length)(hk:¬(a[k].1=b[k].1∧a[k].2=b[k].2)):¬a=b:=by
 intro e;subst e;exact hk ⟨rfl,rfl⟩
theorem eqSubs_any (A A':Option Addr)(n n' c c':Nat)(l l':List (ByteArray×Int))(B:Nat)(w:World)(hv:SubsAt w B (.slice A n c) l)(hv':SubsAt w B (.slice A' n' c') l')(hn:n=l.length)(hn':n'=l'.length)(hB:B≤w.heap.size)(hl:l.length≤1000000) :
  Calls Try.prog 50 #[.slice A n c,.slice A' n' c'] w fun e w'=>e=.returned (.bool (eqSubs l l'))∧Below w.heap.size w w':=by
 subst hn;subst hn'
 by_cases hne:l.length=l'.length
 ·have hneb:((l.length:Int) != (l'.length:Int))=false:=by rw [hne];simp
  have HN:=Lib.hid hne
  clear hne
  go_enter Try.func50,Try.ntmps50
  go_wp2
  go_loopw [13] (fun i w'=>∃k:Nat,k≤l.length∧i=.int .i64 k∧Below w.heap.size w w'∧Hid (l.take k=l'.take k)) (fun i _=>l.length - (intOf i).toNat)
  case atStart=>exact ⟨0,Nat.zero_le _,rfl,Below.refl _ _,Lib.hid (by simp)⟩
  case round =>
   obtain ⟨k,hk,rfl,hb,hal⟩:=hrel
   by_cases hlt:k<l.length
   ·have hlt':k<l'.length:=by have:=HN.out;omega
    obtain ⟨ad,rfl,hkc,c1,c2⟩:=(hv.to hB hb).at_ k hlt
    obtain ⟨ad',rfl,hkc',c1',c2'⟩:=(hv'.to hB hb).at_ k hlt'
    have hst:=Lib.hid (eq_take2 l l' k hlt hlt' hal.out)
    have hfl:=Lib.hid (ne_at2 l l' k hlt hlt')
    generalize l[k].1=x at *
    generalize l[k].2=x2 at *
    generalize l'[k].1=y at *
    generalize l'[k].2=y2 at *
    clear hv hv'
    by_cases hx:x=y∧x2=y2
    ·obtain ⟨rfl,rfl⟩:=hx
     go_wp2_with fail
     go_quiet (fail)
     go_wp2_with fail
     go_roundw
     case rel=>exact ⟨k+1,hlt,by go_num,by (repeat (first | assumption | exact Below.refl _ _ | exact (Below.refl _ _).alloc (Nat.le_refl _) _ | (refine thn ?_ (by assumption)) | (refine alB ?_ _) | (refine dwN ?_ _) | (refine Below.drew ?_))),Lib.hid (by simpa using hst.out)⟩
     case measure=>simp [intOf];omega
    ·have H:=Lib.hid hx
     by_cases hx1:x=y
     ·subst hx1
      have hx2:(x2==y2)=false:=beq_eq_false_iff_ne.2 fun e=>hx ⟨rfl,e⟩
      clear hx
      go_wp2_with fail
      go_quiet (fail)
      go_wp2_with fail
      go_ret
      exact ⟨ret_bool (by unfold eqSubs;symm;rw [decide_eq_false_iff_not];exact hfl.out H.out),by (repeat (first | assumption | exact Below.refl _ _ | exact (Below.refl _ _).alloc (Nat.le_refl _) _ | (refine thn ?_ (by assumption)) | (refine alB ?_ _) | (refine dwN ?_ _) | (refine Below.drew ?_)))⟩
     ·have hx2:(x.toList==y.toList)=false:=Bool.eq_false_iff.2 fun e=>hx1 (eqS_iff.1 e)
      clear hx
      have HX1:=Lib.hid hx1
      clear hx1
      go_wp2_with fail
      go_quiet (fail)
      go_wp2_with fail
      go_ret
      exact ⟨ret_bool (by unfold eqSubs;symm;rw [decide_eq_false_iff_not];exact hfl.out H.out),by (repeat (first | assumption | exact Below.refl _ _ | exact (Below.refl _ _).alloc (Nat.le_refl _) _ | (refine thn ?_ (by assumption)) | (refine alB ?_ _) | (refine dwN ?_ _) | (refine Below.drew ?_)))⟩
   ·go_wp2
    go_ret
    exact ⟨ret_bool (by have e:=hal.out;rw [List.take_of_length_le (by omega),List.take_of_length_le (by have:=HN.out;omega)] at e;unfold eqSubs;simp [e]),by (repeat (first | assumption | exact Below.refl _ _ | exact (Below.refl _ _).alloc (Nat.le_refl _) _ | (refine thn ?_ (by assumption)) | (refine alB ?_ _) | (refine dwN ?_ _) | (refine Below.drew ?_)))⟩
 ·have hneb:((l.length:Int) != (l'.length:Int))=true:=by simp;omega
  have HN:=Lib.hid hne
  clear hne
  go_enter Try.func50,Try.ntmps50
  go_wp2
  go_ret
  exact ⟨ret_bool (by unfold eqSubs;symm;rw [decide_eq_false_iff_not];intro e;exact HN.out (by rw [e])),by (repeat (first | assumption | exact Below.refl _ _ | exact (Below.refl _ _).alloc (Nat.le_refl _) _ | (refine thn ?_ (by assumption)) | (refine alB ?_ _) | (refine dwN ?_ _) | (refine Below.drew ?_)))⟩
theorem sameGr_any (p q:Pk)(s t:Sv)(B:Nat)(w:World)(hp:PkAt w B p s)(hq:PkAt w B q t)(hB:B≤w.heap.size) :
  Calls Try.prog 49 #[pkV p s,pkV q t] w fun e w'=>e=.returned (.bool (sameGrP p q))∧Below w.heap.size w w':=by
 have H1:=Lib.hid hp
 have H2:=Lib.hid hq
 clear hp hq
 go_enter Try.func49,Try.ntmps49
 go_wp2_with (first
  | ((with_reducible show wpList _ _ _ (⟨_,.load 24 _,_,_,_,_⟩ :: _) _ _);refine ld_wl (w.heap.size) p s (by rfl) (by rfl) _ _ (by (first | assumption | exact heap_alloc_last _ _ | (repeat (first | assumption | exact heap_alloc_last _ _ | exact heap_last2 _ _ _ | refine heap_keep ?_ | refine heap_below (by assumption) ?_)))) ?_)
  | ((with_reducible show wpList _ _ _ (⟨_,.load 24 _,_,_,_,_⟩ :: _) _ _);refine ld_wl (w.heap.size+1) q t (by rfl) (by rfl) _ _ (by (first | assumption | exact heap_alloc_last _ _ | (repeat (first | assumption | exact heap_alloc_last _ _ | exact heap_last2 _ _ _ | refine heap_keep ?_ | refine heap_below (by assumption) ?_)))) ?_)
  | (go_at_call 81;refine (sameWill_any p q s t B _ (H1.out.to hB (by (repeat (first | assumption | exact Below.refl _ _ | exact (Below.refl _ _).alloc (Nat.le_refl _) _ | (refine thn ?_ (by assumption)) | (refine alB ?_ _) | (refine dwN ?_ _) | (refine Below.drew ?_))))) (H2.out.to hB (by (repeat (first | assumption | exact Below.refl _ _ | exact (Below.refl _ _).alloc (Nat.le_refl _) _ | (refine thn ?_ (by assumption)) | (refine alB ?_ _) | (refine dwN ?_ _) | (refine Below.drew ?_))))) (by simp;omega)).mono ?_;rintro e w' ⟨rfl,hb⟩;obtain ⟨hc,hf⟩:=bcell hb;have hz:w.heap.size<w'.heap.size:=(by have:=hb.size;(try simp at this);omega))
  | (go_at_call 55;refine (beq_any _ _ p.pass q.pass B _ (H1.out.pass.to hB (by (repeat (first | assumption | exact Below.refl _ _ | exact (Below.refl _ _).alloc (Nat.le_refl _) _ | (refine thn ?_ (by assumption)) | (refine alB ?_ _) | (refine dwN ?_ _) | (refine Below.drew ?_))))) (H2.out.pass.to hB (by (repeat (first | assumption | exact Below.refl _ _ | exact (Below.refl _ _).alloc (Nat.le_refl _) _ | (refine thn ?_ (by assumption)) | (refine alB ?_ _) | (refine dwN ?_ _) | (refine Below.drew ?_)))))).mono ?_;rintro e w' ⟨rfl,rfl⟩))
 all_goals (go_ret;exact ⟨ret_bool (by unfold sameGrP eqS;simp [*]),by (repeat (first | assumption | exact Below.refl _ _ | exact (Below.refl _ _).alloc (Nat.le_refl _) _ | (refine thn ?_ (by assumption)) | (refine alB ?_ _) | (refine dwN ?_ _) | (refine Below.drew ?_)))⟩)
theorem heap_last2 (w:World)(a b:Obj):((w.alloc a).alloc b).heap[w.heap.size+1]? = some b:=by
 have h:=heap_alloc_last (w.alloc a) b
 have e:(w.alloc a).heap.size=w.heap.size+1:=by simp
 rw [e] at h;exact h
def samePk (p q:Pk):Bool:=p.kind==q.kind && p.id==q.id && sameMsgP p q && sameGrP p q && p.pres==q.pres && p.code==q.code && eqSubs p.subs q.subs && eqInts p.codes q.codes
theorem samePk_iff (p q:Pk):samePk p q=decide (p=q):=by
 rw [Bool.eq_iff_iff,decide_eq_true_iff]
 constructor
 ·intro h
  cases p;cases q
  simp only [samePk,sameMsgP,sameGrP,sameWillP,eqSubs,eqInts,Bool.and_eq_true,beq_iff_eq,eqS_iff,decide_eq_true_iff] at h
  simp only [Pk.mk.injEq]
  simp only [h,and_self]
 ·rintro rfl
  simp only [samePk,sameMsgP,sameGrP,sameWillP,eqSubs,eqInts,Bool.and_eq_true,beq_iff_eq,eqS_iff,decide_eq_true_iff,and_self]
theorem same_any (p q:Pk)(s t:Sv)(B:Nat)(w:World)(hp:PkAt w B p s)(hq:PkAt w B q t)(hB:B≤w.heap.size)(hl:p.subs.length≤1000000)(hl2:p.codes.length≤1000000) :
  Calls Try.prog 21 #[pkV p s,pkV q t] w fun e w'=>e=.returned (.bool (decide (p=q)))∧Below w.heap.size w w':=by
 have H1:=Lib.hid hp
 have H2:=Lib.hid hq
 clear hp hq
 rw [←samePk_iff]
 rcases hb0:(p.kind==q.kind) with _ | _
 ·go_enter Try.func21,Try.ntmps21
  go_wp2_with (first
   | ((with_reducible show wpList _ _ _ (⟨_,.load 28 _,_,_,_,_⟩ :: _) _ _);refine ld_pk (w.heap.size) (by rfl) (by rfl) _ _ _ (by (first | assumption | exact heap_alloc_last _ _ | (repeat (first | assumption | exact heap_alloc_last _ _ | exact heap_last2 _ _ _ | refine heap_keep ?_ | refine heap_below (by assumption) ?_)))) (by rfl) ?_)
   | ((with_reducible show wpList _ _ _ (⟨_,.load 28 _,_,_,_,_⟩ :: _) _ _);refine ld_pk (w.heap.size+1) (by rfl) (by rfl) _ _ _ (by (first | assumption | exact heap_alloc_last _ _ | (repeat (first | assumption | exact heap_alloc_last _ _ | exact heap_last2 _ _ _ | refine heap_keep ?_ | refine heap_below (by assumption) ?_)))) (by rfl) ?_)
   | (go_at_call 48;refine (sameMsg_any p q s t B _ (H1.out.to hB (by (repeat (first | assumption | exact Below.refl _ _ | exact (Below.refl _ _).alloc (Nat.le_refl _) _ | (refine thn ?_ (by assumption)) | (refine alB ?_ _) | (refine dwN ?_ _) | (refine Below.drew ?_))))) (H2.out.to hB (by (repeat (first | assumption | exact Below.refl _ _ | exact (Below.refl _ _).alloc (Nat.le_refl _) _ | (refine thn ?_ (by assumption)) | (refine alB ?_ _) | (refine dwN ?_ _) | (refine Below.drew ?_))))) (by simp;omega)).mono ?_;rintro e w' ⟨rfl,hb⟩;obtain ⟨hc,hf⟩:=bcell hb;have hz:w.heap.size<w'.heap.size:=(by have:=hb.size;(try simp at this);omega);have hz2:w.heap.size+1<w'.heap.size:=(by have:=hb.size;(try simp at this);omega))
   | (go_at_call 49;refine (sameGr_any p q s t B _ (H1.out.to hB (by (repeat (first | assumption | exact Below.refl _ _ | exact (Below.refl _ _).alloc (Nat.le_refl _) _ | (refine thn ?_ (by assumption)) | (refine alB ?_ _) | (refine dwN ?_ _) | (refine Below.drew ?_))))) (H2.out.to hB (by (repeat (first | assumption | exact Below.refl _ _ | exact (Below.refl _ _).alloc (Nat.le_refl _) _ | (refine thn ?_ (by assumption)) | (refine alB ?_ _) | (refine dwN ?_ _) | (refine Below.drew ?_))))) (by omega)).mono ?_;rintro e w' ⟨rfl,hb⟩;obtain ⟨hc,hf⟩:=bcell hb;have hz:w.heap.size<w'.heap.size:=(by have:=hb.size;(try simp at this);omega);have hz2:w.heap.size+1<w'.heap.size:=(by have:=hb.size;(try simp at this);omega))
   | (go_at_call 50;refine (eqSubs_any _ _ _ _ _ _ p.subs q.subs B _ (H1.out.subs.to hB (by (repeat (first | assumption | exact Below.refl _ _ | exact (Below.refl _ _).alloc (Nat.le_refl _) _ | (refine thn ?_ (by assumption)) | (refine alB ?_ _) | (refine dwN ?_ _) | (refine Below.drew ?_))))) (H2.out.subs.to hB (by (repeat (first | assumption | exact Below.refl _ _ | exact (Below.refl _ _).alloc (Nat.le_refl _) _ | (refine thn ?_ (by assumption)) | (refine alB ?_ _) | (refine dwN ?_ _) | (refine Below.drew ?_))))) rfl rfl (by omega) hl).mono ?_;rintro e w' ⟨rfl,hb⟩;obtain ⟨hc,hf⟩:=bcell hb;have hz:w.heap.size<w'.heap.size:=(by have:=hb.size;(try simp at this);omega);have hz2:w.heap.size+1<w'.heap.size:=(by have:=hb.size;(try simp at this);omega))
   | (go_at_call 51;refine (eqInts_any _ _ _ _ _ _ p.codes q.codes B _ (H1.out.codes.to hB (by (repeat (first | assumption | exact Below.refl _ _ | exact (Below.refl _ _).alloc (Nat.le_refl _) _ | (refine thn ?_ (by assumption)) | (refine alB ?_ _) | (refine dwN ?_ _) | (refine Below.drew ?_))))) (H2.out.codes.to hB (by (repeat (first | assumption | exact Below.refl _ _ | exact (Below.refl _ _).alloc (Nat.le_refl _) _ | (refine thn ?_ (by assumption)) | (refine alB ?_ _) | (refine dwN ?_ _) | (refine Below.drew ?_))))) rfl rfl (by omega) hl2).mono ?_;rintro e w' ⟨rfl,hb⟩;obtain ⟨hc,hf⟩:=bcell hb;have hz:w.heap.size<w'.heap.size:=(by have:=hb.size;(try simp at this);omega);have hz2:w.heap.size+1<w'.heap.size:=(by have:=hb.size;(try simp at this);omega)))
  all_goals (go_ret;exact ⟨ret_bool (by unfold samePk;simp [*]),by (repeat (first | assumption | exact Below.refl _ _ | exact (Below.refl _ _).alloc (Nat.le_refl _) _ | (refine thn ?_ (by assumption)) | (refine alB ?_ _) | (refine dwN ?_ _) | (refine Below.drew ?_)))⟩)
 rcases hb1:(p.id==q.id) with _ | _
 ·go_enter Try.func21,Try.ntmps21
  go_wp2_with (first
   | ((with_reducible show wpList _ _ _ (⟨_,.load 28 _,_,_,_,_⟩ :: _) _ _);refine ld_pk (w.heap.size) (by rfl) (by rfl) _ _ _ (by (first | assumption | exact heap_alloc_last _ _ | (repeat (first | assumption | exact heap_alloc_last _ _ | exact heap_last2 _ _ _ | refine heap_keep ?_ | refine heap_below (by assumption) ?_)))) (by rfl) ?_)
   | ((with_reducible show wpList _ _ _ (⟨_,.load 28 _,_,_,_,_⟩ :: _) _ _);refine ld_pk (w.heap.size+1) (by rfl) (by rfl) _ _ _ (by (first | assumption | exact heap_alloc_last _ _ | (repeat (first | assumption | exact heap_alloc_last _ _ | exact heap_last2 _ _ _ | refine heap_keep ?_ | refine heap_below (by assumption) ?_)))) (by rfl) ?_)
   | (go_at_call 48;refine (sameMsg_any p q s t B _ (H1.out.to hB (by (repeat (first | assumption | exact Below.refl _ _ | exact (Below.refl _ _).alloc (Nat.le_refl _) _ | (refine thn ?_ (by assumption)) | (refine alB ?_ _) | (refine dwN ?_ _) | (refine Below.drew ?_))))) (H2.out.to hB (by (repeat (first | assumption | exact Below.refl _ _ | exact (Below.refl _ _).alloc (Nat.le_refl _) _ | (refine thn ?_ (by assumption)) | (refine alB ?_ _) | (refine dwN ?_ _) | (refine Below.drew ?_))))) (by simp;omega)).mono ?_;rintro e w' ⟨rfl,hb⟩;obtain ⟨hc,hf⟩:=bcell hb;have hz:w.heap.size<w'.heap.size:=(by have:=hb.size;(try simp at this);omega);have hz2:w.heap.size+1<w'.heap.size:=(by have:=hb.size;(try simp at this);omega))
   | (go_at_call 49;refine (sameGr_any p q s t B _ (H1.out.to hB (by (repeat (first | assumption | exact Below.refl _ _ | exact (Below.refl _ _).alloc (Nat.le_refl _) _ | (refine thn ?_ (by assumption)) | (refine alB ?_ _) | (refine dwN ?_ _) | (refine Below.drew ?_))))) (H2.out.to hB (by (repeat (first | assumption | exact Below.refl _ _ | exact (Below.refl _ _).alloc (Nat.le_refl _) _ | (refine thn ?_ (by assumption)) | (refine alB ?_ _) | (refine dwN ?_ _) | (refine Below.drew ?_))))) (by omega)).mono ?_;rintro e w' ⟨rfl,hb⟩;obtain ⟨hc,hf⟩:=bcell hb;have hz:w.heap.size<w'.heap.size:=(by have:=hb.size;(try simp at this);omega);have hz2:w.heap.size+1<w'.heap.size:=(by have:=hb.size;(try simp at this);omega))
   | (go_at_call 50;refine (eqSubs_any _ _ _ _ _ _ p.subs q.subs B _ (H1.out.subs.to hB (by (repeat (first | assumption | exact Below.refl _ _ | exact (Below.refl _ _).alloc (Nat.le_refl _) _ | (refine thn ?_ (by assumption)) | (refine alB ?_ _) | (refine dwN ?_ _) | (refine Below.drew ?_))))) (H2.out.subs.to hB (by (repeat (first | assumption | exact Below.refl _ _ | exact (Below.refl _ _).alloc (Nat.le_refl _) _ | (refine thn ?_ (by assumption)) | (refine alB ?_ _) | (refine dwN ?_ _) | (refine Below.drew ?_))))) rfl rfl (by omega) hl).mono ?_;rintro e w' ⟨rfl,hb⟩;obtain ⟨hc,hf⟩:=bcell hb;have hz:w.heap.size<w'.heap.size:=(by have:=hb.size;(try simp at this);omega);have hz2:w.heap.size+1<w'.heap.size:=(by have:=hb.size;(try simp at this);omega))
   | (go_at_call 51;refine (eqInts_any _ _ _ _ _ _ p.codes q.codes B _ (H1.out.codes.to hB (by (repeat (first | assumption | exact Below.refl _ _ | exact (Below.refl _ _).alloc (Nat.le_refl _) _ | (refine thn ?_ (by assumption)) | (refine alB ?_ _) | (refine dwN ?_ _) | (refine Below.drew ?_))))) (H2.out.codes.to hB (by (repeat (first | assumption | exact Below.refl _ _ | exact (Below.refl _ _).alloc (Nat.le_refl _) _ | (refine thn ?_ (by assumption)) | (refine alB ?_ _) | (refine dwN ?_ _) | (refine Below.drew ?_))))) rfl rfl (by omega) hl2).mono ?_;rintro e w' ⟨rfl,hb⟩;obtain ⟨hc,hf⟩:=bcell hb;have hz:w.heap.size<w'.heap.size:=(by have:=hb.size;(try simp at this);omega);have hz2:w.heap.size+1<w'.heap.size:=(by have:=hb.size;(try simp at this);omega)))
  all_goals (go_ret;exact ⟨ret_bool (by unfold samePk;simp [*]),by (repeat (first | assumption | exact Below.refl _ _ | exact (Below.refl _ _).alloc (Nat.le_refl _) _ | (refine thn ?_ (by assumption)) | (refine alB ?_ _) | (refine dwN ?_ _) | (refine Below.drew ?_)))⟩)
 rcases hb2:sameMsgP p q with _ | _
 ·go_enter Try.func21,Try.ntmps21
  go_wp2_with (first
   | ((with_reducible show wpList _ _ _ (⟨_,.load 28 _,_,_,_,_⟩ :: _) _ _);refine ld_pk (w.heap.size) (by rfl) (by rfl) _ _ _ (by (first | assumption | exact heap_alloc_last _ _ | (repeat (first | assumption | exact heap_alloc_last _ _ | exact heap_last2 _ _ _ | refine heap_keep ?_ | refine heap_below (by assumption) ?_)))) (by rfl) ?_)
   | ((with_reducible show wpList _ _ _ (⟨_,.load 28 _,_,_,_,_⟩ :: _) _ _);refine ld_pk (w.heap.size+1) (by rfl) (by rfl) _ _ _ (by (first | assumption | exact heap_alloc_last _ _ | (repeat (first | assumption | exact heap_alloc_last _ _ | exact heap_last2 _ _ _ | refine heap_keep ?_ | refine heap_below (by assumption) ?_)))) (by rfl) ?_)
   | (go_at_call 48;refine (sameMsg_any p q s t B _ (H1.out.to hB (by (repeat (first | assumption | exact Below.refl _ _ | exact (Below.refl _ _).alloc (Nat.le_refl _) _ | (refine thn ?_ (by assumption)) | (refine alB ?_ _) | (refine dwN ?_ _) | (refine Below.drew ?_))))) (H2.out.to hB (by (repeat (first | assumption | exact Below.refl _ _ | exact (Below.refl _ _).alloc (Nat.le_refl _) _ | (refine thn ?_ (by assumption)) | (refine alB ?_ _) | (refine dwN ?_ _) | (refine Below.drew ?_))))) (by simp;omega)).mono ?_;rintro e w' ⟨rfl,hb⟩;obtain ⟨hc,hf⟩:=bcell hb;have hz:w.heap.size<w'.heap.size:=(by have:=hb.size;(try simp at this);omega);have hz2:w.heap.size+1<w'.heap.size:=(by have:=hb.size;(try simp at this);omega))
   | (go_at_call 49;refine (sameGr_any p q s t B _ (H1.out.to hB (by (repeat (first | assumption | exact Below.refl _ _ | exact (Below.refl _ _).alloc (Nat.le_refl _) _ | (refine thn ?_ (by assumption)) | (refine alB ?_ _) | (refine dwN ?_ _) | (refine Below.drew ?_))))) (H2.out.to hB (by (repeat (first | assumption | exact Below.refl _ _ | exact (Below.refl _ _).alloc (Nat.le_refl _) _ | (refine thn ?_ (by assumption)) | (refine alB ?_ _) | (refine dwN ?_ _) | (refine Below.drew ?_))))) (by omega)).mono ?_;rintro e w' ⟨rfl,hb⟩;obtain ⟨hc,hf⟩:=bcell hb;have hz:w.heap.size<w'.heap.size:=(by have:=hb.size;(try simp at this);omega);have hz2:w.heap.size+1<w'.heap.size:=(by have:=hb.size;(try simp at this);omega))
   | (go_at_call 50;refine (eqSubs_any _ _ _ _ _ _ p.subs q.subs B _ (H1.out.subs.to hB (by (repeat (first | assumption | exact Below.refl _ _ | exact (Below.refl _ _).alloc (Nat.le_refl _) _ | (refine thn ?_ (by assumption)) | (refine alB ?_ _) | (refine dwN ?_ _) | (refine Below.drew ?_))))) (H2.out.subs.to hB (by (repeat (first | assumption | exact Below.refl _ _ | exact (Below.refl _ _).alloc (Nat.le_refl _) _ | (refine thn ?_ (by assumption)) | (refine alB ?_ _) | (refine dwN ?_ _) | (refine Below.drew ?_))))) rfl rfl (by omega) hl).mono ?_;rintro e w' ⟨rfl,hb⟩;obtain ⟨hc,hf⟩:=bcell hb;have hz:w.heap.size<w'.heap.size:=(by have:=hb.size;(try simp at this);omega);have hz2:w.heap.size+1<w'.heap.size:=(by have:=hb.size;(try simp at this);omega))
   | (go_at_call 51;refine (eqInts_any _ _ _ _ _ _ p.codes q.codes B _ (H1.out.codes.to hB (by (repeat (first | assumption | exact Below.refl _ _ | exact (Below.refl _ _).alloc (Nat.le_refl _) _ | (refine thn ?_ (by assumption)) | (refine alB ?_ _) | (refine dwN ?_ _) | (refine Below.drew ?_))))) (H2.out.codes.to hB (by (repeat (first | assumption | exact Below.refl _ _ | exact (Below.refl _ _).alloc (Nat.le_refl _) _ | (refine thn ?_ (by assumption)) | (refine alB ?_ _) | (refine dwN ?_ _) | (refine Below.drew ?_))))) rfl rfl (by omega) hl2).mono ?_;rintro e w' ⟨rfl,hb⟩;obtain ⟨hc,hf⟩:=bcell hb;have hz:w.heap.size<w'.heap.size:=(by have:=hb.size;(try simp at this);omega);have hz2:w.heap.size+1<w'.heap.size:=(by have:=hb.size;(try simp at this);omega)))
  all_goals (go_ret;exact ⟨ret_bool (by unfold samePk;simp [*]),by (repeat (first | assumption | exact Below.refl _ _ | exact (Below.refl _ _).alloc (Nat.le_refl _) _ | (refine thn ?_ (by assumption)) | (refine alB ?_ _) | (refine dwN ?_ _) | (refine Below.drew ?_)))⟩)
 rcases hb3:sameGrP p q with _ | _
 ·go_enter Try.func21,Try.ntmps21
  go_wp2_with (first
   | ((with_reducible show wpList _ _ _ (⟨_,.load 28 _,_,_,_,_⟩ :: _) _ _);refine ld_pk (w.heap.size) (by rfl) (by rfl) _ _ _ (by (first | assumption | exact heap_alloc_last _ _ | (repeat (first | assumption | exact heap_alloc_last _ _ | exact heap_last2 _ _ _ | refine heap_keep ?_ | refine heap_below (by assumption) ?_)))) (by rfl) ?_)
   | ((with_reducible show wpList _ _ _ (⟨_,.load 28 _,_,_,_,_⟩ :: _) _ _);refine ld_pk (w.heap.size+1) (by rfl) (by rfl) _ _ _ (by (first | assumption | exact heap_alloc_last _ _ | (repeat (first | assumption | exact heap_alloc_last _ _ | exact heap_last2 _ _ _ | refine heap_keep ?_ | refine heap_below (by assumption) ?_)))) (by rfl) ?_)
   | (go_at_call 48;refine (sameMsg_any p q s t B _ (H1.out.to hB (by (repeat (first | assumption | exact Below.refl _ _ | exact (Below.refl _ _).alloc (Nat.le_refl _) _ | (refine thn ?_ (by assumption)) | (refine alB ?_ _) | (refine dwN ?_ _) | (refine Below.drew ?_))))) (H2.out.to hB (by (repeat (first | assumption | exact Below.refl _ _ | exact (Below.refl _ _).alloc (Nat.le_refl _) _ | (refine thn ?_ (by assumption)) | (refine alB ?_ _) | (refine dwN ?_ _) | (refine Below.drew ?_))))) (by simp;omega)).mono ?_;rintro e w' ⟨rfl,hb⟩;obtain ⟨hc,hf⟩:=bcell hb;have hz:w.heap.size<w'.heap.size:=(by have:=hb.size;(try simp at this);omega);have hz2:w.heap.size+1<w'.heap.size:=(by have:=hb.size;(try simp at this);omega))
   | (go_at_call 49;refine (sameGr_any p q s t B _ (H1.out.to hB (by (repeat (first | assumption | exact Below.refl _ _ | exact (Below.refl _ _).alloc (Nat.le_refl _) _ | (refine thn ?_ (by assumption)) | (refine alB ?_ _) | (refine dwN ?_ _) | (refine Below.drew ?_))))) (H2.out.to hB (by (repeat (first | assumption | exact Below.refl _ _ | exact (Below.refl _ _).alloc (Nat.le_refl _) _ | (refine thn ?_ (by assumption)) | (refine alB ?_ _) | (refine dwN ?_ _) | (refine Below.drew ?_))))) (by omega)).mono ?_;rintro e w' ⟨rfl,hb⟩;obtain ⟨hc,hf⟩:=bcell hb;have hz:w.heap.size<w'.heap.size:=(by have:=hb.size;(try simp at this);omega);have hz2:w.heap.size+1<w'.heap.size:=(by have:=hb.size;(try simp at this);omega))
   | (go_at_call 50;refine (eqSubs_any _ _ _ _ _ _ p.subs q.subs B _ (H1.out.subs.to hB (by (repeat (first | assumption | exact Below.refl _ _ | exact (Below.refl _ _).alloc (Nat.le_refl _) _ | (refine thn ?_ (by assumption)) | (refine alB ?_ _) | (refine dwN ?_ _) | (refine Below.drew ?_))))) (H2.out.subs.to hB (by (repeat (first | assumption | exact Below.refl _ _ | exact (Below.refl _ _).alloc (Nat.le_refl _) _ | (refine thn ?_ (by assumption)) | (refine alB ?_ _) | (refine dwN ?_ _) | (refine Below.drew ?_))))) rfl rfl (by omega) hl).mono ?_;rintro e w' ⟨rfl,hb⟩;obtain ⟨hc,hf⟩:=bcell hb;have hz:w.heap.size<w'.heap.size:=(by have:=hb.size;(try simp at this);omega);have hz2:w.heap.size+1<w'.heap.size:=(by have:=hb.size;(try simp at this);omega))
   | (go_at_call 51;refine (eqInts_any _ _ _ _ _ _ p.codes q.codes B _ (H1.out.codes.to hB (by (repeat (first | assumption | exact Below.refl _ _ | exact (Below.refl _ _).alloc (Nat.le_refl _) _ | (refine thn ?_ (by assumption)) | (refine alB ?_ _) | (refine dwN ?_ _) | (refine Below.drew ?_))))) (H2.out.codes.to hB (by (repeat (first | assumption | exact Below.refl _ _ | exact (Below.refl _ _).alloc (Nat.le_refl _) _ | (refine thn ?_ (by assumption)) | (refine alB ?_ _) | (refine dwN ?_ _) | (refine Below.drew ?_))))) rfl rfl (by omega) hl2).mono ?_;rintro e w' ⟨rfl,hb⟩;obtain ⟨hc,hf⟩:=bcell hb;have hz:w.heap.size<w'.heap.size:=(by have:=hb.size;(try simp at this);omega);have hz2:w.heap.size+1<w'.heap.size:=(by have:=hb.size;(try simp at this);omega)))
  all_goals (go_ret;exact ⟨ret_bool (by unfold samePk;simp [*]),by (repeat (first | assumption | exact Below.refl _ _ | exact (Below.refl _ _).alloc (Nat.le_refl _) _ | (refine thn ?_ (by assumption)) | (refine alB ?_ _) | (refine dwN ?_ _) | (refine Below.drew ?_)))⟩)
 rcases hb4:(p.pres==q.pres) with _ | _
 ·go_enter Try.func21,Try.ntmps21
  go_wp2_with (first
   | ((with_reducible show wpList _ _ _ (⟨_,.load 28 _,_,_,_,_⟩ :: _) _ _);refine ld_pk (w.heap.size) (by rfl) (by rfl) _ _ _ (by (first | assumption | exact heap_alloc_last _ _ | (repeat (first | assumption | exact heap_alloc_last _ _ | exact heap_last2 _ _ _ | refine heap_keep ?_ | refine heap_below (by assumption) ?_)))) (by rfl) ?_)
   | ((with_reducible show wpList _ _ _ (⟨_,.load 28 _,_,_,_,_⟩ :: _) _ _);refine ld_pk (w.heap.size+1) (by rfl) (by rfl) _ _ _ (by (first | assumption | exact heap_alloc_last _ _ | (repeat (first | assumption | exact heap_alloc_last _ _ | exact heap_last2 _ _ _ | refine heap_keep ?_ | refine heap_below (by assumption) ?_)))) (by rfl) ?_)
   | (go_at_call 48;refine (sameMsg_any p q s t B _ (H1.out.to hB (by (repeat (first | assumption | exact Below.refl _ _ | exact (Below.refl _ _).alloc (Nat.le_refl _) _ | (refine thn ?_ (by assumption)) | (refine alB ?_ _) | (refine dwN ?_ _) | (refine Below.drew ?_))))) (H2.out.to hB (by (repeat (first | assumption | exact Below.refl _ _ | exact (Below.refl _ _).alloc (Nat.le_refl _) _ | (refine thn ?_ (by assumption)) | (refine alB ?_ _) | (refine dwN ?_ _) | (refine Below.drew ?_))))) (by simp;omega)).mono ?_;rintro e w' ⟨rfl,hb⟩;obtain ⟨hc,hf⟩:=bcell hb;have hz:w.heap.size<w'.heap.size:=(by have:=hb.size;(try simp at this);omega);have hz2:w.heap.size+1<w'.heap.size:=(by have:=hb.size;(try simp at this);omega))
   | (go_at_call 49;refine (sameGr_any p q s t B _ (H1.out.to hB (by (repeat (first | assumption | exact Below.refl _ _ | exact (Below.refl _ _).alloc (Nat.le_refl _) _ | (refine thn ?_ (by assumption)) | (refine alB ?_ _) | (refine dwN ?_ _) | (refine Below.drew ?_))))) (H2.out.to hB (by (repeat (first | assumption | exact Below.refl _ _ | exact (Below.refl _ _).alloc (Nat.le_refl _) _ | (refine thn ?_ (by assumption)) | (refine alB ?_ _) | (refine dwN ?_ _) | (refine Below.drew ?_))))) (by omega)).mono ?_;rintro e w' ⟨rfl,hb⟩;obtain ⟨hc,hf⟩:=bcell hb;have hz:w.heap.size<w'.heap.size:=(by have:=hb.size;(try simp at this);omega);have hz2:w.heap.size+1<w'.heap.size:=(by have:=hb.size;(try simp at this);omega))
   | (go_at_call 50;refine (eqSubs_any _ _ _ _ _ _ p.subs q.subs B _ (H1.out.subs.to hB (by (repeat (first | assumption | exact Below.refl _ _ | exact (Below.refl _ _).alloc (Nat.le_refl _) _ | (refine thn ?_ (by assumption)) | (refine alB ?_ _) | (refine dwN ?_ _) | (refine Below.drew ?_))))) (H2.out.subs.to hB (by (repeat (first | assumption | exact Below.refl _ _ | exact (Below.refl _ _).alloc (Nat.le_refl _) _ | (refine thn ?_ (by assumption)) | (refine alB ?_ _) | (refine dwN ?_ _) | (refine Below.drew ?_))))) rfl rfl (by omega) hl).mono ?_;rintro e w' ⟨rfl,hb⟩;obtain ⟨hc,hf⟩:=bcell hb;have hz:w.heap.size<w'.heap.size:=(by have:=hb.size;(try simp at this);omega);have hz2:w.heap.size+1<w'.heap.size:=(by have:=hb.size;(try simp at this);omega))
   | (go_at_call 51;refine (eqInts_any _ _ _ _ _ _ p.codes q.codes B _ (H1.out.codes.to hB (by (repeat (first | assumption | exact Below.refl _ _ | exact (Below.refl _ _).alloc (Nat.le_refl _) _ | (refine thn ?_ (by assumption)) | (refine alB ?_ _) | (refine dwN ?_ _) | (refine Below.drew ?_))))) (H2.out.codes.to hB (by (repeat (first | assumption | exact Below.refl _ _ | exact (Below.refl _ _).alloc (Nat.le_refl _) _ | (refine thn ?_ (by assumption)) | (refine alB ?_ _) | (refine dwN ?_ _) | (refine Below.drew ?_))))) rfl rfl (by omega) hl2).mono ?_;rintro e w' ⟨rfl,hb⟩;obtain ⟨hc,hf⟩:=bcell hb;have hz:w.heap.size<w'.heap.size:=(by have:=hb.size;(try simp at this);omega);have hz2:w.heap.size+1<w'.heap.size:=(by have:=hb.size;(try simp at this);omega)))
  all_goals (go_ret;exact ⟨ret_bool (by unfold samePk;simp [*]),by (repeat (first | assumption | exact Below.refl _ _ | exact (Below.refl _ _).alloc (Nat.le_refl _) _ | (refine thn ?_ (by assumption)) | (refine alB ?_ _) | (refine dwN ?_ _) | (refine Below.drew ?_)))⟩)
 rcases hb5:(p.code==q.code) with _ | _
 ·go_enter Try.func21,Try.ntmps21
  go_wp2_with (first
   | ((with_reducible show wpList _ _ _ (⟨_,.load 28 _,_,_,_,_⟩ :: _) _ _);refine ld_pk (w.heap.size) (by rfl) (by rfl) _ _ _ (by (first | assumption | exact heap_alloc_last _ _ | (repeat (first | assumption | exact heap_alloc_last _ _ | exact heap_last2 _ _ _ | refine heap_keep ?_ | refine heap_below (by assumption) ?_)))) (by rfl) ?_)
   | ((with_reducible show wpList _ _ _ (⟨_,.load 28 _,_,_,_,_⟩ :: _) _ _);refine ld_pk (w.heap.size+1) (by rfl) (by rfl) _ _ _ (by (first | assumption | exact heap_alloc_last _ _ | (repeat (first | assumption | exact heap_alloc_last _ _ | exact heap_last2 _ _ _ | refine heap_keep ?_ | refine heap_below (by assumption) ?_)))) (by rfl) ?_)
   | (go_at_call 48;refine (sameMsg_any p q s t B _ (H1.out.to hB (by (repeat (first | assumption | exact Below.refl _ _ | exact (Below.refl _ _).alloc (Nat.le_refl _) _ | (refine thn ?_ (by assumption)) | (refine alB ?_ _) | (refine dwN ?_ _) | (refine Below.drew ?_))))) (H2.out.to hB (by (repeat (first | assumption | exact Below.refl _ _ | exact (Below.refl _ _).alloc (Nat.le_refl _) _ | (refine thn ?_ (by assumption)) | (refine alB ?_ _) | (refine dwN ?_ _) | (refine Below.drew ?_))))) (by simp;omega)).mono ?_;rintro e w' ⟨rfl,hb⟩;obtain ⟨hc,hf⟩:=bcell hb;have hz:w.heap.size<w'.heap.size:=(by have:=hb.size;(try simp at this);omega);have hz2:w.heap.size+1<w'.heap.size:=(by have:=hb.size;(try simp at this);omega))
   | (go_at_call 49;refine (sameGr_any p q s t B _ (H1.out.to hB (by (repeat (first | assumption | exact Below.refl _ _ | exact (Below.refl _ _).alloc (Nat.le_refl _) _ | (refine thn ?_ (by assumption)) | (refine alB ?_ _) | (refine dwN ?_ _) | (refine Below.drew ?_))))) (H2.out.to hB (by (repeat (first | assumption | exact Below.refl _ _ | exact (Below.refl _ _).alloc (Nat.le_refl _) _ | (refine thn ?_ (by assumption)) | (refine alB ?_ _) | (refine dwN ?_ _) | (refine Below.drew ?_))))) (by omega)).mono ?_;rintro e w' ⟨rfl,hb⟩;obtain ⟨hc,hf⟩:=bcell hb;have hz:w.heap.size<w'.heap.size:=(by have:=hb.size;(try simp at this);omega);have hz2:w.heap.size+1<w'.heap.size:=(by have:=hb.size;(try simp at this);omega))
   | (go_at_call 50;refine (eqSubs_any _ _ _ _ _ _ p.subs q.subs B _ (H1.out.subs.to hB (by (repeat (first | assumption | exact Below.refl _ _ | exact (Below.refl _ _).alloc (Nat.le_refl _) _ | (refine thn ?_ (by assumption)) | (refine alB ?_ _) | (refine dwN ?_ _) | (refine Below.drew ?_))))) (H2.out.subs.to hB (by (repeat (first | assumption | exact Below.refl _ _ | exact (Below.refl _ _).alloc (Nat.le_refl _) _ | (refine thn ?_ (by assumption)) | (refine alB ?_ _) | (refine dwN ?_ _) | (refine Below.drew ?_))))) rfl rfl (by omega) hl).mono ?_;rintro e w' ⟨rfl,hb⟩;obtain ⟨hc,hf⟩:=bcell hb;have hz:w.heap.size<w'.heap.size:=(by have:=hb.size;(try simp at this);omega);have hz2:w.heap.size+1<w'.heap.size:=(by have:=hb.size;(try simp at this);omega))
   | (go_at_call 51;refine (eqInts_any _ _ _ _ _ _ p.codes q.codes B _ (H1.out.codes.to hB (by (repeat (first | assumption | exact Below.refl _ _ | exact (Below.refl _ _).alloc (Nat.le_refl _) _ | (refine thn ?_ (by assumption)) | (refine alB ?_ _) | (refine dwN ?_ _) | (refine Below.drew ?_))))) (H2.out.codes.to hB (by (repeat (first | assumption | exact Below.refl _ _ | exact (Below.refl _ _).alloc (Nat.le_refl _) _ | (refine thn ?_ (by assumption)) | (refine alB ?_ _) | (refine dwN ?_ _) | (refine Below.drew ?_))))) rfl rfl (by omega) hl2).mono ?_;rintro e w' ⟨rfl,hb⟩;obtain ⟨hc,hf⟩:=bcell hb;have hz:w.heap.size<w'.heap.size:=(by have:=hb.size;(try simp at this);omega);have hz2:w.heap.size+1<w'.heap.size:=(by have:=hb.size;(try simp at this);omega)))
  all_goals (go_ret;exact ⟨ret_bool (by unfold samePk;simp [*]),by (repeat (first | assumption | exact Below.refl _ _ | exact (Below.refl _ _).alloc (Nat.le_refl _) _ | (refine thn ?_ (by assumption)) | (refine alB ?_ _) | (refine dwN ?_ _) | (refine Below.drew ?_)))⟩)
 rcases hb6:eqSubs p.subs q.subs with _ | _
 ·go_enter Try.func21,Try.ntmps21
  go_wp2_with (first
   | ((with_reducible show wpList _ _ _ (⟨_,.load 28 _,_,_,_,_⟩ :: _) _ _);refine ld_pk (w.heap.size) (by rfl) (by rfl) _ _ _ (by (first | assumption | exact heap_alloc_last _ _ | (repeat (first | assumption | exact heap_alloc_last _ _ | exact heap_last2 _ _ _ | refine heap_keep ?_ | refine heap_below (by assumption) ?_)))) (by rfl) ?_)
   | ((with_reducible show wpList _ _ _ (⟨_,.load 28 _,_,_,_,_⟩ :: _) _ _);refine ld_pk (w.heap.size+1) (by rfl) (by rfl) _ _ _ (by (first | assumption | exact heap_alloc_last _ _ | (repeat (first | assumption | exact heap_alloc_last _ _ | exact heap_last2 _ _ _ | refine heap_keep ?_ | refine heap_below (by assumption) ?_)))) (by rfl) ?_)
   | (go_at_call 48;refine (sameMsg_any p q s t B _ (H1.out.to hB (by (repeat (first | assumption | exact Below.refl _ _ | exact (Below.refl _ _).alloc (Nat.le_refl _) _ | (refine thn ?_ (by assumption)) | (refine alB ?_ _) | (refine dwN ?_ _) | (refine Below.drew ?_))))) (H2.out.to hB (by (repeat (first | assumption | exact Below.refl _ _ | exact (Below.refl _ _).alloc (Nat.le_refl _) _ | (refine thn ?_ (by assumption)) | (refine alB ?_ _) | (refine dwN ?_ _) | (refine Below.drew ?_))))) (by simp;omega)).mono ?_;rintro e w' ⟨rfl,hb⟩;obtain ⟨hc,hf⟩:=bcell hb;have hz:w.heap.size<w'.heap.size:=(by have:=hb.size;(try simp at this);omega);have hz2:w.heap.size+1<w'.heap.size:=(by have:=hb.size;(try simp at this);omega))
   | (go_at_call 49;refine (sameGr_any p q s t B _ (H1.out.to hB (by (repeat (first | assumption | exact Below.refl _ _ | exact (Below.refl _ _).alloc (Nat.le_refl _) _ | (refine thn ?_ (by assumption)) | (refine alB ?_ _) | (refine dwN ?_ _) | (refine Below.drew ?_))))) (H2.out.to hB (by (repeat (first | assumption | exact Below.refl _ _ | exact (Below.refl _ _).alloc (Nat.le_refl _) _ | (refine thn ?_ (by assumption)) | (refine alB ?_ _) | (refine dwN ?_ _) | (refine Below.drew ?_))))) (by omega)).mono ?_;rintro e w' ⟨rfl,hb⟩;obtain ⟨hc,hf⟩:=bcell hb;have hz:w.heap.size<w'.heap.size:=(by have:=hb.size;(try simp at this);omega);have hz2:w.heap.size+1<w'.heap.size:=(by have:=hb.size;(try simp at this);omega))
   | (go_at_call 50;refine (eqSubs_any _ _ _ _ _ _ p.subs q.subs B _ (H1.out.subs.to hB (by (repeat (first | assumption | exact Below.refl _ _ | exact (Below.refl _ _).alloc (Nat.le_refl _) _ | (refine thn ?_ (by assumption)) | (refine alB ?_ _) | (refine dwN ?_ _) | (refine Below.drew ?_))))) (H2.out.subs.to hB (by (repeat (first | assumption | exact Below.refl _ _ | exact (Below.refl _ _).alloc (Nat.le_refl _) _ | (refine thn ?_ (by assumption)) | (refine alB ?_ _) | (refine dwN ?_ _) | (refine Below.drew ?_))))) rfl rfl (by omega) hl).mono ?_;rintro e w' ⟨rfl,hb⟩;obtain ⟨hc,hf⟩:=bcell hb;have hz:w.heap.size<w'.heap.size:=(by have:=hb.size;(try simp at this);omega);have hz2:w.heap.size+1<w'.heap.size:=(by have:=hb.size;(try simp at this);omega))
   | (go_at_call 51;refine (eqInts_any _ _ _ _ _ _ p.codes q.codes B _ (H1.out.codes.to hB (by (repeat (first | assumption | exact Below.refl _ _ | exact (Below.refl _ _).alloc (Nat.le_refl _) _ | (refine thn ?_ (by assumption)) | (refine alB ?_ _) | (refine dwN ?_ _) | (refine Below.drew ?_))))) (H2.out.codes.to hB (by (repeat (first | assumption | exact Below.refl _ _ | exact (Below.refl _ _).alloc (Nat.le_refl _) _ | (refine thn ?_ (by assumption)) | (refine alB ?_ _) | (refine dwN ?_ _) | (refine Below.drew ?_))))) rfl rfl (by omega) hl2).mono ?_;rintro e w' ⟨rfl,hb⟩;obtain ⟨hc,hf⟩:=bcell hb;have hz:w.heap.size<w'.heap.size:=(by have:=hb.size;(try simp at this);omega);have hz2:w.heap.size+1<w'.heap.size:=(by have:=hb.size;(try simp at this);omega)))
  all_goals (go_ret;exact ⟨ret_bool (by unfold samePk;simp [*]),by (repeat (first | assumption | exact Below.refl _ _ | exact (Below.refl _ _).alloc (Nat.le_refl _) _ | (refine thn ?_ (by assumption)) | (refine alB ?_ _) | (refine dwN ?_ _) | (refine Below.drew ?_)))⟩)
 go_enter Try.func21,Try.ntmps21
 go_wp2_with (first
  | ((with_reducible show wpList _ _ _ (⟨_,.load 28 _,_,_,_,_⟩ :: _) _ _);refine ld_pk (w.heap.size) (by rfl) (by rfl) _ _ _ (by (first | assumption | exact heap_alloc_last _ _ | (repeat (first | assumption | exact heap_alloc_last _ _ | exact heap_last2 _ _ _ | refine heap_keep ?_ | refine heap_below (by assumption) ?_)))) (by rfl) ?_)
  | ((with_reducible show wpList _ _ _ (⟨_,.load 28 _,_,_,_,_⟩ :: _) _ _);refine ld_pk (w.heap.size+1) (by rfl) (by rfl) _ _ _ (by (first | assumption | exact heap_alloc_last _ _ | (repeat (first | assumption | exact heap_alloc_last _ _ | exact heap_last2 _ _ _ | refine heap_keep ?_ | refine heap_below (by assumption) ?_)))) (by rfl) ?_)
  | (go_at_call 48;refine (sameMsg_any p q s t B _ (H1.out.to hB (by (repeat (first | assumption | exact Below.refl _ _ | exact (Below.refl _ _).alloc (Nat.le_refl _) _ | (refine thn ?_ (by assumption)) | (refine alB ?_ _) | (refine dwN ?_ _) | (refine Below.drew ?_))))) (H2.out.to hB (by (repeat (first | assumption | exact Below.refl _ _ | exact (Below.refl _ _).alloc (Nat.le_refl _) _ | (refine thn ?_ (by assumption)) | (refine alB ?_ _) | (refine dwN ?_ _) | (refine Below.drew ?_))))) (by simp;omega)).mono ?_;rintro e w' ⟨rfl,hb⟩;obtain ⟨hc,hf⟩:=bcell hb;have hz:w.heap.size<w'.heap.size:=(by have:=hb.size;(try simp at this);omega);have hz2:w.heap.size+1<w'.heap.size:=(by have:=hb.size;(try simp at this);omega))
  | (go_at_call 49;refine (sameGr_any p q s t B _ (H1.out.to hB (by (repeat (first | assumption | exact Below.refl _ _ | exact (Below.refl _ _).alloc (Nat.le_refl _) _ | (refine thn ?_ (by assumption)) | (refine alB ?_ _) | (refine dwN ?_ _) | (refine Below.drew ?_))))) (H2.out.to hB (by (repeat (first | assumption | exact Below.refl _ _ | exact (Below.refl _ _).alloc (Nat.le_refl _) _ | (refine thn ?_ (by assumption)) | (refine alB ?_ _) | (refine dwN ?_ _) | (refine Below.drew ?_))))) (by omega)).mono ?_;rintro e w' ⟨rfl,hb⟩;obtain ⟨hc,hf⟩:=bcell hb;have hz:w.heap.size<w'.heap.size:=(by have:=hb.size;(try simp at this);omega);have hz2:w.heap.size+1<w'.heap.size:=(by have:=hb.size;(try simp at this);omega))
  | (go_at_call 50;refine (eqSubs_any _ _ _ _ _ _ p.subs q.subs B _ (H1.out.subs.to hB (by (repeat (first | assumption | exact Below.refl _ _ | exact (Below.refl _ _).alloc (Nat.le_refl _) _ | (refine thn ?_ (by assumption)) | (refine alB ?_ _) | (refine dwN ?_ _) | (refine Below.drew ?_))))) (H2.out.subs.to hB (by (repeat (first | assumption | exact Below.refl _ _ | exact (Below.refl _ _).alloc (Nat.le_refl _) _ | (refine thn ?_ (by assumption)) | (refine alB ?_ _) | (refine dwN ?_ _) | (refine Below.drew ?_))))) rfl rfl (by omega) hl).mono ?_;rintro e w' ⟨rfl,hb⟩;obtain ⟨hc,hf⟩:=bcell hb;have hz:w.heap.size<w'.heap.size:=(by have:=hb.size;(try simp at this);omega);have hz2:w.heap.size+1<w'.heap.size:=(by have:=hb.size;(try simp at this);omega))
  | (go_at_call 51;refine (eqInts_any _ _ _ _ _ _ p.codes q.codes B _ (H1.out.codes.to hB (by (repeat (first | assumption | exact Below.refl _ _ | exact (Below.refl _ _).alloc (Nat.le_refl _) _ | (refine thn ?_ (by assumption)) | (refine alB ?_ _) | (refine dwN ?_ _) | (refine Below.drew ?_))))) (H2.out.codes.to hB (by (repeat (first | assumption | exact Below.refl _ _ | exact (Below.refl _ _).alloc (Nat.le_refl _) _ | (refine thn ?_ (by assumption)) | (refine alB ?_ _) | (refine dwN ?_ _) | (refine Below.drew ?_))))) rfl rfl (by omega) hl2).mono ?_;rintro e w' ⟨rfl,hb⟩;obtain ⟨hc,hf⟩:=bcell hb;have hz:w.heap.size<w'.heap.size:=(by have:=hb.size;(try simp at this);omega);have hz2:w.heap.size+1<w'.heap.size:=(by have:=hb.size;(try simp at this);omega)))
 all_goals (go_ret;exact ⟨ret_bool (by unfold samePk;simp [*]),by (repeat (first | assumption | exact Below.refl _ _ | exact (Below.refl _ _).alloc (Nat.le_refl _) _ | (refine thn ?_ (by assumption)) | (refine alB ?_ _) | (refine dwN ?_ _) | (refine Below.drew ?_)))⟩)
end Go.Proofs.Ytnhpacaoobpkhaa
