/- When two packets are alike: wire.Same and what it calls. -/
import Derived.Test.YtkeocnobninaaaaFits
namespace Go.Proofs.Ytkeocnobninaaaa
open Go.RowKit Go.Lib

/-- Two texts alike, in the walk's own words. -/
def eqS (a b : ByteArray) : Bool := a.toList == b.toList
theorem eqS_iff {a b : ByteArray} : eqS a b = true ↔ a = b := by
  unfold eqS; rw [beq_iff_eq]
  constructor
  · intro h
    have : a.data.toList = b.data.toList := by rw [← ByteArray.toList_eq, ← ByteArray.toList_eq, h]
    cases a; cases b; congr; exact Array.toList_inj.1 this
  · intro h; rw [h]

set_option maxHeartbeats 400000 in
theorem beq_any (v1 v2 : Value) (l1 l2 : List UInt8) (B : Nat) (w : World) (h1 : BytesAt w B v1 l1) (h2 : BytesAt w B v2 l2) :
    Calls Try.prog 55 #[v1, v2] w fun e w' => e = .returned (.bool (l1 == l2)) ∧ w = w' := by
  have c1 := h1.conv
  have c2 := h2.conv
  clear h1 h2
  have E : ((⟨l1.toArray⟩ : ByteArray).toList == (⟨l2.toArray⟩ : ByteArray).toList) = (l1 == l2) := by
    rw [ByteArray.toList_eq, ByteArray.toList_eq]
  generalize (⟨l1.toArray⟩ : ByteArray) = s1 at *
  generalize (⟨l2.toArray⟩ : ByteArray) = s2 at *
  have E := Lib.hid E
  go_enter Try.func55, Try.ntmps55
  go_wp2
  all_goals (go_ret; exact ⟨ret_bool (by rw [← E.out]), rfl⟩)

def sameMsgP (p q : Pk) : Bool := p.dup == q.dup && p.ret == q.ret && p.qos == q.qos && eqS p.top q.top && p.pay == q.pay
def sameWillP (p q : Pk) : Bool := eqS p.wtop q.wtop && p.wpay == q.wpay && p.wqos == q.wqos && p.wret == q.wret
def sameGrP (p q : Pk) : Bool := p.level == q.level && eqS p.cli q.cli && p.clean == q.clean && p.keep == q.keep && p.hw == q.hw && sameWillP p q && p.hu == q.hu && p.hp == q.hp && eqS p.user q.user && p.pass == q.pass

set_option maxRecDepth 100000 in
set_option maxHeartbeats 2000000 in
theorem sameMsg_any (p q : Pk) (s t : Sv) (B : Nat) (w : World) (hp : PkAt w B p s) (hq : PkAt w B q t) (hB : B ≤ w.heap.size) :
    Calls Try.prog 48 #[pkV p s, pkV q t] w fun e w' => e = .returned (.bool (sameMsgP p q)) ∧ Below w.heap.size w w' := by
  have H1 := Lib.hid hp.pay
  have H2 := Lib.hid hq.pay
  clear hp hq
  go_enter Try.func48, Try.ntmps48
  go_wp2_with (go_at_call 55; refine (beq_any _ _ p.pay q.pay B _ (H1.out.to hB (by (repeat (first | assumption | exact Below.refl _ _ | exact (Below.refl _ _).alloc (Nat.le_refl _) _ | (refine thn ?_ (by assumption)) | (refine alB ?_ _) | (refine dwN ?_ _) | (refine Below.drew ?_))))) (H2.out.to hB (by (repeat (first | assumption | exact Below.refl _ _ | exact (Below.refl _ _).alloc (Nat.le_refl _) _ | (refine thn ?_ (by assumption)) | (refine alB ?_ _) | (refine dwN ?_ _) | (refine Below.drew ?_)))))).mono ?_; rintro e w' ⟨rfl, rfl⟩)
  all_goals (go_ret; exact ⟨ret_bool (by unfold sameMsgP eqS; simp [*]), by (repeat (first | assumption | exact Below.refl _ _ | exact (Below.refl _ _).alloc (Nat.le_refl _) _ | (refine thn ?_ (by assumption)) | (refine alB ?_ _) | (refine dwN ?_ _) | (refine Below.drew ?_)))⟩)
set_option maxRecDepth 100000 in
set_option maxHeartbeats 2000000 in
theorem sameWill_any (p q : Pk) (s t : Sv) (B : Nat) (w : World) (hp : PkAt w B p s) (hq : PkAt w B q t) (hB : B ≤ w.heap.size) :
    Calls Try.prog 81 #[wlV p s, wlV q t] w fun e w' => e = .returned (.bool (sameWillP p q)) ∧ Below w.heap.size w w' := by
  have H1 := Lib.hid hp.wpay
  have H2 := Lib.hid hq.wpay
  clear hp hq
  go_enter Try.func81, Try.ntmps81
  go_wp2_with (go_at_call 55; refine (beq_any _ _ p.wpay q.wpay B _ (H1.out.to hB (by (repeat (first | assumption | exact Below.refl _ _ | exact (Below.refl _ _).alloc (Nat.le_refl _) _ | (refine thn ?_ (by assumption)) | (refine alB ?_ _) | (refine dwN ?_ _) | (refine Below.drew ?_))))) (H2.out.to hB (by (repeat (first | assumption | exact Below.refl _ _ | exact (Below.refl _ _).alloc (Nat.le_refl _) _ | (refine thn ?_ (by assumption)) | (refine alB ?_ _) | (refine dwN ?_ _) | (refine Below.drew ?_)))))).mono ?_; rintro e w' ⟨rfl, rfl⟩)
  all_goals (go_ret; exact ⟨ret_bool (by unfold sameWillP eqS; simp [*]), by (repeat (first | assumption | exact Below.refl _ _ | exact (Below.refl _ _).alloc (Nat.le_refl _) _ | (refine thn ?_ (by assumption)) | (refine alB ?_ _) | (refine dwN ?_ _) | (refine Below.drew ?_)))⟩)


end Go.Proofs.Ytkeocnobninaaaa
