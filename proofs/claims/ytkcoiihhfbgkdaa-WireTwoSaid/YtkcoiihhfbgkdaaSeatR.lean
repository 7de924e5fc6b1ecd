/- The help's plain packets and messages are right. -/
import Derived.Test.YtkcoiihhfbgkdaaSeatCb
namespace Go.Proofs.Ytkcoiihhfbgkdaa
open Go.RowKit Go.Lib

theorem i64_small {n : Int} (h0 : 0 ≤ n) (h1 : n ≤ 1000) : i64In n := by unfold i64In; omega
theorem right_of {p : Pk} (h1 : p = wrP p) (h2 : lenP p ≤ 8192) (h3 : fitsP p = true) : rightP p = true := by
  unfold rightP
  rw [decide_eq_true h1, decide_eq_true h2, h3]
  rfl
theorem splain_right (k i : Int) (h : ((k = 4 ∨ k = 5 ∨ k = 6 ∨ k = 7) ∧ 1 ≤ i ∧ i ≤ 65535) ∨ ((k = 12 ∨ k = 14) ∧ i = 0)) : rightP { pk0 with kind := k, id := i } = true := by
  rcases h with ⟨hk, h1, h2⟩ | ⟨hk, rfl⟩
  · have hi : inI i 1 65535 = true := inI_of h1 h2
    rcases hk with rfl | rfl | rfl | rfl
    all_goals exact right_of rfl (by show (2 : Int) ≤ 8192; decide) hi
  · rcases hk with rfl | rfl <;> decide +kernel
theorem pub_right (d r : Bool) (q i : Int) (t : ByteArray) (l : List UInt8) (ht : Tx4 t) (hl : l.length ≤ 60) (h : (q = 0 ∧ i = 0 ∧ d = false) ∨ (0 < q ∧ q ≤ 2 ∧ 1 ≤ i ∧ i ≤ 65535)) : rightP { pk0 with kind := 3, dup := d, ret := r, qos := q, id := i, top := t, pay := l } = true := by
  obtain ⟨h1, t1⟩ := ht
  have e2 : lenP { pk0 with kind := 3, dup := d, ret := r, qos := q, id := i, top := t, pay := l } ≤ 8192 := by
    show (2 + (t.size : Int) + l.length + (if q == 0 then 0 else 2)) ≤ 8192
    split <;> omega
  rcases h with ⟨rfl, rfl, rfl⟩ | ⟨hq, hq2, hi1, hi2⟩
  · refine right_of rfl e2 ?_
    show pfitsP _ = true
    unfold pfitsP
    show (txt t && inI 0 0 2 && (if (0 : Int) == 0 then !false else inI 0 1 65535)) = true
    rw [t1]; rfl
  · have hq0 : (q == 0) = false := beq_eq_false_iff_ne.2 (by omega)
    have e1 : ({ pk0 with kind := 3, dup := d, ret := r, qos := q, id := i, top := t, pay := l } : Pk) = wrP { pk0 with kind := 3, dup := d, ret := r, qos := q, id := i, top := t, pay := l } := by
      show _ = { pk0 with kind := 3, dup := d, qos := q, ret := r, top := t, pay := l, id := if q == 0 then 0 else i }
      rw [hq0]; rfl
    refine right_of e1 e2 ?_
    show pfitsP _ = true
    unfold pfitsP
    show (txt t && inI q 0 2 && (if q == 0 then !d else inI i 1 65535)) = true
    rw [t1, hq0, inI_of (show 0 ≤ q by omega) hq2]
    exact inI_of hi1 hi2
theorem pub0_right (r : Bool) (t : ByteArray) (l : List UInt8) (ht : Tx4 t) (hl : l.length ≤ 60) : rightP { pk0 with kind := 3, dup := false, ret := r, qos := 0, id := 0, top := t, pay := l } = true :=
  pub_right false r 0 0 t l ht hl (.inl ⟨rfl, rfl, rfl⟩)
end Go.Proofs.Ytkcoiihhfbgkdaa
