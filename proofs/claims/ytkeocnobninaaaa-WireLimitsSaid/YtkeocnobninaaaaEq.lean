/- slices.Equal over filters and over numbers. -/
import Derived.Test.YtkeocnobninaaaaSame
namespace Go.Proofs.Ytkeocnobninaaaa
open Go.RowKit Go.Lib

def eqSubs (a b : List (ByteArray × Int)) : Bool := decide (a = b)
def eqInts (a b : List Int) : Bool := decide (a = b)

theorem eq_take {α : Type} [DecidableEq α] (a b : List α) (k : Nat) (h1 : k < a.length) (h2 : k < b.length) (h : a.take k = b.take k) (hk : a[k] = b[k]) : a.take (k + 1) = b.take (k + 1) := by
  rw [List.take_succ_eq_append_getElem h1, List.take_succ_eq_append_getElem h2, h, hk]
theorem ne_at {α : Type} (a b : List α) (k : Nat) (h1 : k < a.length) (h2 : k < b.length) (hk : ¬ a[k] = b[k]) : ¬ a = b := by
  intro e; subst e; exact hk rfl

set_option maxRecDepth 100000 in
set_option maxHeartbeats 2000000 in
theorem eqInts_any (A A' : Option Addr) (n n' c c' : Nat) (l l' : List Int) (B : Nat) (w : World) (hv : IntsAt w B (.slice A n c) l) (hv' : IntsAt w B (.slice A' n' c') l') (hn : n = l.length) (hn' : n' = l'.length) (hB : B ≤ w.heap.size) (hl : l.length ≤ 1000000) :
    Calls Try.prog 51 #[.slice A n c, .slice A' n' c'] w fun e w' => e = .returned (.bool (eqInts l l')) ∧ Below w.heap.size w w' := by
  subst hn; subst hn'
  by_cases hne : l.length = l'.length
  · have hneb : ((l.length : Int) != (l'.length : Int)) = false := by rw [hne]; simp
    have HN := Lib.hid hne
    clear hne
    go_enter Try.func51, Try.ntmps51
    go_wp2
    go_loopw [13] (fun i w' => ∃ k : Nat, k ≤ l.length ∧ i = .int .i64 k ∧ Below w.heap.size w w' ∧ Hid (l.take k = l'.take k)) (fun i _ => l.length - (intOf i).toNat)
    case atStart => exact ⟨0, Nat.zero_le _, rfl, Below.refl _ _, Lib.hid (by simp)⟩
    case round =>
      obtain ⟨k, hk, rfl, hb, hal⟩ := hrel
      by_cases hlt : k < l.length
      · have hlt' : k < l'.length := by have := HN.out; omega
        obtain ⟨ad, rfl, hkc, c1⟩ := (hv.to hB hb).at_ k hlt
        obtain ⟨ad', rfl, hkc', c1'⟩ := (hv'.to hB hb).at_ k hlt'
        have hst := Lib.hid (eq_take l l' k hlt hlt' hal.out)
        have hfl := Lib.hid (ne_at l l' k hlt hlt')
        generalize l[k] = x at *
        generalize l'[k] = y at *
        clear hv hv'
        by_cases hx : x = y
        · subst hx
          go_wp2_with fail
          go_quiet (fail)
          go_wp2_with fail
          go_roundw
          case rel => exact ⟨k + 1, hlt, by go_num, by (repeat (first | assumption | exact Below.refl _ _ | exact (Below.refl _ _).alloc (Nat.le_refl _) _ | (refine thn ?_ (by assumption)) | (refine alB ?_ _) | (refine dwN ?_ _) | (refine Below.drew ?_))), Lib.hid (by simpa using hst.out)⟩
          case measure => simp [intOf]; omega
        · have hxb : (x != y) = true := by simp [hx]
          go_wp2_with fail
          go_quiet (fail)
          go_wp2_with fail
          go_ret
          exact ⟨ret_bool (by unfold eqInts; symm; rw [decide_eq_false_iff_not]; exact hfl.out hx), by (repeat (first | assumption | exact Below.refl _ _ | exact (Below.refl _ _).alloc (Nat.le_refl _) _ | (refine thn ?_ (by assumption)) | (refine alB ?_ _) | (refine dwN ?_ _) | (refine Below.drew ?_)))⟩
      · go_wp2
        go_ret
        exact ⟨ret_bool (by have e := hal.out; rw [List.take_of_length_le (by omega), List.take_of_length_le (by have := HN.out; omega)] at e; unfold eqInts; simp [e]), by (repeat (first | assumption | exact Below.refl _ _ | exact (Below.refl _ _).alloc (Nat.le_refl _) _ | (refine thn ?_ (by assumption)) | (refine alB ?_ _) | (refine dwN ?_ _) | (refine Below.drew ?_)))⟩
  · have hneb : ((l.length : Int) != (l'.length : Int)) = true := by simp; omega
    have HN := Lib.hid hne
    clear hne
    go_enter Try.func51, Try.ntmps51
    go_wp2
    go_ret
    exact ⟨ret_bool (by unfold eqInts; symm; rw [decide_eq_false_iff_not]; intro e; exact HN.out (by rw [e])), by (repeat (first | assumption | exact Below.refl _ _ | exact (Below.refl _ _).alloc (Nat.le_refl _) _ | (refine thn ?_ (by assumption)) | (refine alB ?_ _) | (refine dwN ?_ _) | (refine Below.drew ?_)))⟩

theorem eq_take2 (a b : List (ByteArray × Int)) (k : Nat) (h1 : k < a.length) (h2 : k < b.length) (h : a.take k = b.take k) (hk : a[k].1 = b[k].1) (hk2 : a[k].2 = b[k].2) : a.take (k + 1) = b.take (k + 1) :=
  eq_take a b k h1 h2 h (Prod.ext hk hk2)
theorem ne_at2 (a b : List (ByteArray × Int)) (k : Nat) (h1 : k < a.length) (h2 : k < b.length) (hk : ¬ (a[k].1 = b[k].1 ∧ a[k].2 = b[k].2)) : ¬ a = b := by
  intro e; subst e; exact hk ⟨rfl, rfl⟩

set_option maxRecDepth 100000 in
set_option maxHeartbeats 2000000 in
theorem eqSubs_any (A A' : Option Addr) (n n' c c' : Nat) (l l' : List (ByteArray × Int)) (B : Nat) (w : World) (hv : SubsAt w B (.slice A n c) l) (hv' : SubsAt w B (.slice A' n' c') l') (hn : n = l.length) (hn' : n' = l'.length) (hB : B ≤ w.heap.size) (hl : l.length ≤ 1000000) :
    Calls Try.prog 50 #[.slice A n c, .slice A' n' c'] w fun e w' => e = .returned (.bool (eqSubs l l')) ∧ Below w.heap.size w w' := by
  subst hn; subst hn'
  by_cases hne : l.length = l'.length
  · have hneb : ((l.length : Int) != (l'.length : Int)) = false := by rw [hne]; simp
    have HN := Lib.hid hne
    clear hne
    go_enter Try.func50, Try.ntmps50
    go_wp2
    go_loopw [13] (fun i w' => ∃ k : Nat, k ≤ l.length ∧ i = .int .i64 k ∧ Below w.heap.size w w' ∧ Hid (l.take k = l'.take k)) (fun i _ => l.length - (intOf i).toNat)
    case atStart => exact ⟨0, Nat.zero_le _, rfl, Below.refl _ _, Lib.hid (by simp)⟩
    case round =>
      obtain ⟨k, hk, rfl, hb, hal⟩ := hrel
      by_cases hlt : k < l.length
      · have hlt' : k < l'.length := by have := HN.out; omega
        obtain ⟨ad, rfl, hkc, c1, c2⟩ := (hv.to hB hb).at_ k hlt
        obtain ⟨ad', rfl, hkc', c1', c2'⟩ := (hv'.to hB hb).at_ k hlt'
        have hst := Lib.hid (eq_take2 l l' k hlt hlt' hal.out)
        have hfl := Lib.hid (ne_at2 l l' k hlt hlt')
        generalize l[k].1 = x at *
        generalize l[k].2 = x2 at *
        generalize l'[k].1 = y at *
        generalize l'[k].2 = y2 at *
        clear hv hv'
        by_cases hx : x = y ∧ x2 = y2
        · obtain ⟨rfl, rfl⟩ := hx
          go_wp2_with fail
          go_quiet (fail)
          go_wp2_with fail
          go_roundw
          case rel => exact ⟨k + 1, hlt, by go_num, by (repeat (first | assumption | exact Below.refl _ _ | exact (Below.refl _ _).alloc (Nat.le_refl _) _ | (refine thn ?_ (by assumption)) | (refine alB ?_ _) | (refine dwN ?_ _) | (refine Below.drew ?_))), Lib.hid (by simpa using hst.out)⟩
          case measure => simp [intOf]; omega
        · have H := Lib.hid hx
          by_cases hx1 : x = y
          · subst hx1
            have hx2 : (x2 == y2) = false := beq_eq_false_iff_ne.2 fun e => hx ⟨rfl, e⟩
            clear hx
            go_wp2_with fail
            go_quiet (fail)
            go_wp2_with fail
            go_ret
            exact ⟨ret_bool (by unfold eqSubs; symm; rw [decide_eq_false_iff_not]; exact hfl.out H.out), by (repeat (first | assumption | exact Below.refl _ _ | exact (Below.refl _ _).alloc (Nat.le_refl _) _ | (refine thn ?_ (by assumption)) | (refine alB ?_ _) | (refine dwN ?_ _) | (refine Below.drew ?_)))⟩
          · have hx2 : (x.toList == y.toList) = false := Bool.eq_false_iff.2 fun e => hx1 (eqS_iff.1 e)
            clear hx
            have HX1 := Lib.hid hx1
            clear hx1
            go_wp2_with fail
            go_quiet (fail)
            go_wp2_with fail
            go_ret
            exact ⟨ret_bool (by unfold eqSubs; symm; rw [decide_eq_false_iff_not]; exact hfl.out H.out), by (repeat (first | assumption | exact Below.refl _ _ | exact (Below.refl _ _).alloc (Nat.le_refl _) _ | (refine thn ?_ (by assumption)) | (refine alB ?_ _) | (refine dwN ?_ _) | (refine Below.drew ?_)))⟩
      · go_wp2
        go_ret
        exact ⟨ret_bool (by have e := hal.out; rw [List.take_of_length_le (by omega), List.take_of_length_le (by have := HN.out; omega)] at e; unfold eqSubs; simp [e]), by (repeat (first | assumption | exact Below.refl _ _ | exact (Below.refl _ _).alloc (Nat.le_refl _) _ | (refine thn ?_ (by assumption)) | (refine alB ?_ _) | (refine dwN ?_ _) | (refine Below.drew ?_)))⟩
  · have hneb : ((l.length : Int) != (l'.length : Int)) = true := by simp; omega
    have HN := Lib.hid hne
    clear hne
    go_enter Try.func50, Try.ntmps50
    go_wp2
    go_ret
    exact ⟨ret_bool (by unfold eqSubs; symm; rw [decide_eq_false_iff_not]; intro e; exact HN.out (by rw [e])), by (repeat (first | assumption | exact Below.refl _ _ | exact (Below.refl _ _).alloc (Nat.le_refl _) _ | (refine thn ?_ (by assumption)) | (refine alB ?_ _) | (refine dwN ?_ _) | (refine Below.drew ?_)))⟩

end Go.Proofs.Ytkeocnobninaaaa
