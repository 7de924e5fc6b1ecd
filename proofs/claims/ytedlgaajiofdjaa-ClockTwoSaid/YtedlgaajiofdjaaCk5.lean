/- The document's order of stamps, its clock's Now. -/
import Derived.Test.YtedlgaajiofdjaaCk3
import Derived.Test.YtedlgaajiofdjaaCk4
namespace Go.Proofs.Ytedlgaajiofdjaa
open Go.RowKit Go.Lib

theorem dwN {B : Nat} {a w : World} (h : Below B a w) (n : Nat) : Below B a (w.drewN n) := ⟨h.os, h.tape, h.output, h.size, h.block⟩
theorem heldw_any (v : Int) (w : World) : Calls Try.prog 20 #[.int .i64 v] w fun e w' => e = .returned (.int .i64 (heldI v)) ∧ w' = w := (held_any v w).mono fun _ _ ⟨a, b⟩ => ⟨a, b.symm⟩
set_option maxHeartbeats 1000000 in
theorem rless_any (al ac an bl bc bn : Int) (w : World) :
    Calls Try.prog 16 #[.agg #[.int .i64 al, .int .i64 ac, .int .i64 an], .agg #[.int .i64 bl, .int .i64 bc, .int .i64 bn]] w fun e w' => e = .returned (.bool (lessB al ac an bl bc bn)) ∧ Below w.heap.size w w' := by
  have key : ∀ x y u v : Int, ((x == y) = true ∧ (u == v) = true ∧ (if x = y then (if u = v then decide (an < bn) else decide (u < v)) else decide (x < y)) = decide (an < bn)) ∨ ((x == y) = true ∧ (u == v) = false ∧ (if x = y then (if u = v then decide (an < bn) else decide (u < v)) else decide (x < y)) = decide (u < v)) ∨ ((x == y) = false ∧ (if x = y then (if u = v then decide (an < bn) else decide (u < v)) else decide (x < y)) = decide (x < y)) := by
    intro x y u v
    by_cases h : x = y
    · subst h
      by_cases k : u = v
      · subst k; simp
      · simp [k]
    · simp [h]
  unfold lessB
  have hA : ClkAt ((w.alloc (.cells #[.int .i64 al, .int .i64 ac, .int .i64 an] 28)).alloc (.cells #[.int .i64 bl, .int .i64 bc, .int .i64 bn] 28)) 28 w.heap.size al ac an := row_keep (ClkAt.new w _ _ _ _) _
  have hB : ClkAt ((w.alloc (.cells #[.int .i64 al, .int .i64 ac, .int .i64 an] 28)).alloc (.cells #[.int .i64 bl, .int .i64 bc, .int .i64 bn] 28)) 28 (w.heap.size + 1) bl bc bn := by
    have h := ClkAt.new (w.alloc (.cells #[.int .i64 al, .int .i64 ac, .int .i64 an] 28)) 28 bl bc bn
    rw [World.size_alloc] at h
    exact h
  have hS := Lib.hid (show Below w.heap.size w ((w.alloc (.cells #[.int .i64 al, .int .i64 ac, .int .i64 an] 28)).alloc (.cells #[.int .i64 bl, .int .i64 bc, .int .i64 bn] 28)) from alB (alB (Below.refl _ _) _) _)
  rcases key (heldI al) (heldI bl) (heldI ac) (heldI bc) with ⟨h1, h2, h3⟩ | ⟨h1, h2, h3⟩ | ⟨h1, h3⟩ <;> rw [h3] <;> clear h3 key
  · go_enter Try.func16, Try.ntmps16
    go_wp2_with fail
    generalize ((w.alloc (.cells #[.int .i64 al, .int .i64 ac, .int .i64 an] 28)).alloc (.cells #[.int .i64 bl, .int .i64 bc, .int .i64 bn] 28)) = W1 at *
    obtain ⟨p0, p1, p2⟩ := hA.cells
    obtain ⟨q0, q1, q2⟩ := hB.cells
    go_quiet ((go_at_call 20; exact Calls.quiet_of_same (heldw_any _ _)))
    have hA2 : ClkAt (W1.drewN nq) 28 w.heap.size al ac an := hA
    have hB2 : ClkAt (W1.drewN nq) 28 (w.heap.size + 1) bl bc bn := hB
    have hS2 := Lib.hid (dwN hS.out nq)
    clear p0 p1 p2 q0 q1 q2 hA hB hS
    generalize W1.drewN nq = W2 at *
    obtain ⟨p0, p1, p2⟩ := hA2.cells
    obtain ⟨q0, q1, q2⟩ := hB2.cells
    go_wp2_with fail
    go_quiet ((go_at_call 20; exact Calls.quiet_of_same (heldw_any _ _)))
    go_wp2_with fail
    go_ret
    exact ⟨rfl, dwN hS2.out _⟩
  · go_enter Try.func16, Try.ntmps16
    go_wp2_with fail
    generalize ((w.alloc (.cells #[.int .i64 al, .int .i64 ac, .int .i64 an] 28)).alloc (.cells #[.int .i64 bl, .int .i64 bc, .int .i64 bn] 28)) = W1 at *
    obtain ⟨p0, p1, p2⟩ := hA.cells
    obtain ⟨q0, q1, q2⟩ := hB.cells
    go_quiet ((go_at_call 20; exact Calls.quiet_of_same (heldw_any _ _)))
    have hA2 : ClkAt (W1.drewN nq) 28 w.heap.size al ac an := hA
    have hB2 : ClkAt (W1.drewN nq) 28 (w.heap.size + 1) bl bc bn := hB
    have hS2 := Lib.hid (dwN hS.out nq)
    clear p0 p1 p2 q0 q1 q2 hA hB hS
    generalize W1.drewN nq = W2 at *
    obtain ⟨p0, p1, p2⟩ := hA2.cells
    obtain ⟨q0, q1, q2⟩ := hB2.cells
    go_wp2_with fail
    go_quiet ((go_at_call 20; exact Calls.quiet_of_same (heldw_any _ _)))
    go_wp2_with fail
    go_ret
    exact ⟨rfl, dwN hS2.out _⟩
  · go_enter Try.func16, Try.ntmps16
    go_wp2_with fail
    generalize ((w.alloc (.cells #[.int .i64 al, .int .i64 ac, .int .i64 an] 28)).alloc (.cells #[.int .i64 bl, .int .i64 bc, .int .i64 bn] 28)) = W1 at *
    obtain ⟨p0, p1, p2⟩ := hA.cells
    obtain ⟨q0, q1, q2⟩ := hB.cells
    go_quiet ((go_at_call 20; exact Calls.quiet_of_same (heldw_any _ _)))
    go_wp2_with fail
    go_ret
    exact ⟨rfl, dwN hS.out _⟩
end Go.Proofs.Ytedlgaajiofdjaa
