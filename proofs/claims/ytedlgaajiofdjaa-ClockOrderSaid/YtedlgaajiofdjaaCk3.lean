/- Which stamp is less: the program's and the document's. -/
import Derived.Test.YtedlgaajiofdjaaCk2
namespace Go.Proofs.Ytedlgaajiofdjaa
open Go.RowKit Go.Lib

def lessB (al ac an bl bc bn : Int) : Bool :=
  if heldI al = heldI bl then (if heldI ac = heldI bc then decide (an < bn) else decide (heldI ac < heldI bc)) else decide (heldI al < heldI bl)
set_option maxHeartbeats 1000000 in
theorem less_any (al ac an bl bc bn : Int) (w : World) :
    Calls Try.prog 15 #[.agg #[.int .i64 al, .int .i64 ac, .int .i64 an], .agg #[.int .i64 bl, .int .i64 bc, .int .i64 bn]] w fun e w' => e = .returned (.bool (lessB al ac an bl bc bn)) ∧ Below w.heap.size w w' := by
  have key : ∀ x y u v : Int, ((x == y) = true ∧ (u == v) = true ∧ (if x = y then (if u = v then decide (an < bn) else decide (u < v)) else decide (x < y)) = decide (an < bn)) ∨ ((x == y) = true ∧ (u == v) = false ∧ (if x = y then (if u = v then decide (an < bn) else decide (u < v)) else decide (x < y)) = decide (u < v)) ∨ ((x == y) = false ∧ (if x = y then (if u = v then decide (an < bn) else decide (u < v)) else decide (x < y)) = decide (x < y)) := by
    intro x y u v
    by_cases h : x = y
    · subst h
      by_cases k : u = v
      · subst k; simp
      · simp [k]
    · simp [h]
  unfold lessB
  rcases key (heldI al) (heldI bl) (heldI ac) (heldI bc) with ⟨h1, h2, h3⟩ | ⟨h1, h2, h3⟩ | ⟨h1, h3⟩ <;> rw [h3] <;> clear h3 key
  all_goals
    have hA : ClkAt ((w.alloc (.cells #[.int .i64 al, .int .i64 ac, .int .i64 an] 28)).alloc (.cells #[.int .i64 bl, .int .i64 bc, .int .i64 bn] 28)).drew 28 w.heap.size al ac an := row_keep (ClkAt.new w _ _ _ _) _
    have hB : ClkAt ((w.alloc (.cells #[.int .i64 al, .int .i64 ac, .int .i64 an] 28)).alloc (.cells #[.int .i64 bl, .int .i64 bc, .int .i64 bn] 28)).drew 28 (w.heap.size + 1) bl bc bn := by
      have h := ClkAt.new (w.alloc (.cells #[.int .i64 al, .int .i64 ac, .int .i64 an] 28)) 28 bl bc bn
      rw [World.size_alloc] at h
      exact h
    have hS := Lib.hid (show Below w.heap.size w ((w.alloc (.cells #[.int .i64 al, .int .i64 ac, .int .i64 an] 28)).alloc (.cells #[.int .i64 bl, .int .i64 bc, .int .i64 bn] 28)).drew from alB (alB (Below.refl _ _) _) _ |>.drew)
    go_enter Try.func15, Try.ntmps15
    go_wp2_with fail
    go_region_with (go_at_call 17; refine (bound_any _ _ _ _).mono ?_; rintro e w' ⟨rfl, hb⟩; have hA := ClkAt.on hA hb; have hB := ClkAt.on hB hb; obtain ⟨p0, p1, p2⟩ := hA.cells; obtain ⟨q0, q1, q2⟩ := hB.cells; obtain ⟨f0, f1⟩ := hA.frz; have f2 := frozen_row hA 2; obtain ⟨g0, g1⟩ := hB.frz; have g2 := frozen_row hB 2; have hS := Lib.hid (thn hS.out hb); clear hb)
    all_goals
      go_wp2
      go_ret
      refine ⟨rfl, ?_⟩
      repeat (refine Below.setCell ?_ (by simp) _)
      exact hS.out
end Go.Proofs.Ytedlgaajiofdjaa
