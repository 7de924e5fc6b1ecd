/- The chapter's example. -/
import Derived.Test.YtedlgaajiofdjaaCk7
namespace Go.Proofs.Ytedlgaajiofdjaa
open Go.RowKit Go.Lib

theorem now5a (b : Nat) (w : World) (h : ClkAt w 48 b 0 0 3) :
    Calls Try.prog 12 #[.pointer (some ⟨b, 0, none⟩), .int .i64 5] w fun e w' => e = .returned (.agg #[.int .i64 5, .int .i64 0, .int .i64 3]) ∧ RdTo b w w' ∧ ClkAt w' 48 b 5 0 3 := by
  have k := now_any b 5 0 0 3 w h (by unfold In; omega)
  rw [show nowL 5 0 0 = 5 by decide, show nowC 5 0 0 = 0 by decide] at k
  exact k
theorem now5b (b : Nat) (w : World) (h : ClkAt w 48 b 5 0 3) :
    Calls Try.prog 12 #[.pointer (some ⟨b, 0, none⟩), .int .i64 5] w fun e w' => e = .returned (.agg #[.int .i64 5, .int .i64 1, .int .i64 3]) ∧ RdTo b w w' ∧ ClkAt w' 48 b 5 1 3 := by
  have k := now_any b 5 5 0 3 w h (by unfold In; omega)
  rw [show nowL 5 5 0 = 5 by decide, show nowC 5 5 0 = 1 by decide] at k
  exact k
theorem less_ab (w : World) : Calls Try.prog 15 #[.agg #[.int .i64 5, .int .i64 0, .int .i64 3], .agg #[.int .i64 5, .int .i64 1, .int .i64 3]] w fun e w' => e = .returned (.bool true) ∧ Below w.heap.size w w' := by
  have k := less_any 5 0 3 5 1 3 w
  rw [show lessB 5 0 3 5 1 3 = true by decide] at k
  exact k
theorem less_bb (w : World) : Calls Try.prog 15 #[.agg #[.int .i64 5, .int .i64 1, .int .i64 3], .agg #[.int .i64 5, .int .i64 1, .int .i64 3]] w fun e w' => e = .returned (.bool false) ∧ Below w.heap.size w w' := by
  have k := less_any 5 1 3 5 1 3 w
  rw [show lessB 5 1 3 5 1 3 = false by decide] at k
  exact k
set_option maxHeartbeats 2000000 in
theorem known_any (w : World) : Calls Try.prog 8 #[] w fun e w' => e = .returned (.bool true) ∧ Below w.heap.size w w' := by
  go_enter Try.func8, Try.ntmps8
  go_wp2_with fail
  refine (new_any 3 w).mono ?_
  rintro e w1 ⟨rfl, hb, hs, hk⟩
  have B1 := Lib.hid hb
  have K1 := Lib.hid hk
  clear hb hk
  go_wp2_with fail
  refine (now5a w.heap.size w1 K1.out).mono ?_
  rintro e w2 ⟨rfl, ht, hk⟩
  have T2 := Lib.hid ht
  have K2 := Lib.hid hk
  clear ht hk
  go_wp2_with fail
  refine (now5b w.heap.size w2 K2.out).mono ?_
  rintro e w3 ⟨rfl, ht, hk⟩
  have B3 : Hid (Below w.heap.size w w3) := Lib.hid (B1.out.trans (T2.out.trans ht).below)
  have K3 := Lib.hid hk
  clear ht hk
  go_wp2_with fail
  have hA : ClkAt ((w3.alloc (.cells #[.int .i64 5, .int .i64 0, .int .i64 3] 28)).alloc (.cells #[.int .i64 5, .int .i64 1, .int .i64 3] 28)) 28 w3.heap.size 5 0 3 := row_keep (ClkAt.new w3 _ _ _ _) _
  have hB : ClkAt ((w3.alloc (.cells #[.int .i64 5, .int .i64 0, .int .i64 3] 28)).alloc (.cells #[.int .i64 5, .int .i64 1, .int .i64 3] 28)) 28 (w3.heap.size + 1) 5 1 3 := by
    have h := ClkAt.new (w3.alloc (.cells #[.int .i64 5, .int .i64 0, .int .i64 3] 28)) 28 5 1 3
    rw [World.size_alloc] at h
    exact h
  have hC : ClkAt ((w3.alloc (.cells #[.int .i64 5, .int .i64 0, .int .i64 3] 28)).alloc (.cells #[.int .i64 5, .int .i64 1, .int .i64 3] 28)) 48 w.heap.size 5 1 3 := row_keep (row_keep K3.out _) _
  have hS := Lib.hid (show Below w.heap.size w ((w3.alloc (.cells #[.int .i64 5, .int .i64 0, .int .i64 3] 28)).alloc (.cells #[.int .i64 5, .int .i64 1, .int .i64 3] 28)) from alB (alB B3.out _) _)
  clear K3 B3
  generalize ((w3.alloc (.cells #[.int .i64 5, .int .i64 0, .int .i64 3] 28)).alloc (.cells #[.int .i64 5, .int .i64 1, .int .i64 3] 28)) = V at *
  generalize w3.heap.size = g at *
  have hA : ClkAt V.drew 28 g 5 0 3 := hA
  have hB : ClkAt V.drew 28 (g + 1) 5 1 3 := hB
  have hC : ClkAt V.drew 48 w.heap.size 5 1 3 := hC
  have hS := Lib.hid hS.out.drew
  obtain ⟨p0, p1, p2⟩ : V.cell? ⟨g, 0, none⟩ = some (.int .i64 5) ∧ V.cell? ⟨g, 1, none⟩ = some (.int .i64 0) ∧ V.cell? ⟨g, 2, none⟩ = some (.int .i64 3) := hA.cells
  obtain ⟨q0, q1, q2⟩ : V.cell? ⟨g + 1, 0, none⟩ = some (.int .i64 5) ∧ V.cell? ⟨g + 1, 1, none⟩ = some (.int .i64 1) ∧ V.cell? ⟨g + 1, 2, none⟩ = some (.int .i64 3) := hB.cells
  go_region_with (first | (go_at_call 15; (first | with_reducible refine (less_ab _).mono ?_ | with_reducible refine (less_bb _).mono ?_); rintro e w' ⟨rfl, hb⟩; have hA := ClkAt.on hA hb; have hB := ClkAt.on hB hb; have hC := ClkAt.on hC hb; obtain ⟨p0, p1, p2⟩ := hA.cells; obtain ⟨q0, q1, q2⟩ := hB.cells; have hS := Lib.hid (thn hS.out hb); clear hb) | (go_at_call 14; refine (last_any _ _ _ _ _ hC).mono ?_; rintro e w' ⟨rfl, hb⟩; have hA := ClkAt.on hA hb; have hB := ClkAt.on hB hb; have hC := ClkAt.on hC hb; obtain ⟨p0, p1, p2⟩ := hA.cells; obtain ⟨q0, q1, q2⟩ := hB.cells; have hS := Lib.hid (thn hS.out hb); clear hb))
  all_goals
    go_wp2
    go_ret
    exact ⟨rfl, hS.out⟩
end Go.Proofs.Ytedlgaajiofdjaa
