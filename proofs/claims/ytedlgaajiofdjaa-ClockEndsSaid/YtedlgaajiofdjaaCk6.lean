/- The document's clock: Now. -/
import Derived.Test.YtedlgaajiofdjaaCk4
namespace Go.Proofs.Ytedlgaajiofdjaa
open Go.RowKit Go.Lib

theorem rnow_any (b : Nat) (wall l c n : Int) (w : World) (h : ClkAt w 30 b l c n) (hi : In l c) :
    Calls Try.prog 13 #[.pointer (some ⟨b, 0, none⟩), .int .i64 wall] w fun e w' => e = .returned (.agg #[.int .i64 (nowL wall l c), .int .i64 (nowC wall l c), .int .i64 n]) ∧ RdTo b w w' ∧ ClkAt w' 30 b (nowL wall l c) (nowC wall l c) n := by
  obtain ⟨h1, h2, h3, h4⟩ := hi
  have hx := heldI_in wall
  have W := held_any wall
  have hlt := h.lt
  have ha := fun cs t => (row_keep h (.cells cs t) : ClkAt (w.alloc (.cells cs t)) 30 b l c n)
  obtain ⟨c0, c1, c2⟩ := h.cells
  obtain ⟨f0, f1⟩ := h.frz
  unfold nowL nowC
  generalize heldI wall = x at *
  have HA := Lib.hid ha
  clear ha
  have four : l < x ∨ (¬ l < x ∧ c < 4611686018427387904) ∨ (¬ l < x ∧ ¬ c < 4611686018427387904 ∧ l < 4611686018427387904) ∨ (¬ l < x ∧ ¬ c < 4611686018427387904 ∧ ¬ l < 4611686018427387904) := by omega
  rcases four with q | ⟨q, r⟩ | ⟨q, r, s⟩ | ⟨q, r, s⟩
  · simp only [if_pos q]
    go_enter Try.func13, Try.ntmps13
    go_wp2_with fail
    refine (W _).mono ?_
    rintro e w' ⟨rfl, rfl⟩
    go_wp2_with fail
    refine bodyPost_ret (v := .agg #[.int .i64 x, .int .i64 0, .int .i64 n]) (by simp [results, go_sem]) rfl ⟨rfl, (((RdTo.refl b w).set 0 _).set 1 _).alloc hlt _, row_keep (row_set (row_set h 0 _) 1 _) _⟩
  · simp only [if_neg q, if_pos r]
    go_enter Try.func13, Try.ntmps13
    go_wp2_with fail
    refine (W _).mono ?_
    rintro e w' ⟨rfl, rfl⟩
    go_wp2_with fail
    refine bodyPost_ret (v := .agg #[.int .i64 l, .int .i64 (c + 1), .int .i64 n]) (by simp [results, go_sem]) rfl ⟨rfl, ((RdTo.refl b w).set 1 _).alloc hlt _, row_keep (row_set h 1 _) _⟩
  · simp only [if_neg q, if_neg r, if_pos s]
    go_enter Try.func13, Try.ntmps13
    go_wp2_with fail
    refine (W _).mono ?_
    rintro e w' ⟨rfl, rfl⟩
    go_wp2_with fail
    refine bodyPost_ret (v := .agg #[.int .i64 (l + 1), .int .i64 0, .int .i64 n]) (by simp [results, go_sem]) rfl ⟨rfl, (((RdTo.refl b w).set 0 _).set 1 _).alloc hlt _, row_keep (row_set (row_set h 0 _) 1 _) _⟩
  · simp only [if_neg q, if_neg r, if_neg s]
    go_enter Try.func13, Try.ntmps13
    go_wp2_with fail
    refine (W _).mono ?_
    rintro e w' ⟨rfl, rfl⟩
    go_wp2_with fail
    refine bodyPost_ret (v := .agg #[.int .i64 l, .int .i64 c, .int .i64 n]) (by simp [results, go_sem]) rfl ⟨rfl, (RdTo.refl b w).alloc hlt _, HA.out _ _⟩
end Go.Proofs.Ytedlgaajiofdjaa
