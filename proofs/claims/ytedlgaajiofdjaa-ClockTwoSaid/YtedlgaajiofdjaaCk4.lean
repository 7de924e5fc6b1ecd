/- What the clock's Now and See answer. -/
import Derived.Test.YtedlgaajiofdjaaCk2
import Derived.StillTailTactics
import Derived.IntWalk
namespace Go.Proofs.Ytedlgaajiofdjaa
open Go.RowKit Go.Lib

def nowL (wall l c : Int) : Int := if l < heldI wall then heldI wall else if c < 4611686018427387904 then l else if l < 4611686018427387904 then l + 1 else l
def nowC (wall l c : Int) : Int := if l < heldI wall then 0 else if c < 4611686018427387904 then c + 1 else if l < 4611686018427387904 then 0 else c
/-- A clock's numbers count as they are. -/
def In (l c : Int) : Prop := 0 ≤ l ∧ l ≤ 4611686018427387904 ∧ 0 ≤ c ∧ c ≤ 4611686018427387904
theorem now_in {wall l c : Int} (h : In l c) : In (nowL wall l c) (nowC wall l c) := by
  have := heldI_in wall
  obtain ⟨h1, h2, h3, h4⟩ := h
  unfold nowL nowC In
  generalize heldI wall = x at *
  by_cases q : l < x
  · simp only [if_pos q]; omega
  · by_cases r : c < 4611686018427387904
    · simp only [if_neg q, if_pos r]; omega
    · by_cases s : l < 4611686018427387904
      · simp only [if_neg q, if_neg r, if_pos s]; omega
      · simp only [if_neg q, if_neg r, if_neg s]; omega
theorem now_any (b : Nat) (wall l c n : Int) (w : World) (h : ClkAt w 48 b l c n) (hi : In l c) :
    Calls Try.prog 12 #[.pointer (some ⟨b, 0, none⟩), .int .i64 wall] w fun e w' => e = .returned (.agg #[.int .i64 (nowL wall l c), .int .i64 (nowC wall l c), .int .i64 n]) ∧ RdTo b w w' ∧ ClkAt w' 48 b (nowL wall l c) (nowC wall l c) n := by
  obtain ⟨h1, h2, h3, h4⟩ := hi
  have hx := heldI_in wall
  have W := within_any wall
  have hlt := h.lt
  have ha := fun cs t => (row_keep h (.cells cs t) : ClkAt (w.alloc (.cells cs t)) 48 b l c n)
  obtain ⟨c0, c1, c2⟩ := h.cells
  unfold nowL nowC
  generalize heldI wall = x at *
  have HA := Lib.hid ha
  clear ha
  have four : l < x ∨ (¬ l < x ∧ c < 4611686018427387904) ∨ (¬ l < x ∧ ¬ c < 4611686018427387904 ∧ l < 4611686018427387904) ∨ (¬ l < x ∧ ¬ c < 4611686018427387904 ∧ ¬ l < 4611686018427387904) := by omega
  rcases four with q | ⟨q, r⟩ | ⟨q, r, s⟩ | ⟨q, r, s⟩
  · simp only [if_pos q]
    go_enter Try.func12, Try.ntmps12
    go_wp2_with fail
    refine (W _).mono ?_
    rintro e w' ⟨rfl, rfl⟩
    go_wp2_with fail
    refine (set_any b l c n _ _ _ (HA.out _ _)).mono ?_
    rintro e w1 ⟨rfl, ht, hk⟩
    have hR := (ht.above w.heap.size hlt (by simp)).trans (ClkAt.new w 28 0 0 0)
    have d0 := cell_row hR 0
    have d1 := cell_row hR 1
    have d2 := cell_row hR 2
    have g0 := frozen_row hR 0
    have g1 := frozen_row hR 1
    have g2 := frozen_row hR 2
    obtain ⟨e0, e1, e2⟩ := hk.cells
    have hs := row_lt hR
    have H := Lib.hid hk
    have T := Lib.hid ht
    have R := Lib.hid hR
    clear hk ht hR
    go_wp2_with fail
    refine bodyPost_ret (v := .agg _) (results_cell_row (by rfl) _ _ w.heap.size 28 _ (0, 0) _ (by rfl) (row_set (row_set (row_set R.out 0 _) 1 _) 2 _) Try.underlying28 (by rfl) (by rfl)) (by rfl) ⟨rfl, ?_, ?_⟩
    · exact ((((RdTo.refl b w).alloc hlt _).trans T.out).new hlt _ 0 (Nat.le_refl _) _ |>.new hlt _ 1 (Nat.le_refl _) _).new hlt _ 2 (Nat.le_refl _) _
    · exact row_other (row_other (row_other H.out _ 0 _ (by omega)) _ 1 _ (by omega)) _ 2 _ (by omega)
  · simp only [if_neg q, if_pos r]
    have e1 : IntKind.i64.wrap (c + 1) = c + 1 := IntWalk.i64_in _ (by omega)
    go_enter Try.func12, Try.ntmps12
    go_wp2_with fail
    refine (W _).mono ?_
    rintro e w' ⟨rfl, rfl⟩
    go_wp2_with fail
    have hk0 := HA.out #[.int .i64 0, .int .i64 0, .int .i64 0] 28
    have hr0 := ClkAt.new w 28 0 0 0
    have ht0 := (RdTo.refl b w).alloc hlt (.cells #[.int .i64 0, .int .i64 0, .int .i64 0] 28)
    clear c0 c1 c2
    generalize w.alloc (.cells #[.int .i64 0, .int .i64 0, .int .i64 0] 28) = W1 at *
    have K0 := Lib.hid hk0
    have R0 := Lib.hid hr0
    have T0 := Lib.hid ht0
    obtain ⟨c0, c1, c2⟩ := ClkAt.cells hk0
    clear hk0 hr0 ht0 HA
    go_still_tail 12, (by kernel_rfl)
    change wpList _ _ _ _ _ W1.drew
    clear e1
    go_wp2_with fail
    refine (set_any b l c n _ _ W1.drew K0.out).mono ?_
    rintro e w1 ⟨rfl, ht, hk⟩
    have hR := (ht.above w.heap.size hlt (row_lt R0.out)).trans R0.out
    have d0 := cell_row hR 0
    have d1 := cell_row hR 1
    have d2 := cell_row hR 2
    have g0 := frozen_row hR 0
    have g1 := frozen_row hR 1
    have g2 := frozen_row hR 2
    obtain ⟨e0, e1, e2⟩ := hk.cells
    have hs := row_lt hR
    have H := Lib.hid hk
    have T := Lib.hid ht
    have R := Lib.hid hR
    clear hk ht hR
    go_wp2_with fail
    refine bodyPost_ret (v := .agg _) (results_cell_row (by rfl) _ _ w.heap.size 28 _ (0, 0) _ (by rfl) (row_set (row_set (row_set R.out 0 _) 1 _) 2 _) Try.underlying28 (by rfl) (by rfl)) (by rfl) ⟨rfl, ?_, ?_⟩
    · exact ((T0.out.drew.trans T.out).new hlt _ 0 (Nat.le_refl _) _ |>.new hlt _ 1 (Nat.le_refl _) _).new hlt _ 2 (Nat.le_refl _) _
    · exact row_other (row_other (row_other H.out _ 0 _ (by omega)) _ 1 _ (by omega)) _ 2 _ (by omega)
  · simp only [if_neg q, if_neg r, if_pos s]
    go_enter Try.func12, Try.ntmps12
    go_wp2_with fail
    refine (W _).mono ?_
    rintro e w' ⟨rfl, rfl⟩
    go_wp2_with fail
    refine (set_any b l c n _ _ _ (HA.out _ _)).mono ?_
    rintro e w1 ⟨rfl, ht, hk⟩
    have hR := (ht.above w.heap.size hlt (by simp)).trans (ClkAt.new w 28 0 0 0)
    have d0 := cell_row hR 0
    have d1 := cell_row hR 1
    have d2 := cell_row hR 2
    have g0 := frozen_row hR 0
    have g1 := frozen_row hR 1
    have g2 := frozen_row hR 2
    obtain ⟨e0, e1, e2⟩ := hk.cells
    have hs := row_lt hR
    have H := Lib.hid hk
    have T := Lib.hid ht
    have R := Lib.hid hR
    clear hk ht hR
    go_wp2_with fail
    refine bodyPost_ret (v := .agg _) (results_cell_row (by rfl) _ _ w.heap.size 28 _ (0, 0) _ (by rfl) (row_set (row_set (row_set R.out 0 _) 1 _) 2 _) Try.underlying28 (by rfl) (by rfl)) (by rfl) ⟨rfl, ?_, ?_⟩
    · exact ((((RdTo.refl b w).alloc hlt _).trans T.out).new hlt _ 0 (Nat.le_refl _) _ |>.new hlt _ 1 (Nat.le_refl _) _).new hlt _ 2 (Nat.le_refl _) _
    · exact row_other (row_other (row_other H.out _ 0 _ (by omega)) _ 1 _ (by omega)) _ 2 _ (by omega)
  · simp only [if_neg q, if_neg r, if_neg s]
    go_enter Try.func12, Try.ntmps12
    go_wp2_with fail
    refine (W _).mono ?_
    rintro e w' ⟨rfl, rfl⟩
    go_wp2_with fail
    refine bodyPost_ret (v := .agg #[.int .i64 l, .int .i64 c, .int .i64 n]) (by simp [results, go_sem]) rfl ⟨rfl, (RdTo.refl b w).alloc hlt _, HA.out _ _⟩
end Go.Proofs.Ytedlgaajiofdjaa
