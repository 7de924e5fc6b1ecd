/- Contracts of the clock's small functions: New, Last, set, bound, Less. -/
import Derived.Test.YtedlgaajiofdjaaCk
import Derived.Deep.RegionWith
namespace Go.Proofs.Ytedlgaajiofdjaa
open Go.RowKit Go.Lib

theorem cell_row {w : World} {b : Nat} {cs : Array Value} {t : TypeId} {fr : Nat × Nat} (h : w.heap[b]? = some (.cells cs t fr)) (k : Nat) : w.cell? ⟨b, k, none⟩ = cs[k]? := by simp [World.cell?, h]
theorem frozen_row {w : World} {b : Nat} {cs : Array Value} {t : TypeId} (h : w.heap[b]? = some (.cells cs t (0, 0))) (k : Nat) : w.frozen? ⟨b, k, none⟩ = false := by simp [World.frozen?, h]
theorem row_lt {w : World} {b : Nat} {o : Obj} (h : w.heap[b]? = some o) : b < w.heap.size := (Array.getElem?_eq_some_iff.1 h).1
theorem row_set {w : World} {b : Nat} {cs : Array Value} {t : TypeId} {fr : Nat × Nat} (h : w.heap[b]? = some (.cells cs t fr)) (i : Nat) (v : Value) : (w.setCell ⟨b, i, none⟩ v).heap[b]? = some (.cells (cs.setIfInBounds i v) t fr) := by
  simp [World.setCell, Array.getElem?_modify, h]
theorem row_keep {w : World} {b : Nat} {o : Obj} (h : w.heap[b]? = some o) (o' : Obj) : (w.alloc o').heap[b]? = some o := by
  show (w.heap.push o')[b]? = _
  rw [Array.getElem?_push, if_neg (by have := row_lt h; omega), h]
theorem row_other {w : World} {b : Nat} {o : Obj} (h : w.heap[b]? = some o) (g i : Nat) (v : Value) (hg : g ≠ b) : (w.setCell ⟨g, i, none⟩ v).heap[b]? = some o := by
  rw [Below.heap_setCell w ⟨g, i, none⟩ v b (by show b ≠ g; omega), h]
/-- A clock's row: its stamp. -/
def ClkAt (w : World) (t : TypeId) (b : Nat) (l c n : Int) : Prop := w.heap[b]? = some (.cells #[.int .i64 l, .int .i64 c, .int .i64 n] t)
theorem ClkAt.lt {w : World} {t : TypeId} {b : Nat} {l c n : Int} (h : ClkAt w t b l c n) : b < w.heap.size := row_lt h
theorem ClkAt.cells {w : World} {t : TypeId} {b : Nat} {l c n : Int} (h : ClkAt w t b l c n) : w.cell? ⟨b, 0, none⟩ = some (.int .i64 l) ∧ w.cell? ⟨b, 1, none⟩ = some (.int .i64 c) ∧ w.cell? ⟨b, 2, none⟩ = some (.int .i64 n) :=
  ⟨cell_row h 0, cell_row h 1, cell_row h 2⟩
theorem ClkAt.frz {w : World} {t : TypeId} {b : Nat} {l c n : Int} (h : ClkAt w t b l c n) : w.frozen? ⟨b, 0, none⟩ = false ∧ w.frozen? ⟨b, 1, none⟩ = false := ⟨frozen_row h 0, frozen_row h 1⟩
theorem ClkAt.to {w w' : World} {t : TypeId} {b r : Nat} {l c n : Int} (h : ClkAt w t b l c n) (k : RdTo r w w') (hr : r ≠ b) : ClkAt w' t b l c n := by
  have := h.lt
  rcases Nat.lt_or_gt_of_ne hr with q | q
  · exact (k.above b q this).trans h
  · exact (k.below.block b q).trans h
theorem ClkAt.on {w w' : World} {t : TypeId} {b : Nat} {l c n : Int} (h : ClkAt w t b l c n) (k : Below w.heap.size w w') : ClkAt w' t b l c n := (k.block b h.lt).trans h
theorem ClkAt.new (w : World) (t : TypeId) (l c n : Int) : ClkAt (w.alloc (.cells #[.int .i64 l, .int .i64 c, .int .i64 n] t)) t w.heap.size l c n := by
  show (w.heap.push _)[w.heap.size]? = _
  simp

theorem new_any (n : Int) (w : World) : Calls Try.prog 9 #[.int .i64 n] w fun e w' => e = .returned (.pointer (some ⟨w.heap.size, 0, none⟩)) ∧ Below w.heap.size w w' ∧ w.heap.size < w'.heap.size ∧ ClkAt w' 48 w.heap.size 0 0 n := by
  have fin : Below w.heap.size w (w.alloc (.cells #[.int .i64 0, .int .i64 0, .int .i64 n] 48)) := (Below.refl _ _).alloc (Nat.le_refl _) _
  have fin2 := ClkAt.new w 48 0 0 n
  have fin3 : w.heap.size < (w.alloc (.cells #[.int .i64 0, .int .i64 0, .int .i64 n] 48)).heap.size := by simp
  go_enter Try.func9, Try.ntmps9
  go_wp2
  go_ret
  exact ⟨rfl, fin, fin3, fin2⟩
theorem set_any (b : Nat) (l c n x y : Int) (w : World) (h : ClkAt w 48 b l c n) :
    Calls Try.prog 19 #[.pointer (some ⟨b, 0, none⟩), .int .i64 x, .int .i64 y] w fun e w' => e = .returned (.tuple #[]) ∧ RdTo b w w' ∧ ClkAt w' 48 b x y n := by
  obtain ⟨c0, c1, c2⟩ := h.cells
  obtain ⟨f0, f1⟩ := h.frz
  have r1 : RdTo b w ((w.setCell ⟨b, 0, none⟩ (.int .i64 x)).setCell ⟨b, 1, none⟩ (.int .i64 y)) := ((RdTo.refl b w).set 0 _).set 1 _
  have r2 : ClkAt ((w.setCell ⟨b, 0, none⟩ (.int .i64 x)).setCell ⟨b, 1, none⟩ (.int .i64 y)) 48 b x y n := row_set (row_set h 0 _) 1 _
  clear h
  go_enter Try.func19, Try.ntmps19
  go_wp2
  go_end0
  exact ⟨rfl, r1, r2⟩
theorem last_any (b : Nat) (l c n : Int) (w : World) (h : ClkAt w 48 b l c n) :
    Calls Try.prog 14 #[.pointer (some ⟨b, 0, none⟩)] w fun e w' => e = .returned (.agg #[.int .i64 l, .int .i64 c, .int .i64 n]) ∧ Below w.heap.size w w' := by
  obtain ⟨c0, c1, c2⟩ := h.cells
  have hlt := h.lt
  clear h
  go_enter Try.func14, Try.ntmps14
  go_wp2
  exact bodyPost_ret (v := .agg #[.int .i64 l, .int .i64 c, .int .i64 n]) (by simp [results, go_sem]) rfl ⟨rfl, (Below.refl _ _).alloc (Nat.le_refl _) _⟩
theorem bound_any (l c n : Int) (w : World) :
    Calls Try.prog 17 #[.agg #[.int .i64 l, .int .i64 c, .int .i64 n]] w fun e w' => e = .returned (.agg #[.int .i64 (heldI l), .int .i64 (heldI c), .int .i64 n]) ∧ Below w.heap.size w w' := by
  go_enter Try.func17, Try.ntmps17
  go_wp2_with fail
  go_region_with (go_at_call 18; refine (within_any _ _).mono ?_; rintro e w' ⟨rfl, rfl⟩)
  all_goals
    go_wp2
    exact bodyPost_ret (v := .agg #[.int .i64 (heldI l), .int .i64 (heldI c), .int .i64 n]) (by simp [results, go_sem]) rfl ⟨rfl, (((Below.refl _ _).alloc (Nat.le_refl _) _).alloc (by simp) _).drew⟩
end Go.Proofs.Ytedlgaajiofdjaa
