/- A row of acts of a clock's story. -/
import Derived.Test.YtedlgaajiofdjaaCk8
import Derived.Test.YtedlgaajiofdjaaCk9
import Derived.Deep.RegionHeld3
namespace Go.Proofs.Ytedlgaajiofdjaa
open Go.RowKit Go.Lib
set_option linter.unusedVariables false

theorem add_blk (x : Addr) (j : Nat) : (x.add j).block = x.block := by simp [Addr.add]; split <;> rfl
theorem row_to {w w' : World} {b r : Nat} {o : Obj} (h : w.heap[b]? = some o) (k : RdTo r w w') (hr : r ≠ b) : w'.heap[b]? = some o := by
  have := row_lt h
  rcases Nat.lt_or_gt_of_ne hr with q | q
  · exact (k.above b q this).trans h
  · exact (k.below.block b q).trans h
theorem row_on {w w' : World} {b : Nat} {o : Obj} (h : w.heap[b]? = some o) (k : Below w.heap.size w w') : w'.heap[b]? = some o := (k.block b (row_lt h)).trans h
theorem row_new (w : World) (o : Obj) : (w.alloc o).heap[w.heap.size]? = some o := by
  show (w.heap.push _)[w.heap.size]? = _
  simp
/-- The acts that lie behind a slice. -/
def ActsAt (w : World) (A : Option Addr) (n : Nat) : Prop :=
  ∀ i, i < n → ∃ (x : Addr) (s : Bool) (wl l c nd : Int), A = some x ∧ x.block < w.heap.size ∧ w.cell? (x.add (i * 5)) = some (.bool s) ∧ w.cell? ⟨(x.add (i * 5)).block, (x.add (i * 5)).off + 1, none⟩ = some (.int .i64 wl) ∧ w.cell? ⟨(x.add (i * 5)).block, (x.add (i * 5)).off + 2, none⟩ = some (.int .i64 l) ∧ w.cell? ⟨(x.add (i * 5)).block, (x.add (i * 5)).off + 3, none⟩ = some (.int .i64 c) ∧ w.cell? ⟨(x.add (i * 5)).block, (x.add (i * 5)).off + 4, none⟩ = some (.int .i64 nd)
theorem ActsAt.on {w w' : World} {A : Option Addr} {n : Nat} (h : ActsAt w A n) (k : Below w.heap.size w w') : ActsAt w' A n := by
  intro i hi
  obtain ⟨x, s, wl, l, c, nd, hA, hx, c0, c1, c2, c3, c4⟩ := h i hi
  have f : ∀ j, w'.cell? ⟨(x.add (i * 5)).block, (x.add (i * 5)).off + j, none⟩ = w.cell? ⟨(x.add (i * 5)).block, (x.add (i * 5)).off + j, none⟩ := fun j => k.cell (by show (x.add (i * 5)).block < _; rw [add_blk]; exact hx)
  have f0 : w'.cell? (x.add (i * 5)) = w.cell? (x.add (i * 5)) := k.cell (by rw [add_blk]; exact hx)
  exact ⟨x, s, wl, l, c, nd, hA, Nat.lt_of_lt_of_le hx k.size, f0.trans c0, (f _).trans c1, (f _).trans c2, (f _).trans c3, (f _).trans c4⟩
def PlayR (w : World) (cb rb : Nat) (node : Int) (W : World) : Prop :=
  ∃ l c : Int, In l c ∧ ClkAt W 48 cb l c node ∧ ClkAt W 30 rb l c node ∧ Below w.heap.size w W
end Go.Proofs.Ytedlgaajiofdjaa
