/- Clocks: the rules, plainly; a clock's row; small contracts. -/
import Derived.Test.YtedlgaajiofdjaaRows
import Derived.WalkKit
import Derived.WalkSpells
import Derived.WalkLawsBesides
import Derived.Deep.LoopGhost
import Derived.LoopN
import Derived.BigQuiet
import Derived.Deep.QuietTactic
import Derived.Laws.Rows
import Derived.Deep.WholeRow
import Derived.Lib.Hide
import Derived.OpenShut
namespace Go.Proofs.Ytedlgaajiofdjaa
open Go.RowKit Go.Lib

theorem thn {a b c : World} (h : Below a.heap.size a b) (k : Below b.heap.size b c) : Below a.heap.size a c := h.trans (k.mono h.size)
theorem alB {a w : World} (h : Below a.heap.size a w) (o : Obj) : Below a.heap.size a (w.alloc o) := h.alloc h.size o
theorem bcell {W w1 : World} (hb : Below W.heap.size W w1) : (∀ b o, b < W.heap.size → w1.cell? ⟨b, o, none⟩ = W.cell? ⟨b, o, none⟩) ∧ (∀ b o, b < W.heap.size → w1.frozen? ⟨b, o, none⟩ = W.frozen? ⟨b, o, none⟩) :=
  ⟨fun b o h => hb.cell (p := ⟨b, o, none⟩) h, fun b o h => hb.frozen (p := ⟨b, o, none⟩) h⟩
/-- What a call leaves alone: all but one block. -/
structure RdTo (r : Nat) (w w' : World) : Prop where
  below : Below r w w'
  above : ∀ b, r < b → b < w.heap.size → w'.heap[b]? = w.heap[b]?
theorem RdTo.refl (r : Nat) (w : World) : RdTo r w w := ⟨Below.refl _ _, fun _ _ _ => rfl⟩
theorem RdTo.trans {r : Nat} {a b c : World} (h : RdTo r a b) (k : RdTo r b c) : RdTo r a c :=
  ⟨h.below.trans k.below, fun i h1 h2 => (k.above i h1 (Nat.lt_of_lt_of_le h2 h.below.size)).trans (h.above i h1 h2)⟩
theorem RdTo.alloc {r : Nat} {w w' : World} (h : RdTo r w w') (hr : r < w.heap.size) (o : Obj) : RdTo r w (w'.alloc o) :=
  ⟨h.below.alloc (by have := h.below.size; omega) o, fun b h1 h2 => by
    have hs := h.below.size
    rw [← h.above b h1 h2]
    show (w'.heap.push o)[b]? = _
    rw [Array.getElem?_push, if_neg (by omega)]⟩
theorem RdTo.set {r : Nat} {w w' : World} (h : RdTo r w w') (i : Nat) (v : Value) : RdTo r w (w'.setCell ⟨r, i, none⟩ v) :=
  ⟨h.below.setCell (p := ⟨r, i, none⟩) (Nat.le_refl r) v, fun b h1 h2 => (Below.heap_setCell w' ⟨r, i, none⟩ v b (by show b ≠ r; omega)).trans (h.above b h1 h2)⟩
theorem RdTo.new {r : Nat} {w w' : World} (h : RdTo r w w') (hr : r < w.heap.size) (g i : Nat) (hg : w.heap.size ≤ g) (v : Value) : RdTo r w (w'.setCell ⟨g, i, none⟩ v) :=
  ⟨h.below.setCell (p := ⟨g, i, none⟩) (by show r ≤ g; omega) v, fun b h1 h2 => (Below.heap_setCell w' ⟨g, i, none⟩ v b (by show b ≠ g; omega)).trans (h.above b h1 h2)⟩
theorem RdTo.drew {r : Nat} {w w' : World} (h : RdTo r w w') : RdTo r w w'.drew := ⟨h.below.drew, h.above⟩
theorem RdTo.of {r : Nat} {w w' : World} (h : Below w.heap.size w w') (hr : r < w.heap.size) : RdTo r w w' := ⟨h.mono (by omega), fun b _ h2 => h.block b h2⟩

/-- A number as it counts. -/
def heldI (v : Int) : Int := if v < 0 then 0 else if 4611686018427387904 < v then 4611686018427387904 else v
theorem heldI_in (v : Int) : 0 ≤ heldI v ∧ heldI v ≤ 4611686018427387904 := by unfold heldI; split <;> (try split) <;> omega
theorem heldI_lo {v : Int} (h : v < 0) : heldI v = 0 := by unfold heldI; rw [if_pos h]
theorem heldI_hi {v : Int} (h : 4611686018427387904 < v) : heldI v = 4611686018427387904 := by unfold heldI; rw [if_neg (by omega), if_pos h]
theorem heldI_mid {v : Int} (h : 0 ≤ v) (k : v ≤ 4611686018427387904) : heldI v = v := by unfold heldI; rw [if_neg (by omega), if_neg (by omega)]

theorem within_any (v : Int) (w : World) : Calls Try.prog 18 #[.int .i64 v] w fun e w' => e = .returned (.int .i64 (heldI v)) ∧ w = w' := by
  by_cases h : v < 0
  · rw [heldI_lo h]
    go_enter Try.func18, Try.ntmps18
    go_wp2
    go_ret
    exact ⟨rfl, rfl⟩
  · by_cases k : 4611686018427387904 < v
    · rw [heldI_hi k]
      go_enter Try.func18, Try.ntmps18
      go_wp2
      go_ret
      exact ⟨rfl, rfl⟩
    · rw [heldI_mid (by omega) (by omega)]
      go_enter Try.func18, Try.ntmps18
      go_wp2
      go_ret
      exact ⟨rfl, rfl⟩
theorem held_any (v : Int) (w : World) : Calls Try.prog 20 #[.int .i64 v] w fun e w' => e = .returned (.int .i64 (heldI v)) ∧ w = w' := by
  by_cases h : v < 0
  · rw [heldI_lo h]
    go_enter Try.func20, Try.ntmps20
    go_wp2
    go_ret
    exact ⟨rfl, rfl⟩
  · by_cases k : 4611686018427387904 < v
    · rw [heldI_hi k]
      go_enter Try.func20, Try.ntmps20
      go_wp2
      go_ret
      exact ⟨rfl, rfl⟩
    · rw [heldI_mid (by omega) (by omega)]
      go_enter Try.func20, Try.ntmps20
      go_wp2
      go_ret
      exact ⟨rfl, rfl⟩
end Go.Proofs.Ytedlgaajiofdjaa
