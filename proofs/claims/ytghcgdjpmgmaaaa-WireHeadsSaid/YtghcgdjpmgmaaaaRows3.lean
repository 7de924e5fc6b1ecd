/- Rows of bytes, one behind the other; what is read is no giant. -/
import Derived.Test.YtghcgdjpmgmaaaaDRead3
import Derived.Test.YtghcgdjpmgmaaaaGRead
import Derived.Test.YtghcgdjpmgmaaaaRSame
namespace Go.Proofs.Ytghcgdjpmgmaaaa
open Go.RowKit Go.Lib
set_option linter.unusedVariables false
set_option linter.unusedSimpArgs false

/-- A slice of bytes that lie below G. -/
def RowAt (W : World) (G : Nat) (v : Value) : Prop := ∃ A cap l, v = .slice A l.length cap ∧ l.length ≤ 1000000 ∧ BytesAt W G v l
theorem RowAt.below {W W' : World} {G : Nat} {v : Value} (h : RowAt W G v) (hb : Below G W W') : RowAt W' G v := by
  obtain ⟨A, cap, l, h1, h2, h3⟩ := h
  exact ⟨A, cap, l, h1, h2, h3.below hb⟩
theorem RowAt.on {W W' : World} {v : Value} (h : RowAt W W.heap.size v) (hb : Below W.heap.size W W') : RowAt W' W'.heap.size v := by
  obtain ⟨A, cap, l, h1, h2, h3⟩ := h
  exact ⟨A, cap, l, h1, h2, h3.on hb⟩
theorem RowAt.alc {W : World} {v : Value} (h : RowAt W W.heap.size v) (o : Obj) : RowAt (W.alloc o) (W.alloc o).heap.size v := h.on ((Below.refl _ _).alloc (Nat.le_refl _) _)
theorem RowAt.new (W : World) (g : Nat) (hg : W.heap.size = g) (l : List UInt8) (C : Array Value) (n : Nat) (hn : n = l.length) (hC : C = (l.map fun b => Value.int .u8 (b.toNat : Int)).toArray) (hm : l.length ≤ 1000) :
    RowAt (W.alloc (.cells C 5)) (W.alloc (.cells C 5)).heap.size (.slice (some ⟨g, 0, none⟩) n n) := by
  subst hn
  exact ⟨_, _, l, rfl, by omega, new_bytes W g hg l C _ rfl hC hm⟩
theorem RowAt.own {W : World} {base : Nat} {A : Option Addr} {c n : Nat} {l : List UInt8} (h : W.ownsRow base 5 1 (.slice A n c) n (Lib.byteCells l)) (hn : n = l.length) (hm : l.length ≤ 1000000) : RowAt W W.heap.size (.slice A n c) := by
  subst hn
  exact ⟨A, c, l, rfl, hm, ownsBytes h⟩
/-- Some slices of bytes in a row. -/
def RowsAt (W : World) (G g N : Nat) : Prop := g < G ∧ G ≤ W.heap.size ∧ ∀ j, j < N → ∃ v, W.cell? ⟨g, j, none⟩ = some v ∧ RowAt W G v
theorem RowsAt.below {W W' : World} {G g N : Nat} (h : RowsAt W G g N) (hb : Below W.heap.size W W') : RowsAt W' G g N := by
  obtain ⟨h1, h2, h3⟩ := h
  refine ⟨h1, Nat.le_trans h2 hb.size, fun j hj => ?_⟩
  obtain ⟨v, hv, hr⟩ := h3 j hj
  exact ⟨v, by rw [hb.cell (p := ⟨g, j, none⟩) (by show g < _; omega)]; exact hv, hr.below (hb.mono h2)⟩
theorem RowsAt.new (W : World) (vs : List Value) (E : TypeId) (h : ∀ v ∈ vs, RowAt W W.heap.size v) : RowsAt (W.alloc (.cells vs.toArray E)) (W.alloc (.cells vs.toArray E)).heap.size W.heap.size vs.length := by
  refine ⟨by simp, Nat.le_refl _, fun j hj => ⟨vs[j], ?_, (h _ (List.getElem_mem hj)).alc _⟩⟩
  rw [World.cell?_alloc_mark]
  simp [hj]
theorem rdP_ok (l : List UInt8) (hl : l.length ≤ 1000000) : PkOk (rdP l).1 := by
  have z : PkOk pk0 := plain_okk 0 (by omega) (by omega)
  rcases l with _ | ⟨c, r⟩
  · exact z
  have hc := c.toNat_lt
  simp only [rdP]
  split
  · exact z
  split
  · exact par_ok _ (by omega) (by omega) _ (by rw [List.length_drop, List.length_take]; omega)
  · exact z
end Go.Proofs.Ytghcgdjpmgmaaaa
