/- Rows of cells and what they read as: bytes, filters, numbers. -/
import Derived.Test.YtpjlnienakiihaaDoorRowClone
namespace Go.Proofs.YtpjlnienakiihaaDoor
open Go.RowKit Go.Lib

/-- A nil slice has no room. -/
structure NilOk (s : Sv) : Prop where
  pay : s.pA = none → s.pC = 0
  wpay : s.wA = none → s.wC = 0
  pass : s.uA = none → s.uC = 0
  subs : s.sA = none → s.sC = 0
  codes : s.cA = none → s.cC = 0

def subCells (l : List (ByteArray × Int)) : List Value := l.flatMap fun x => [.string x.1, .int .i64 x.2]
def intCells (l : List Int) : List Value := l.map fun x => .int .i64 x
theorem subCells_len (l : List (ByteArray × Int)) : (subCells l).length = l.length * 2 := by
  unfold subCells
  induction l with
  | nil => rfl
  | cons x l ih => simp only [List.flatMap_cons, List.length_append, List.length_cons, List.length_nil, ih]; omega
theorem subCells_at (l : List (ByteArray × Int)) : ∀ (k : Nat) (x : ByteArray × Int), l[k]? = some x → (subCells l)[k * 2]? = some (.string x.1) ∧ (subCells l)[k * 2 + 1]? = some (.int .i64 x.2) := by
  unfold subCells
  induction l with
  | nil => intro k x h; simp at h
  | cons y l ih =>
    intro k x h
    cases k with
    | zero => simp at h; subst h; simp
    | succ k =>
      have := ih k x (by simpa using h)
      rw [List.flatMap_cons, show (k + 1) * 2 = k * 2 + 2 by omega, show k * 2 + 2 + 1 = (k * 2 + 1) + 2 by omega]
      simpa using this
theorem subCells_cell (l : List (ByteArray × Int)) (j : Nat) (u : Value) (h : (subCells l)[j]? = some u) : ∃ (k : Nat) (x : ByteArray × Int), l[k]? = some x ∧ ((j = k * 2 ∧ u = .string x.1) ∨ (j = k * 2 + 1 ∧ u = .int .i64 x.2)) := by
  have hj : j < l.length * 2 := by rw [← subCells_len]; exact (List.getElem?_eq_some_iff.1 h).1
  have hk : j / 2 < l.length := by omega
  obtain ⟨e1, e2⟩ := subCells_at l (j / 2) l[j / 2] (List.getElem?_eq_getElem hk)
  refine ⟨j / 2, l[j / 2], List.getElem?_eq_getElem hk, ?_⟩
  rcases Nat.mod_two_eq_zero_or_one j with m | m
  · left
    have e : j = j / 2 * 2 := by omega
    rw [← e] at e1
    exact ⟨e, by rw [h] at e1; exact Option.some.inj e1⟩
  · right
    have e : j = j / 2 * 2 + 1 := by omega
    rw [← e] at e2
    exact ⟨e, by rw [h] at e2; exact Option.some.inj e2⟩

theorem BytesAt.cellsAt {w : World} {B n c : Nat} {A : Option Addr} {l : List UInt8} (h : BytesAt w B (.slice A n c) l) : CellsAt w 1 A n (Lib.byteCells l) := by
  obtain ⟨A', c', hv, hc, hm, hn, hB, hx⟩ := h
  injection hv with e1 e2 e3
  subst e1; subst e2; subst e3
  refine ⟨by rw [Lib.byteCells_length]; omega, fun e => by rw [hn e]; rfl, fun ad had j u hj => ?_, fun u hu => ?_⟩
  · rw [Lib.byteCells, List.getElem?_map] at hj
    obtain ⟨q, hq, rfl⟩ := Option.map_eq_some_iff.1 hj
    exact hx ad had j q hq
  · rw [Lib.byteCells, List.mem_map] at hu
    obtain ⟨q, _, rfl⟩ := hu
    rfl
theorem IntsAt.cellsAt {w : World} {B n c : Nat} {A : Option Addr} {l : List Int} (h : IntsAt w B (.slice A n c) l) : CellsAt w 1 A n (intCells l) := by
  obtain ⟨A', c', hv, hc, hm, hn, hB, hx⟩ := h
  injection hv with e1 e2 e3
  subst e1; subst e2; subst e3
  refine ⟨by simp [intCells], fun e => by rw [hn e]; rfl, fun ad had j u hj => ?_, fun u hu => ?_⟩
  · rw [intCells, List.getElem?_map] at hj
    obtain ⟨q, hq, rfl⟩ := Option.map_eq_some_iff.1 hj
    exact hx ad had j q hq
  · rw [intCells, List.mem_map] at hu
    obtain ⟨q, _, rfl⟩ := hu
    rfl
theorem SubsAt.cellsAt {w : World} {B n c : Nat} {A : Option Addr} {l : List (ByteArray × Int)} (h : SubsAt w B (.slice A n c) l) : CellsAt w 2 A n (subCells l) := by
  obtain ⟨A', c', hv, hc, hm, hn, hB, hx⟩ := h
  injection hv with e1 e2 e3
  subst e1; subst e2; subst e3
  refine ⟨by rw [subCells_len], fun e => by rw [hn e]; rfl, fun ad had j u hj => ?_, fun u hu => ?_⟩
  · obtain ⟨k, x, hk, h⟩ := subCells_cell l j u hj
    rcases h with ⟨rfl, rfl⟩ | ⟨rfl, rfl⟩
    · exact (hx ad had k x hk).1
    · exact (hx ad had k x hk).2
  · rw [subCells, List.mem_flatMap] at hu
    obtain ⟨x, _, hu⟩ := hu
    simp at hu
    rcases hu with rfl | rfl <;> rfl
theorem ownsSubs {w : World} {base : Nat} {v : Value} {l : List (ByteArray × Int)} (h : w.ownsRow base 58 2 v l.length (subCells l)) : SubsAt w w.heap.size v l := by
  rcases h.2 with ⟨rfl, h0⟩ | ⟨g, cap, cur, rfl, _, hg, hc, hm, _, _⟩
  · have : l = [] := List.eq_nil_of_length_eq_zero h0
    subst this
    exact ⟨none, 0, rfl, by simp, by decide, fun _ => rfl, by simp, by simp⟩
  · refine ⟨_, cap, rfl, hc, hm, by simp, fun ad had _ => ?_, fun ad had j x hj => ?_⟩
    · injection had with had; subst had
      exact (h.lt g rfl).2
    · injection had with had; subst had
      obtain ⟨e1, e2⟩ := subCells_at l j x hj
      exact ⟨h.cells rfl _ _ e1, h.cells rfl _ _ e2⟩
theorem ownsInts' {w : World} {base : Nat} {v : Value} {l : List Int} (h : w.ownsRow base 3 1 v l.length (intCells l)) : IntsAt w w.heap.size v l := by
  rcases h.2 with ⟨rfl, h0⟩ | ⟨g, cap, cur, rfl, _, hg, hc, hm, _, _⟩
  · have : l = [] := List.eq_nil_of_length_eq_zero h0
    subst this
    exact ⟨none, 0, rfl, by simp, by decide, fun _ => rfl, by simp, by simp⟩
  · refine ⟨_, cap, rfl, hc, hm, by simp, fun ad had _ => ?_, fun ad had j x hj => ?_⟩
    · injection had with had; subst had
      exact (h.lt g rfl).2
    · injection had with had; subst had
      exact h.cells rfl j _ (by rw [intCells, List.getElem?_map, hj]; rfl)
theorem ownsNil {w : World} {base n size c : Nat} {E : TypeId} {A : Option Addr} {xs : List Value} (h : w.ownsRow base E size (.slice A n c) n xs) : A = none → c = 0 := by
  intro e
  rcases h.2 with ⟨q, _⟩ | ⟨g, cap, cur, q, _⟩
  · injection q
  · injection q with q; rw [e] at q; exact absurd q (by simp)

end Go.Proofs.YtpjlnienakiihaaDoor
