/- A base that no program's function is named in: results, bytes behind a slice, arguments as they come in. -/
import Derived.Test.YtdnbkllofbnpoaaDoorRows
import Derived.WalkKit
import Derived.WalkSpells
import Derived.WalkLawsBesides
import Derived.Deep.LoopGhost
import Derived.LoopN
import Derived.Lib.OthersKept
import Derived.Lib.UnsafeStr
import Derived.Lib.AppendStr
import Derived.BigQuiet
import Derived.Deep.QuietTactic
import Derived.Laws.CopyOwn
import Derived.Laws.IdiomStrings
import Derived.Lib.Hide
import Derived.Lib.BufferWrite
import Derived.Laws.Cover4
import Derived.OpenShut
namespace Go.Proofs.YtdnbkllofbnpoaaDoor
open Go.RowKit Go.Lib

theorem ret_int {k : IntKind} {a b : Int} (h : a = b) : Ending.returned (.int k a) = .returned (.int k b) := by rw [h]
theorem ret_str {a b : ByteArray} (h : a = b) : Ending.returned (.string a) = .returned (.string b) := by rw [h]
theorem ret_bool {a b : Bool} (h : a = b) : Ending.returned (.bool a) = .returned (.bool b) := by rw [h]
theorem ofList (s : ByteArray) : (⟨s.data.toList.toArray⟩ : ByteArray) = s := by cases s; simp
theorem size_list (s : ByteArray) : s.data.toList.length = s.size := by simp
theorem Tryd.info5 : (Tryd.prog.info? 5).map (fun i => (i.zero, i.size, i.bytes)) = some (some (.int .u8 0), 1, 1) := by kernel_rfl
theorem thn {a b c : World} (h : Below a.heap.size a b) (k : Below b.heap.size b c) : Below a.heap.size a c := h.trans (k.mono h.size)
theorem alB {a w : World} (h : Below a.heap.size a w) (o : Obj) : Below a.heap.size a (w.alloc o) := h.alloc h.size o

/-- A slice value that reads as these bytes, in blocks below B. -/
def BytesAt (w : World) (B : Nat) (v : Value) (l : List UInt8) : Prop :=
  ∃ (A : Option Addr) (c : Nat), v = .slice A l.length c ∧ l.length ≤ c ∧ c ≤ maxLen ∧ (A = none → l = []) ∧ (∀ ad, A = some ad → l ≠ [] → ad.block < B) ∧ ∀ ad, A = some ad → ∀ (j : Nat) (x : UInt8), l[j]? = some x → w.cell? (ad.add j) = some (.int .u8 (x.toNat : Int))

theorem BytesAt.below {w w' : World} {B : Nat} {v : Value} {l : List UInt8} (h : BytesAt w B v l) (hb : Below B w w') : BytesAt w' B v l := by
  obtain ⟨A, c, hv, hc, hm, hn, hB, hx⟩ := h
  refine ⟨A, c, hv, hc, hm, hn, hB, fun ad had j x hj => ?_⟩
  have hne : l ≠ [] := by intro e; rw [e] at hj; simp at hj
  rw [hb.cell (p := ad.add j) (by simpa [Addr.add] using (by split <;> exact hB ad had hne))]
  exact hx ad had j x hj

theorem BytesAt.more {w : World} {B B' : Nat} {v : Value} {l : List UInt8} (h : BytesAt w B v l) (hB : B ≤ B') : BytesAt w B' v l := by
  obtain ⟨A, c, hv, hc, hm, hn, hb, hx⟩ := h
  exact ⟨A, c, hv, hc, hm, hn, fun ad had hne => Nat.lt_of_lt_of_le (hb ad had hne) hB, hx⟩
theorem BytesAt.on {w w' : World} {v : Value} {l : List UInt8} (h : BytesAt w w.heap.size v l) (hb : Below w.heap.size w w') : BytesAt w' w'.heap.size v l := (h.below hb).more hb.size
theorem BytesAt.drew {w : World} {B : Nat} {v : Value} {l : List UInt8} (h : BytesAt w B v l) : BytesAt w.drew B v l := h

theorem BytesAt.conv {w : World} {B : Nat} {v : Value} {l : List UInt8} (h : BytesAt w B v l) : (convert 22 9 v).run Tryd.prog w = .ok (.string ⟨l.toArray⟩) w := by
  obtain ⟨A, c, rfl, _, _, hn, _, hx⟩ := h
  cases A with
  | none =>
    have := hn rfl
    subst this
    rw [run_convert_bytes_string w _ _ 5 none _ c Tryd.underlying22 Tryd.underlying5 Tryd.underlying9]
    rfl
  | some ad =>
    exact run_convert_bytes_back w _ _ 5 ad c l Tryd.underlying22 Tryd.underlying5 Tryd.underlying9 (fun j hj => hx ad rfl j _ (List.getElem?_eq_getElem hj))

theorem bytesAt_new (w : World) (l : List UInt8) (C : Array Value) (fr : Nat × Nat) (hC : C = (l.map fun b => Value.int .u8 (b.toNat : Int)).toArray) (hm : l.length ≤ maxLen) :
    BytesAt (w.alloc (.cells C 5 fr)) (w.heap.size + 1) (.slice (some ⟨w.heap.size, 0, none⟩) l.length l.length) l := by
  refine ⟨_, _, rfl, Nat.le_refl _, hm, by simp, fun ad had _ => ?_, fun ad had j x hj => ?_⟩
  · injection had with had; subst had; simp
  · injection had with had; subst had
    rw [show (Addr.add ⟨w.heap.size, 0, none⟩ j) = ⟨w.heap.size, j, none⟩ by simp [Addr.add]; exact fun h => h.symm]
    rw [World.cell?_alloc_mark, hC]
    simp [hj]

theorem ownsBytes {w : World} {base : Nat} {v : Value} {l : List UInt8} (h : w.ownsRow base 5 1 v l.length (byteCells l)) : BytesAt w w.heap.size v l := by
  rcases h.2 with ⟨rfl, h0⟩ | ⟨g, cap, cur, rfl, _, hg, hc, hm, _, _⟩
  · have : l = [] := List.eq_nil_of_length_eq_zero h0
    subst this
    exact ⟨none, 0, rfl, by simp, by decide, fun _ => rfl, by simp, by simp⟩
  · refine ⟨_, cap, rfl, hc, hm, by simp, fun ad had _ => ?_, fun ad had j x hj => ?_⟩
    · injection had with had; subst had
      exact (h.lt g rfl).2
    · injection had with had; subst had
      exact h.cells rfl j _ (by rw [byteCells, List.getElem?_map, hj]; rfl)

theorem u8_of {n : Int} (h : (Lit.int .u8 n).wf = true) : ∃ a : Nat, a < 256 ∧ n = (a : Int) := by
  have e1 : IntKind.u8.min = 0 := rfl
  have e2 : IntKind.u8.max = 255 := rfl
  simp only [Lit.wf, Bool.and_eq_true, decide_eq_true_eq, e1, e2] at h
  exact ⟨n.toNat, by omega, by omega⟩

theorem int_le {n : Int} (h : (Lit.int .i64 n).wf = true) : n ≤ 9223372036854775807 := by
  have e1 : IntKind.i64.min = -9223372036854775808 := rfl
  have e2 : IntKind.i64.max = 9223372036854775807 := rfl
  simp only [Lit.wf, Bool.and_eq_true, decide_eq_true_eq, e1, e2] at h
  exact h.2

theorem bytes_of_row {w : World} {a : Option Addr} {len cap : Nat} {zs : List Int}
    (h : (a = none ∧ len = 0 ∧ cap = 0 ∧ zs = []) ∨ ∃ x, a = some x ∧ len ≤ cap ∧ cap ≤ maxLen ∧ zs.length = cap ∧ (∀ i, i < zs.length → w.cell? (x.add i) = some (.int .u8 (zs.getD i 0))) ∧ ∀ n ∈ zs, (Lit.int .u8 n).wf = true) :
    ∃ l : List UInt8, l.length = len ∧ BytesAt w w.heap.size (.slice a l.length cap) l := by
  rcases h with ⟨rfl, rfl, rfl, rfl⟩ | ⟨x, rfl, hl, hm, hz, hc, hw⟩
  · exact ⟨[], rfl, none, 0, rfl, by simp, by decide, fun _ => rfl, by simp, by simp⟩
  · have hlen : ((zs.take len).map fun n => UInt8.ofNat n.toNat).length = len := by rw [List.length_map, List.length_take]; omega
    have hcell : ∀ (j : Nat) (y : UInt8), ((zs.take len).map fun n => UInt8.ofNat n.toNat)[j]? = some y → w.cell? (x.add j) = some (.int .u8 (y.toNat : Int)) := by
      intro j y hj
      have hjl : j < len := by rw [← hlen]; exact (List.getElem?_eq_some_iff.1 hj).1
      have hjz : j < zs.length := by omega
      rw [List.getElem?_map, List.getElem?_take, if_pos hjl, List.getElem?_eq_getElem hjz] at hj
      have hy : UInt8.ofNat zs[j].toNat = y := by simpa using hj
      obtain ⟨m, hm1, hm2⟩ := u8_of (hw zs[j] (List.getElem_mem hjz))
      rw [hc j hjz, ← hy]
      have : zs.getD j 0 = zs[j] := by simp [List.getD, List.getElem?_eq_getElem hjz]
      rw [this, hm2]
      simp
      omega
    refine ⟨_, hlen, some x, cap, by rw [hlen], by omega, hm, by simp, fun ad had hne => ?_, fun ad had j y hj => ?_⟩
    · injection had with had; subst had
      have h0 : 0 < len := by rw [← hlen]; exact List.length_pos_iff.2 hne
      have := World.block_lt_of_cell? w (x.add 0) (hc 0 (by omega))
      simpa [Addr.add] using this
    · injection had with had; subst had
      exact hcell j y hj

end Go.Proofs.YtdnbkllofbnpoaaDoor
