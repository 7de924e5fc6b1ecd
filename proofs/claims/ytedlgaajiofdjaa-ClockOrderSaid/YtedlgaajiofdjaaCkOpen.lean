/- Stamps and acts that come in as arguments, opened. -/
import Derived.Test.YtedlgaajiofdjaaCkT
import Derived.Deep.Slices
import Derived.ChangeSame
import Derived.ChangeSlices
import Derived.WideShapes
namespace Go.Proofs.Ytedlgaajiofdjaa
open Go.RowKit Go.Lib Go.ChangeShapes Go.WideShapes Go.Deep
set_option linter.unusedVariables false
section
variable {H : Type} {enc : TypeId × Value → H} {w : World} {base : Nat} {spare : Nat → Bool} {held : Bool}
theorem cells_stamp : Try.prog.cellsOf 28 = 3 := by kernel_rfl
theorem cells_act : Try.prog.cellsOf 32 = 5 := by kernel_rfl
theorem cells_int : Try.prog.cellsOf 2 = 1 := by kernel_rfl
theorem cells_int' : Try.prog.cellsOf 3 = 1 := by kernel_rfl
theorem cells_bool : Try.prog.cellsOf 4 = 1 := by kernel_rfl
/-- A stamp's three cells. -/
theorem stamp_cells {fuel : Nat} {cs : List Value} {x : DataW H × List MemPlace} (h : DataW.trod enc Try.prog w base spare held fuel 28 cs = some x) : ∃ a b c : Int, cs = [.int .i64 a, .int .i64 b, .int .i64 c] := by
  obtain ⟨xs, n, _, _, hl, hx, hf⟩ := DataW.trod_struct Try.underlying28 h
  rw [cells_stamp] at hl
  match cs, hl, xs, hx with
  | [a, b, c], _, [y0, y1, y2], _ =>
    have h0 := hf 0 _ rfl
    have h1 := hf 1 _ rfl
    have h2 := hf 2 _ rfl
    simp [cells_int, cells_int'] at h0 h1 h2
    obtain ⟨a', ha, _⟩ := DataW.trod_int Try.underlying2 h0
    obtain ⟨b', hb, _⟩ := DataW.trod_int Try.underlying2 h1
    obtain ⟨c', hc, _⟩ := DataW.trod_int Try.underlying3 h2
    simp at ha hb hc
    exact ⟨a', b', c', by rw [ha, hb, hc]⟩
theorem stamp_of {r : Reach} {b0 : Nat} {v : Value} {d : DataW H} {p : List MemPlace} (hv : Value.okWide Try.prog w r b0 28 v) (h : DataW.Trod enc Try.prog w base spare held 28 v d p) : ∃ a b c : Int, v = .agg #[.int .i64 a, .int .i64 b, .int .i64 c] := by
  obtain ⟨cs, rfl, hsz⟩ := okWide_struct Try.underlying28 hv
  obtain ⟨fuel, hf⟩ := h
  obtain ⟨a, b, c, e⟩ := stamp_cells hf
  refine ⟨a, b, c, ?_⟩
  have : cs.toList = [.int .i64 a, .int .i64 b, .int .i64 c] := by simpa [Value.cells] using e
  rw [← Array.toArray_toList (xs := cs), this]
theorem acts_of {fuel : Nat} {cs : List Value} {x : DataW H × List MemPlace} (h : DataW.trod enc Try.prog w base spare held fuel 22 cs = some x) :
    ∃ (A : Option Addr) (n c : Nat), cs = [.slice A n c] ∧ n ≤ maxLen ∧ ActsAt w A n := by
  rcases open_slice Try.underlying22 h with ⟨rfl, _⟩ | ⟨a, len, cap, m, n, D, Pl, rfl, hb, hl, hm, hmm, hx, hi⟩
  · exact ⟨none, 0, 0, rfl, by decide, fun i hi => absurd hi (by omega)⟩
  · refine ⟨some a, len, cap, rfl, by omega, fun i hi' => ?_⟩
    have him : i < m := by rw [hmm]; split <;> omega
    obtain ⟨cs', hc, ht⟩ := hi i him
    rw [cells_act] at hc
    obtain ⟨_, hcl, hat⟩ := World.cells?_some hc
    obtain ⟨xs, k, _, _, _, hxl, hf⟩ := DataW.trod_struct Try.underlying32 ht
    match cs', hcl, xs, hxl with
    | [v0, v1, v2, v3, v4], _, [y0, y1, y2], _ =>
      have h0 := hf 0 _ rfl
      have h1 := hf 1 _ rfl
      have h2 := hf 2 _ rfl
      simp [cells_int, cells_bool, cells_stamp] at h0 h1 h2
      obtain ⟨s, hs, _⟩ := DataW.trod_bool Try.underlying4 h0
      obtain ⟨wl, hw, _⟩ := DataW.trod_int Try.underlying2 h1
      obtain ⟨l, c, nd, hst⟩ := stamp_cells h2
      simp at hs hw hst
      obtain ⟨e2, e3, e4⟩ := hst
      have q0 := hat 0 (by omega)
      have q1 := hat 1 (by omega)
      have q2 := hat 2 (by omega)
      have q3 := hat 3 (by omega)
      have q4 := hat 4 (by omega)
      simp [Addr.add] at q0 q1 q2 q3 q4
      refine ⟨a, s, wl, l, c, nd, rfl, ?_, ?_, ?_, ?_, ?_, ?_⟩
      · have := World.block_lt_of_cell? w ((a.add (i * 5)).add 0) (hat 0 (by omega))
        rw [add_blk, add_blk] at this
        exact this
      · have := hat 0 (by omega)
        rw [show (a.add (i * 5)).add 0 = a.add (i * 5) from rfl] at this
        rw [this, ← hs]; rfl
      · have := hat 1 (by omega)
        rw [show (a.add (i * 5)).add 1 = ⟨(a.add (i * 5)).block, (a.add (i * 5)).off + 1, none⟩ from rfl] at this
        rw [this, ← hw]; rfl
      · have := hat 2 (by omega)
        rw [show (a.add (i * 5)).add 2 = ⟨(a.add (i * 5)).block, (a.add (i * 5)).off + 2, none⟩ from rfl] at this
        rw [this, ← e2]; rfl
      · have := hat 3 (by omega)
        rw [show (a.add (i * 5)).add 3 = ⟨(a.add (i * 5)).block, (a.add (i * 5)).off + 3, none⟩ from rfl] at this
        rw [this, ← e3]; rfl
      · have := hat 4 (by omega)
        rw [show (a.add (i * 5)).add 4 = ⟨(a.add (i * 5)).block, (a.add (i * 5)).off + 4, none⟩ from rfl] at this
        rw [this, ← e4]; rfl
end
theorem u8_rng {n : Int} (h : (Lit.int .u8 n).wf = true) : 0 ≤ n ∧ n ≤ 255 := by
  have e1 : IntKind.u8.min = 0 := rfl
  have e2 : IntKind.u8.max = 255 := rfl
  simp only [Lit.wf, Bool.and_eq_true, decide_eq_true_eq, e1, e2] at h
  exact h
theorem u16_rng {n : Int} (h : (Lit.int .u16 n).wf = true) : 0 ≤ n ∧ n ≤ 65535 := by
  have e1 : IntKind.u16.min = 0 := rfl
  have e2 : IntKind.u16.max = 65535 := rfl
  simp only [Lit.wf, Bool.and_eq_true, decide_eq_true_eq, e1, e2] at h
  exact h
theorem u16_of {w : World} {a : Option Addr} {len cap : Nat} {zs : List Int}
    (h : (a = none ∧ len = 0 ∧ cap = 0 ∧ zs = []) ∨ ∃ x, a = some x ∧ len ≤ cap ∧ cap ≤ maxLen ∧ zs.length = cap ∧ (∀ i, i < zs.length → w.cell? (x.add i) = some (.int .u16 (zs.getD i 0))) ∧ ∀ n ∈ zs, (Lit.int .u16 n).wf = true) : len ≤ maxLen ∧ U16At w a len := by
  rcases h with ⟨rfl, rfl, rfl, rfl⟩ | ⟨x, rfl, hl, hm, hz, hc, hw⟩
  · exact ⟨by decide, fun i hi => absurd hi (by omega)⟩
  · refine ⟨by omega, fun i hi => ?_⟩
    have hi2 : i < zs.length := by omega
    have hb := u16_rng (hw zs[i] (List.getElem_mem hi2))
    have e : zs.getD i 0 = zs[i] := by simp [List.getD, List.getElem?_eq_getElem hi2]
    have hblk := World.block_lt_of_cell? w (x.add i) (hc i hi2)
    rw [add_blk] at hblk
    exact ⟨x, zs[i], rfl, hblk, hb.1, hb.2, by rw [hc i hi2, e]⟩
end Go.Proofs.Ytedlgaajiofdjaa
