/- Arguments as they come in: bytes, runes, small numbers. -/
import Derived.Test.YtdefmeffdcpcaaaCheck
import Derived.OpenShut
namespace Go.Proofs.Ytdefmeffdcpcaaa
open Go.RowKit Go.Lib

theorem u8_of {n : Int} (h : (Lit.int .u8 n).wf = true) : ∃ a : Nat, a < 256 ∧ n = (a : Int) := by
  have e1 : IntKind.u8.min = 0 := rfl
  have e2 : IntKind.u8.max = 255 := rfl
  simp only [Lit.wf, Bool.and_eq_true, decide_eq_true_eq, e1, e2] at h
  exact ⟨n.toNat, by omega, by omega⟩

theorem int_le {n : Int} (h : (Lit.int .i64 n).wf = true) : n ≤ 9223372036854775807 := by
  have e1 : IntKind.i64.min = -9223372036854775808 := rfl
  have e2 : IntKind.i64.max = 9223372036854775807 := rfl
  simp only [Lit.wf, Bool.and_eq_true, decide_eq_true_eq, e1, e2] at h
  exact h.2

theorem bytes_of_row {w : World} {a : Option Addr} {len cap : Nat} {zs : List Int}
    (h : (a = none ∧ len = 0 ∧ cap = 0 ∧ zs = []) ∨ ∃ x, a = some x ∧ len ≤ cap ∧ cap ≤ maxLen ∧ zs.length = cap ∧ (∀ i, i < zs.length → w.cell? (x.add i) = some (.int .u8 (zs.getD i 0))) ∧ ∀ n ∈ zs, (Lit.int .u8 n).wf = true) :
    ∃ l : List UInt8, l.length = len ∧ BytesAt w w.heap.size (.slice a l.length cap) l := by
  rcases h with ⟨rfl, rfl, rfl, rfl⟩ | ⟨x, rfl, hl, hm, hz, hc, hw⟩
  · exact ⟨[], rfl, none, 0, rfl, by simp, by decide, fun _ => rfl, by simp, by simp⟩
  · have hlen : ((zs.take len).map fun n => UInt8.ofNat n.toNat).length = len := by rw [List.length_map, List.length_take]; omega
    have hcell : ∀ (j : Nat) (y : UInt8), ((zs.take len).map fun n => UInt8.ofNat n.toNat)[j]? = some y → w.cell? (x.add j) = some (.int .u8 (y.toNat : Int)) := by
      intro j y hj
      have hjl : j < len := by rw [← hlen]; exact (List.getElem?_eq_some_iff.1 hj).1
      have hjz : j < zs.length := by omega
      rw [List.getElem?_map, List.getElem?_take, if_pos hjl, List.getElem?_eq_getElem hjz] at hj
      have hy : UInt8.ofNat zs[j].toNat = y := by simpa using hj
      obtain ⟨m, hm1, hm2⟩ := u8_of (hw zs[j] (List.getElem_mem hjz))
      rw [hc j hjz, ← hy]
      have : zs.getD j 0 = zs[j] := by simp [List.getD, List.getElem?_eq_getElem hjz]
      rw [this, hm2]
      simp
      omega
    refine ⟨_, hlen, some x, cap, by rw [hlen], by omega, hm, by simp, fun ad had hne => ?_, fun ad had j y hj => ?_⟩
    · injection had with had; subst had
      have h0 : 0 < len := by rw [← hlen]; exact List.length_pos_iff.2 hne
      have := World.block_lt_of_cell? w (x.add 0) (hc 0 (by omega))
      simpa [Addr.add] using this
    · injection had with had; subst had
      exact hcell j y hj

theorem runes_of_row {w : World} {a : Option Addr} {len cap : Nat} {zs : List Int}
    (h : (a = none ∧ len = 0 ∧ cap = 0 ∧ zs = []) ∨ ∃ x, a = some x ∧ len ≤ cap ∧ cap ≤ maxLen ∧ zs.length = cap ∧ (∀ i, i < zs.length → w.cell? (x.add i) = some (.int .i32 (zs.getD i 0))) ∧ ∀ n ∈ zs, (Lit.int .i32 n).wf = true) :
    ∃ l : List Int, l.length = len ∧ RunesAt w w.heap.size (.slice a l.length cap) l ∧ ∀ n ∈ l, -2147483648 ≤ n ∧ n ≤ 2147483647 := by
  rcases h with ⟨rfl, rfl, rfl, rfl⟩ | ⟨x, rfl, hl, hm, hz, hc, hw⟩
  · exact ⟨[], rfl, ⟨none, 0, rfl, by simp, fun _ => rfl, by simp, by simp⟩, by simp⟩
  · have hlen : (zs.take len).length = len := by rw [List.length_take]; omega
    refine ⟨_, hlen, ⟨some x, cap, by rw [hlen], by omega, by simp, fun ad had hne => ?_, fun ad had j y hj => ?_⟩, fun n hn => ?_⟩
    · injection had with had; subst had
      have h0 : 0 < len := by rw [← hlen]; exact List.length_pos_iff.2 hne
      have := World.block_lt_of_cell? w (x.add 0) (hc 0 (by omega))
      simpa [Addr.add] using this
    · injection had with had; subst had
      have hjl : j < len := by rw [← hlen]; exact (List.getElem?_eq_some_iff.1 hj).1
      have hjz : j < zs.length := by omega
      rw [List.getElem?_take, if_pos hjl, List.getElem?_eq_getElem hjz] at hj
      rw [hc j hjz]
      have : zs.getD j 0 = zs[j] := by simp [List.getD, List.getElem?_eq_getElem hjz]
      rw [this]
      simpa using hj
    · have h := hw n (List.mem_of_mem_take hn)
      have e1 : IntKind.i32.min = -2147483648 := rfl
      have e2 : IntKind.i32.max = 2147483647 := rfl
      simp only [Lit.wf, Bool.and_eq_true, decide_eq_true_eq, e1, e2] at h
      exact h
end Go.Proofs.Ytdefmeffdcpcaaa
