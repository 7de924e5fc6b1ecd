/- The document's reading of a packet: a greeting: tools. Written by gen_dpar.py. -/
import Derived.Test.YtghcgdjpmgmaaaaDTool
namespace Go.Proofs.Ytghcgdjpmgmaaaa
open Go.RowKit Go.Lib
set_option linter.unusedVariables false
set_option linter.unusedSimpArgs false

theorem con_bits : ∀ y : Fin 256, (bits .and .i64 (y.val : Int) 2 != 0) = ((y.val : Int) / 2 % 2 == 1) ∧ (bits .and .i64 (y.val : Int) 4 != 0) = ((y.val : Int) / 4 % 2 == 1) ∧ (bits .and .i64 (y.val : Int) 128 != 0) = ((y.val : Int) / 128 % 2 == 1) ∧ (bits .and .i64 (y.val : Int) 64 != 0) = ((y.val : Int) / 64 % 2 == 1) ∧ (bits .and .i64 (y.val : Int) 32 != 0) = ((y.val : Int) / 32 % 2 == 1) ∧ bits .and .i64 ((y.val : Int) / 8) 3 = (y.val : Int) / 8 % 4 := by decide +kernel
theorem mq_iff (s : ByteArray) : (s = mqtt) ↔ s.toList = [77, 81, 84, 84] := by
  have h : eqS s mqtt = true ↔ s = mqtt := eqS_iff
  have e : mqtt.toList = [77, 81, 84, 84] := by decide +kernel
  unfold eqS at h
  rw [e, beq_iff_eq] at h
  exact h.symm
theorem PtS.le {w : World} {B r : Nat} {s : PS} (h : PtS w B r s) : s.1.length ≤ 1000000 := by
  obtain ⟨ad, c, b, k, q, e⟩ := h
  have := q.small
  rw [← e, List.length_drop]; omega
theorem PtS.frz {w : World} {B r : Nat} {s : PS} (h : PtS w B r s) : ∀ i, w.frozen? ⟨r, i, none⟩ = false := by
  obtain ⟨ad, c, b, k, q, e⟩ := h
  exact q.cells.2.2.2
theorem PtS.cell2 {w : World} {B r : Nat} {s : PS} (h : PtS w B r s) : w.cell? ⟨r, 2, none⟩ = some (.bool s.2) := by
  obtain ⟨ad, c, b, k, q, e⟩ := h
  exact q.cells.2.2.1
theorem lp_le {S S' : PS} {X : List UInt8} (e : lpD S = (X, S')) (h : S.1.length ≤ 1000000) : S'.1.length ≤ 1000000 := by have q := (lpD_sz S).2.2; rw [e] at q; exact Nat.le_trans q h
theorem lp_sz {S S' : PS} {X : List UInt8} (e : lpD S = (X, S')) (h : S.1.length ≤ 1000000) : X.length ≤ 1000000 := by have q := (lpD_sz S).2.1; rw [e] at q; exact Nat.le_trans q h
theorem nm_le {k : Nat} {S S' : PS} {x : Int} (e : nmD k S = (x, S')) (h : S.1.length ≤ 1000000) : S'.1.length ≤ 1000000 := by have q := nmD_le k S; rw [e] at q; exact Nat.le_trans q h
theorem lump_e (B r : Nat) {S S' : PS} {X : List UInt8} (e : lpD S = (X, S')) (w : World) (h : PtS w B r S) :
    Calls Try.prog 90 #[.pointer (some ⟨r, 0, none⟩)] w fun e w' => e = .returned (.string (bytesOfL X)) ∧ PtS w' B r S' ∧ RdTo r w w' := by
  have q := lump_d B r S w h
  rw [e] at q
  exact q
theorem number_e (B r k : Nat) (hk : k ≤ 2) {S S' : PS} {x : Int} (e : nmD k S = (x, S')) (w : World) (h : PtS w B r S) :
    Calls Try.prog 91 #[.pointer (some ⟨r, 0, none⟩), .int .i64 k] w fun e w' => e = .returned (.int .i64 x) ∧ PtS w' B r S' ∧ RdTo r w w' := by
  have q := number_d B r k S w h hk
  rw [e] at q
  exact q

/-- What stands behind a greeting's name. -/
def conT (hw hu hp : Bool) (S : PS) : List UInt8 × PS :=
  let a5 : List UInt8 × PS := if hw then lpD S else ([], S)
  let a6 : List UInt8 × PS := if hw then lpD a5.2 else ([], a5.2)
  let a7 : List UInt8 × PS := if hu then lpD a6.2 else ([], a6.2)
  if hp then lpD a7.2 else ([], a7.2)
end Go.Proofs.Ytghcgdjpmgmaaaa
