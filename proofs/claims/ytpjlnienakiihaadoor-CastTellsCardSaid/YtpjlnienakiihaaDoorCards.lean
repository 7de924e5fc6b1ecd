/-
  DERIVED. GIVEN WITH THE SEED: THE CARDS: each row of YtpjlnienakiihaaDoorRows.lean that lists a variable, with what it lists TIED to the program's text (the seventh form; the later family's looks); each row that meets fmt, with fmt's text TOLD by the authors' own Lean function (tested against real Go, not proved from fmt's source: count such statements apart). THE CARD IS WHAT COUNTS. Prove the row's statement (the work); the ties are given (YtpjlnienakiihaaDoorTie.lean); close each card by the builder's one call (the guide's Derived/Test/ToyasCard.lean, 'card_holds'). Laid BY PROGRAM, IN A SANDBOX (cutbox-door.mjs). By AI agents, Wed Nov 11 2026. No macro, syntax, notation, axiom, sorry.
-/
import Derived.Test.YtpjlnienakiihaaDoorRows
import GoSem.ClaimSeven
namespace Go.Proofs.YtpjlnienakiihaaDoor
namespace Rows

/-- THE TIED CARD OF 'hubbublaw4.CastTells'. -/
def castTellsCard : Claim7 := { stood := { row := castTellsRow, standIns := [], harness := (true, "cbe4a131df848fe22551352a97dfb89cc0565795d5f5b3e7a80ff4dbe0ac905a"), looks := true }, kinds := [], alts := [], laidByText := true, laidKinds := [.data], laidTests := true, laidLooks := .later }
def CastTellsCardSaid : Prop := Claim7.holds Tryd.pinned (.plain (OpenSpec.ofChange castTellsSpec)) castTellsCard

/-- THE TIED CARD OF 'hubbublaw4.CastOthers'. -/
def castOthersCard : Claim7 := { stood := { row := castOthersRow, standIns := [], harness := (true, "cbe4a131df848fe22551352a97dfb89cc0565795d5f5b3e7a80ff4dbe0ac905a"), looks := true }, kinds := [], alts := [], laidByText := true, laidKinds := [.data], laidTests := true, laidLooks := .later }
def CastOthersCardSaid : Prop := Claim7.holds Tryd.pinned (.plain (OpenSpec.ofChange castOthersSpec)) castOthersCard

/-- THE TIED CARD OF 'hubbublaw4.CastCounts'. -/
def castCountsCard : Claim7 := { stood := { row := castCountsRow, standIns := [], harness := (true, "cbe4a131df848fe22551352a97dfb89cc0565795d5f5b3e7a80ff4dbe0ac905a"), looks := true }, kinds := [], alts := [], laidByText := true, laidKinds := [.data], laidTests := true, laidLooks := .later }
def CastCountsCardSaid : Prop := Claim7.holds Tryd.pinned (.plain (OpenSpec.ofChange castCountsSpec)) castCountsCard

/-- THE SECOND FORM's CARD OF 'hubbublaw4.CastTells'. -/
def castTellsUptoCard : Claim7 := { stood := { row := castTellsUptoRow, standIns := [], harness := (true, "cbe4a131df848fe22551352a97dfb89cc0565795d5f5b3e7a80ff4dbe0ac905a"), looks := true }, kinds := [], alts := [], laidByText := true, laidKinds := [.data], laidTests := true, laidLooks := .later }
def CastTellsUptoCardSaid : Prop := Claim7.holds Tryd.pinned (.plain (OpenSpec.upto castTellsSpec)) castTellsUptoCard

/-- THE SECOND FORM's CARD OF 'hubbublaw4.CastOthers'. -/
def castOthersUptoCard : Claim7 := { stood := { row := castOthersUptoRow, standIns := [], harness := (true, "cbe4a131df848fe22551352a97dfb89cc0565795d5f5b3e7a80ff4dbe0ac905a"), looks := true }, kinds := [], alts := [], laidByText := true, laidKinds := [.data], laidTests := true, laidLooks := .later }
def CastOthersUptoCardSaid : Prop := Claim7.holds Tryd.pinned (.plain (OpenSpec.upto castOthersSpec)) castOthersUptoCard

/-- THE SECOND FORM's CARD OF 'hubbublaw4.CastCounts'. -/
def castCountsUptoCard : Claim7 := { stood := { row := castCountsUptoRow, standIns := [], harness := (true, "cbe4a131df848fe22551352a97dfb89cc0565795d5f5b3e7a80ff4dbe0ac905a"), looks := true }, kinds := [], alts := [], laidByText := true, laidKinds := [.data], laidTests := true, laidLooks := .later }
def CastCountsUptoCardSaid : Prop := Claim7.holds Tryd.pinned (.plain (OpenSpec.upto castCountsSpec)) castCountsUptoCard
end Rows
end Go.Proofs.YtpjlnienakiihaaDoor
