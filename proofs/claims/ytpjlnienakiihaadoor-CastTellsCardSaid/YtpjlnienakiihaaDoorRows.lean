/-
  NARROWER THAN 'FOR EVERY INPUT', by the rows' own cells (each row's printed sentence says how): CastTells: laid · CastOthers: laid · CastCounts: laid.
  DERIVED. THE GIVEN ROWS OF THIS SEAT. 3 by the template 'for every input the law returns true; each argument reads behind the call as it read before'; 0 by the template 'total and deterministic' (their statements: YtpjlnienakiihaaDoorTotals.lean).
  GIVEN WITH THE SEED: the statements are not yours to turn. If you find one false, say at which input.
  Laid BY PROGRAM, IN A SANDBOX (cutbox-rows.mjs): the forced cells as the released guide's own fill.sh prints them over the translation 6f365450f1e07eac… (all of the seat's roots in one cut). By AI agents, Wed Nov 11 2026. No macro, syntax, notation, axiom, sorry.
-/
import Derived.Test.YtpjlnienakiihaaDoorChecked
import GoSem.Claim
import GoSem.ClaimJoined
import GoSem.ClaimMapViews
import Derived.JoinedTies
import Derived.KernelRfl
namespace Go.Proofs.YtpjlnienakiihaaDoor
/- THE CELL 'sum', in the pinned program and in every row, IS THE sha256 OF THE DUMP (.gsa) THAT YtpjlnienakiihaaDoorProg.lean LOADS. Nothing in Lean hashes anything: it is a label: what it is worth is what the hold of that sum in a sandbox is worth. -/
noncomputable def Tryd.pinned : Pinned := { name := "ytpjlnienakiihaadoor", sum := "6f365450f1e07eac94ea424bf1d87d434dad17ad8729bf4016f8227d975e2e42", checked := Tryd.checked }
namespace Rows
def none {H : Type} : Left H := { results := [], args := [] }

/- WHAT THE LISTED PACKAGE-LEVEL VARIABLES READ AS WHEN THE CALL BEGINS. Each datum BY PROGRAM (the guide's laid-datum.mjs) off the statement by which the dump's own 'gosem.cut.vars' lays the variable. In a bare row this is a premise. The card (YtpjlnienakiihaaDoorCards.lean) ties it to the program's text. -/
def laid_hubbub_cast_names {H : Type} : DataW H := .agg [.lit (.string [103, 114, 101, 101, 116, 105, 110, 103]), .lit (.string [109, 101, 115, 115, 97, 103, 101]), .lit (.string [97, 99, 107]), .lit (.string [97, 115, 107]), .lit (.string [115, 105, 103, 110, 97, 108]), .lit (.string [110, 111, 110, 101])]

/-- 'hubbublaw4.CastTells': WHATEVER THE INPUT: true; the input reads as it did. -/
def castTellsSpec : ChangeSpec := { name := "castTells", fn := fun _ => fun
  | [d1, d2, d3, d4, d5, d6] => { results := [.lit (.bool true)], args := [d1, d2, d3, d4, d5, d6] }
  | _ => none }
def castTellsRow : OpenClaim := { program := "ytpjlnienakiihaadoor", sum := "6f365450f1e07eac94ea424bf1d87d434dad17ad8729bf4016f8227d975e2e42", func := "hubbub/hubbublaw4.CastTells", spec := "castTells", unfollowed := true, recurses := true, named := ["hubbub/cast.names"], apart := false, laid := [("hubbub/cast.names", laid_hubbub_cast_names)] }
def CastTellsSaid : Prop := castTellsRow.holds Tryd.pinned (OpenSpec.ofChange castTellsSpec)

/-- ITS FALSE NEIGHBOUR: 'it returns false'. Refute it at one input. -/
def castTellsWrong : ChangeSpec := { name := "castTells", fn := fun _ => fun
  | [d1, d2, d3, d4, d5, d6] => { results := [.lit (.bool false)], args := [d1, d2, d3, d4, d5, d6] }
  | _ => none }
def CastTellsWrongFalsely : Prop := castTellsRow.holds Tryd.pinned (OpenSpec.ofChange castTellsWrong)

/-- 'hubbublaw4.CastOthers': WHATEVER THE INPUT: true; the input reads as it did. -/
def castOthersSpec : ChangeSpec := { name := "castOthers", fn := fun _ => fun
  | [d1, d2, d3] => { results := [.lit (.bool true)], args := [d1, d2, d3] }
  | _ => none }
def castOthersRow : OpenClaim := { program := "ytpjlnienakiihaadoor", sum := "6f365450f1e07eac94ea424bf1d87d434dad17ad8729bf4016f8227d975e2e42", func := "hubbub/hubbublaw4.CastOthers", spec := "castOthers", unfollowed := true, recurses := true, named := ["hubbub/cast.names"], apart := false, laid := [("hubbub/cast.names", laid_hubbub_cast_names)] }
def CastOthersSaid : Prop := castOthersRow.holds Tryd.pinned (OpenSpec.ofChange castOthersSpec)

/-- ITS FALSE NEIGHBOUR: 'it returns false'. Refute it at one input. -/
def castOthersWrong : ChangeSpec := { name := "castOthers", fn := fun _ => fun
  | [d1, d2, d3] => { results := [.lit (.bool false)], args := [d1, d2, d3] }
  | _ => none }
def CastOthersWrongFalsely : Prop := castOthersRow.holds Tryd.pinned (OpenSpec.ofChange castOthersWrong)

/-- 'hubbublaw4.CastCounts': WHATEVER THE INPUT: true; the input reads as it did. -/
def castCountsSpec : ChangeSpec := { name := "castCounts", fn := fun _ => fun
  | [d] => { results := [.lit (.bool true)], args := [d] }
  | _ => none }
def castCountsRow : OpenClaim := { program := "ytpjlnienakiihaadoor", sum := "6f365450f1e07eac94ea424bf1d87d434dad17ad8729bf4016f8227d975e2e42", func := "hubbub/hubbublaw4.CastCounts", spec := "castCounts", unfollowed := true, recurses := true, named := ["hubbub/cast.names"], apart := false, laid := [("hubbub/cast.names", laid_hubbub_cast_names)] }
def CastCountsSaid : Prop := castCountsRow.holds Tryd.pinned (OpenSpec.ofChange castCountsSpec)

/-- ITS FALSE NEIGHBOUR: 'it returns false'. Refute it at one input. -/
def castCountsWrong : ChangeSpec := { name := "castCounts", fn := fun _ => fun
  | [d] => { results := [.lit (.bool false)], args := [d] }
  | _ => none }
def CastCountsWrongFalsely : Prop := castCountsRow.holds Tryd.pinned (OpenSpec.ofChange castCountsWrong)

/- THE SECOND FORM. 'bulk': how many values and letters a reading holds, each counted each time it is reached (what is shared counts as often as it is met; a slice's spare places count too). A statement '..UptoSaid' is the law's where the arguments, and the package variables that the reading takes, are together of bulk at most 1048576: NARROWER than '..Said'. Prove '..Said' where nothing that the law and all that it calls make is longer than what came in: it says more and counts as full. Else prove '..UptoSaid'. A law counts once. -/
mutual
def uptoBulk {H : Type} : DataW H → Nat
  | .lit (.string bytes) => bytes.length + 1
  | .lit _ => 1
  | .nil => 1
  | .ptr d => uptoBulk d + 1
  | .slice elems spare => uptoBulkAll elems + uptoBulkAll spare + 1
  | .agg parts => uptoBulkAll parts + 1
  | .iface _ d => uptoBulk d + 1
  | .map entries => uptoBulkEntries entries + 1
  | .held _ => 1
def uptoBulkAll {H : Type} : List (DataW H) → Nat
  | [] => 0
  | d :: r => uptoBulk d + uptoBulkAll r
def uptoBulkEntries {H : Type} : List (Lit × DataW H) → Nat
  | [] => 0
  | x :: r => uptoBulkEntry x + uptoBulkEntries r
def uptoBulkEntry {H : Type} : Lit × DataW H → Nat
  | (.string bytes, d) => bytes.length + uptoBulk d + 1
  | (_, d) => uptoBulk d + 1
 end
def uptoSmall : (H : Type) → List (DataW H) → Bool := fun _ ds => decide (uptoBulkAll ds ≤ 1048576)
def OpenSpec.upto (s : _root_.Go.ChangeSpec) : _root_.Go.OpenSpec := { _root_.Go.OpenSpec.ofChange s with cond := some uptoSmall }

/-- 'hubbublaw4.CastTells', WHERE WHAT IT READS IS OF BULK AT MOST 1048576: true; the input reads as it did. -/
def castTellsUptoRow : OpenClaim := { program := "ytpjlnienakiihaadoor", sum := "6f365450f1e07eac94ea424bf1d87d434dad17ad8729bf4016f8227d975e2e42", func := "hubbub/hubbublaw4.CastTells", spec := "castTells", unfollowed := true, recurses := true, named := ["hubbub/cast.names"], apart := false, laid := [("hubbub/cast.names", laid_hubbub_cast_names)], narrowed := true }
def CastTellsUptoSaid : Prop := castTellsUptoRow.holds Tryd.pinned (OpenSpec.upto castTellsSpec)

/-- 'hubbublaw4.CastOthers', WHERE WHAT IT READS IS OF BULK AT MOST 1048576: true; the input reads as it did. -/
def castOthersUptoRow : OpenClaim := { program := "ytpjlnienakiihaadoor", sum := "6f365450f1e07eac94ea424bf1d87d434dad17ad8729bf4016f8227d975e2e42", func := "hubbub/hubbublaw4.CastOthers", spec := "castOthers", unfollowed := true, recurses := true, named := ["hubbub/cast.names"], apart := false, laid := [("hubbub/cast.names", laid_hubbub_cast_names)], narrowed := true }
def CastOthersUptoSaid : Prop := castOthersUptoRow.holds Tryd.pinned (OpenSpec.upto castOthersSpec)

/-- 'hubbublaw4.CastCounts', WHERE WHAT IT READS IS OF BULK AT MOST 1048576: true; the input reads as it did. -/
def castCountsUptoRow : OpenClaim := { program := "ytpjlnienakiihaadoor", sum := "6f365450f1e07eac94ea424bf1d87d434dad17ad8729bf4016f8227d975e2e42", func := "hubbub/hubbublaw4.CastCounts", spec := "castCounts", unfollowed := true, recurses := true, named := ["hubbub/cast.names"], apart := false, laid := [("hubbub/cast.names", laid_hubbub_cast_names)], narrowed := true }
def CastCountsUptoSaid : Prop := castCountsUptoRow.holds Tryd.pinned (OpenSpec.upto castCountsSpec)

end Rows
end Go.Proofs.YtpjlnienakiihaaDoor
