/- wire.writtenConnect. -/
import Derived.Test.YtkeocnobninaaaaWr
namespace Go.Proofs.Ytkeocnobninaaaa
open Go.RowKit Go.Lib

set_option maxRecDepth 100000 in
set_option maxHeartbeats 4000000 in
theorem wrc_any (p : Pk) (s : Sv) (w : World) (k1 : (p.kind == 1) = true) :
    Calls Try.prog 71 #[pkV p s] w fun e w' => e = .returned (pkV (wrP p) (wrS p s)) ∧ Below w.heap.size w w' := by
  rcases e1 : p.hw with _ | _ <;> rcases e2 : p.hu with _ | _ <;> rcases e3 : p.hp with _ | _
  all_goals
    have E1 := Lib.hid e1
    have E2 := Lib.hid e2
    have E3 := Lib.hid e3
    go_enter Try.func71, Try.ntmps71
    go_wp2_with (first | ((with_reducible show wpList _ _ _ ({ dst := _, op := Op.load 24 _, type := _, pos := _, after := _, guard := _ } :: _) _ _); refine ld_wl (w.heap.size) p s (by rfl) (by rfl) _ _ (by (first | assumption | exact heap_alloc_last _ _ | (repeat (first | assumption | exact heap_alloc_last _ _ | exact heap_last2 _ _ _ | refine heap_keep ?_ | refine heap_below (by assumption) ?_)))) ?_) | ((with_reducible show wpList _ _ _ ({ dst := _, op := Op.store 28 (Operand.tmp 3) _, type := _, pos := _, after := _, guard := _ } :: _) _ _); refine st3 _ _ _ _ (by rfl) (by rfl) (by rfl) (by rfl) (by rfl) ?_) | ((with_reducible show wpList _ _ _ ({ dst := _, op := Op.store 28 (Operand.tmp 2) _, type := _, pos := _, after := _, guard := _ } :: _) _ _); refine stR (w.heap.size + 1) _ _ (by rfl) (by rfl) (by (try simp only [dr_heap]); first | exact fst3 _ _ _ _ | exact last3 _ _ _ _ | exact mid3 _ _ _ _ | exact heap_below (by assumption) (mid3 _ _ _ _) | exact heap_below (by assumption) (fst3 _ _ _ _)) (by rfl) (by rfl) (by rfl) ?_) | ((with_reducible show wpList _ _ _ ({ dst := _, op := Op.load 28 (Operand.tmp 1), type := _, pos := _, after := _, guard := _ } :: _) _ _); refine ld_pk (w.heap.size) (by rfl) (by rfl) _ _ _ (by (try simp only [dr_heap]); first | exact fst3 _ _ _ _ | exact last3 _ _ _ _ | exact mid3 _ _ _ _ | exact heap_below (by assumption) (mid3 _ _ _ _) | exact heap_below (by assumption) (fst3 _ _ _ _)) (by rfl) ?_) | ((with_reducible show wpList _ _ _ ({ dst := _, op := Op.load 28 (Operand.tmp 3), type := _, pos := _, after := _, guard := _ } :: _) _ _); refine ld_pk (w.heap.size + 1 + 1) (by rfl) (by rfl) _ _ _ (by (try simp only [dr_heap]); first | exact fst3 _ _ _ _ | exact last3 _ _ _ _ | exact mid3 _ _ _ _ | exact heap_below (by assumption) (mid3 _ _ _ _) | exact heap_below (by assumption) (fst3 _ _ _ _)) (by rfl) ?_))
    (refine bodyPost_ret (v := .agg _) (results_cell_row (by rfl) _ _ (w.heap.size + 1) 28 _ (0, 0) _ (by rfl) (setRow_heap _ _ _ _ _ _ (by (try simp only [dr_heap]); first | exact fst3 _ _ _ _ | exact last3 _ _ _ _ | exact mid3 _ _ _ _ | exact heap_below (by assumption) (mid3 _ _ _ _) | exact heap_below (by assumption) (fst3 _ _ _ _))) Try.underlying28 (by rfl) (by exact pk_sz)) (by rfl) ⟨congrArg (fun c => Ending.returned (.agg c)) ?_, ?_⟩; (· first | (simp [wrP, wrS, *]; done) | (simp [wrP, wrS, *]; rfl) | rfl); (· exact below_setRow (by (repeat (first | assumption | exact Below.refl _ _ | exact (Below.refl _ _).alloc (Nat.le_refl _) _ | (refine thn ?_ (by assumption)) | (refine alB ?_ _) | (refine dwN ?_ _) | (refine Below.drew ?_)))) (by omega) _))
end Go.Proofs.Ytkeocnobninaaaa
