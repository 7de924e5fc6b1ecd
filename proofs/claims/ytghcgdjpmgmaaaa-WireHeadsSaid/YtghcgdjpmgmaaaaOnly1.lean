/- The document's packet with just the fields that its kind writes: greetings. -/
import Derived.Test.YtghcgdjpmgmaaaaOnly3
import Derived.Test.YtghcgdjpmgmaaaaAdd3
import Derived.Deep.RegionHeld3
namespace Go.Proofs.Ytghcgdjpmgmaaaa
open Go.RowKit Go.Lib
set_option linter.unusedVariables false

set_option maxRecDepth 100000 in
set_option maxHeartbeats 8000000 in
theorem only_fff (p : Pk) (s : Sv) (w : World) (k1 : (p.kind == 1) = true) (e1 : p.hw = false) (e2 : p.hu = false) (e3 : p.hp = false) :
    Calls Try.prog 45 #[pkV p s] w fun e w' => e = .returned (pkV (onP p) (wrS p s)) ∧ Below w.heap.size w w' := by
  have ho : onP p = wrP p := by
    have hk : p.kind = 1 := by simpa using k1
    unfold onP
    rw [if_neg (by rw [hk]; decide)]
  rw [ho]
  clear ho
  go_enter Try.func45, Try.ntmps45
  go_wp2_with (first | ((with_reducible show wpList _ _ _ ({ dst := _, op := Op.store 28 (Operand.tmp 3) _, type := _, pos := _, after := _, guard := _ } :: _) _ _); refine st3 _ _ _ _ (by rfl) (by rfl) (by rfl) (by rfl) (by rfl) ?_) | ((with_reducible show wpList _ _ _ ({ dst := _, op := Op.store 28 (Operand.tmp 2) _, type := _, pos := _, after := _, guard := _ } :: _) _ _); refine stR (w.heap.size + 1) _ _ (by rfl) (by rfl) (by (try simp only [dr_heap]); first | exact fst3 _ _ _ _ | exact last3 _ _ _ _ | exact mid3 _ _ _ _ | exact heap_below (by assumption) (mid3 _ _ _ _) | exact heap_below (by assumption) (fst3 _ _ _ _)) (by rfl) (by rfl) (by rfl) ?_) | ((with_reducible show wpList _ _ _ ({ dst := _, op := Op.load 28 (Operand.tmp 1), type := _, pos := _, after := _, guard := _ } :: _) _ _); refine ld_pk (w.heap.size) (by rfl) (by rfl) _ _ _ (by (try simp only [dr_heap]); first | exact fst3 _ _ _ _ | exact last3 _ _ _ _ | exact mid3 _ _ _ _ | exact heap_below (by assumption) (mid3 _ _ _ _) | exact heap_below (by assumption) (fst3 _ _ _ _)) (by rfl) ?_) | ((with_reducible show wpList _ _ _ ({ dst := _, op := Op.load 28 (Operand.tmp 3), type := _, pos := _, after := _, guard := _ } :: _) _ _); refine ld_pk (w.heap.size + 1 + 1) (by rfl) (by rfl) _ _ _ (by (try simp only [dr_heap]); first | exact fst3 _ _ _ _ | exact last3 _ _ _ _ | exact mid3 _ _ _ _ | exact heap_below (by assumption) (mid3 _ _ _ _) | exact heap_below (by assumption) (fst3 _ _ _ _)) (by rfl) ?_))
  refine wp_region_held_drew (S := fun W => W.heap[w.heap.size]? = some (.cells (pkC p s) 28 (0, 0))) (by rfl) (fst3 _ _ _ _) ?_
  intro hS
  apply wpAnyH_take (i := 0) (v := .pointer (some ⟨w.heap.size, 7, none⟩))
  case hi => rfl
  case hs => kernel_rfl
  case hf => kernel_rfl
  case hr => kernel_rfl
  case hQ => exact fun _ _ _ h => h
  case hS => exact hS
  case hy => exact .inl ⟨by rfl, fun W _ => by simp [execOp, go_sem]⟩
  apply wpAnyH_take (i := 1) (v := .int .i64 p.level)
  case hi => rfl
  case hs => kernel_rfl
  case hf => kernel_rfl
  case hr => kernel_rfl
  case hQ => exact fun _ _ _ h => h
  case hS => exact hS
  case hy => exact .inl ⟨by rfl, fun W hW => by simp [execOp, go_sem, row_cells hW]⟩
  apply wpAnyH_take (i := 2) (v := .pointer (some ⟨w.heap.size, 8, none⟩))
  case hi => rfl
  case hs => kernel_rfl
  case hf => kernel_rfl
  case hr => kernel_rfl
  case hQ => exact fun _ _ _ h => h
  case hS => exact hS
  case hy => exact .inl ⟨by rfl, fun W _ => by simp [execOp, go_sem]⟩
  apply wpAnyH_take (i := 3) (v := .string p.cli)
  case hi => rfl
  case hs => kernel_rfl
  case hf => kernel_rfl
  case hr => kernel_rfl
  case hQ => exact fun _ _ _ h => h
  case hS => exact hS
  case hy => exact .inl ⟨by rfl, fun W hW => by simp [execOp, go_sem, row_cells hW]⟩
  apply wpAnyH_take (i := 4) (v := .pointer (some ⟨w.heap.size, 9, none⟩))
  case hi => rfl
  case hs => kernel_rfl
  case hf => kernel_rfl
  case hr => kernel_rfl
  case hQ => exact fun _ _ _ h => h
  case hS => exact hS
  case hy => exact .inl ⟨by rfl, fun W _ => by simp [execOp, go_sem]⟩
  apply wpAnyH_take (i := 5) (v := .bool p.clean)
  case hi => rfl
  case hs => kernel_rfl
  case hf => kernel_rfl
  case hr => kernel_rfl
  case hQ => exact fun _ _ _ h => h
  case hS => exact hS
  case hy => exact .inl ⟨by rfl, fun W hW => by simp [execOp, go_sem, row_cells hW]⟩
  apply wpAnyH_take (i := 6) (v := .pointer (some ⟨w.heap.size, 10, none⟩))
  case hi => rfl
  case hs => kernel_rfl
  case hf => kernel_rfl
  case hr => kernel_rfl
  case hQ => exact fun _ _ _ h => h
  case hS => exact hS
  case hy => exact .inl ⟨by rfl, fun W _ => by simp [execOp, go_sem]⟩
  apply wpAnyH_take (i := 7) (v := .int .i64 p.keep)
  case hi => rfl
  case hs => kernel_rfl
  case hf => kernel_rfl
  case hr => kernel_rfl
  case hQ => exact fun _ _ _ h => h
  case hS => exact hS
  case hy => exact .inl ⟨by rfl, fun W hW => by simp [execOp, go_sem, row_cells hW]⟩
  apply wpAnyH_take (i := 8) (v := .pointer (some ⟨w.heap.size, 11, none⟩))
  case hi => rfl
  case hs => kernel_rfl
  case hf => kernel_rfl
  case hr => kernel_rfl
  case hQ => exact fun _ _ _ h => h
  case hS => exact hS
  case hy => exact .inl ⟨by rfl, fun W _ => by simp [execOp, go_sem]⟩
  apply wpAnyH_take (i := 9) (v := .bool p.hw)
  case hi => rfl
  case hs => kernel_rfl
  case hf => kernel_rfl
  case hr => kernel_rfl
  case hQ => exact fun _ _ _ h => h
  case hS => exact hS
  case hy => exact .inl ⟨by rfl, fun W hW => by simp [execOp, go_sem, row_cells hW]⟩
  apply wpAnyH_take (i := 10) (v := .pointer (some ⟨w.heap.size, 16, none⟩))
  case hi => rfl
  case hs => kernel_rfl
  case hf => kernel_rfl
  case hr => kernel_rfl
  case hQ => exact fun _ _ _ h => h
  case hS => exact hS
  case hy => exact .inl ⟨by rfl, fun W _ => by simp [execOp, go_sem]⟩
  apply wpAnyH_take (i := 11) (v := .bool p.hu)
  case hi => rfl
  case hs => kernel_rfl
  case hf => kernel_rfl
  case hr => kernel_rfl
  case hQ => exact fun _ _ _ h => h
  case hS => exact hS
  case hy => exact .inl ⟨by rfl, fun W hW => by simp [execOp, go_sem, row_cells hW]⟩
  apply wpAnyH_take (i := 12) (v := .pointer (some ⟨w.heap.size, 17, none⟩))
  case hi => rfl
  case hs => kernel_rfl
  case hf => kernel_rfl
  case hr => kernel_rfl
  case hQ => exact fun _ _ _ h => h
  case hS => exact hS
  case hy => exact .inl ⟨by rfl, fun W _ => by simp [execOp, go_sem]⟩
  apply wpAnyH_take (i := 13) (v := .bool p.hp)
  case hi => rfl
  case hs => kernel_rfl
  case hf => kernel_rfl
  case hr => kernel_rfl
  case hQ => exact fun _ _ _ h => h
  case hS => exact hS
  case hy => exact .inl ⟨by rfl, fun W hW => by simp [execOp, go_sem, row_cells hW]⟩
  apply wpAnyH_take (i := 14) (v := .pointer (some ⟨w.heap.size + 1 + 1, 7, none⟩))
  case hi => rfl
  case hs => kernel_rfl
  case hf => kernel_rfl
  case hr => kernel_rfl
  case hQ => exact fun _ _ _ h => h
  case hS => exact hS
  case hy => exact .inl ⟨by rfl, fun W _ => by simp [execOp, go_sem]⟩
  refine wpAnyH_ready (rs := [15]) (by kernel_rfl) (by simp) (AllReadyH.cons (by rfl) ?_ AllReadyH.nil)
  intro K' hK
  rw [if_pos (by rfl)]
  go_wp2_with fail
  refine hK.out _ _ (fst3 _ _ _ _) ?_
  clear hK K' hS
  intro hS
  apply wpAnyH_take (i := 16) (v := .pointer (some ⟨w.heap.size + 1 + 1, 8, none⟩))
  case hi => rfl
  case hs => kernel_rfl
  case hf => kernel_rfl
  case hr => kernel_rfl
  case hQ => exact fun _ _ _ h => h
  case hS => exact hS
  case hy => exact .inl ⟨by rfl, fun W _ => by simp [execOp, go_sem]⟩
  refine wpAnyH_ready (rs := [17]) (by kernel_rfl) (by simp) (AllReadyH.cons (by rfl) ?_ AllReadyH.nil)
  intro K' hK
  rw [if_pos (by rfl)]
  go_wp2_with fail
  refine hK.out _ _ (fst3 _ _ _ _) ?_
  clear hK K' hS
  intro hS
  apply wpAnyH_take (i := 18) (v := .pointer (some ⟨w.heap.size + 1 + 1, 9, none⟩))
  case hi => rfl
  case hs => kernel_rfl
  case hf => kernel_rfl
  case hr => kernel_rfl
  case hQ => exact fun _ _ _ h => h
  case hS => exact hS
  case hy => exact .inl ⟨by rfl, fun W _ => by simp [execOp, go_sem]⟩
  refine wpAnyH_ready (rs := [19]) (by kernel_rfl) (by simp) (AllReadyH.cons (by rfl) ?_ AllReadyH.nil)
  intro K' hK
  rw [if_pos (by rfl)]
  go_wp2_with fail
  refine hK.out _ _ (fst3 _ _ _ _) ?_
  clear hK K' hS
  intro hS
  apply wpAnyH_take (i := 20) (v := .pointer (some ⟨w.heap.size + 1 + 1, 10, none⟩))
  case hi => rfl
  case hs => kernel_rfl
  case hf => kernel_rfl
  case hr => kernel_rfl
  case hQ => exact fun _ _ _ h => h
  case hS => exact hS
  case hy => exact .inl ⟨by rfl, fun W _ => by simp [execOp, go_sem]⟩
  refine wpAnyH_ready (rs := [21]) (by kernel_rfl) (by simp) (AllReadyH.cons (by rfl) ?_ AllReadyH.nil)
  intro K' hK
  rw [if_pos (by rfl)]
  go_wp2_with fail
  refine hK.out _ _ (fst3 _ _ _ _) ?_
  clear hK K' hS
  intro hS
  apply wpAnyH_take (i := 22) (v := .pointer (some ⟨w.heap.size + 1 + 1, 11, none⟩))
  case hi => rfl
  case hs => kernel_rfl
  case hf => kernel_rfl
  case hr => kernel_rfl
  case hQ => exact fun _ _ _ h => h
  case hS => exact hS
  case hy => exact .inl ⟨by rfl, fun W _ => by simp [execOp, go_sem]⟩
  refine wpAnyH_ready (rs := [23]) (by kernel_rfl) (by simp) (AllReadyH.cons (by rfl) ?_ AllReadyH.nil)
  intro K' hK
  rw [if_pos (by rfl)]
  go_wp2_with fail
  refine hK.out _ _ (fst3 _ _ _ _) ?_
  clear hK K' hS
  intro hS
  apply wpAnyH_take (i := 24) (v := .pointer (some ⟨w.heap.size + 1 + 1, 16, none⟩))
  case hi => rfl
  case hs => kernel_rfl
  case hf => kernel_rfl
  case hr => kernel_rfl
  case hQ => exact fun _ _ _ h => h
  case hS => exact hS
  case hy => exact .inl ⟨by rfl, fun W _ => by simp [execOp, go_sem]⟩
  refine wpAnyH_ready (rs := [25]) (by kernel_rfl) (by simp) (AllReadyH.cons (by rfl) ?_ AllReadyH.nil)
  intro K' hK
  rw [if_pos (by rfl)]
  go_wp2_with fail
  refine hK.out _ _ (fst3 _ _ _ _) ?_
  clear hK K' hS
  intro hS
  apply wpAnyH_take (i := 26) (v := .pointer (some ⟨w.heap.size + 1 + 1, 17, none⟩))
  case hi => rfl
  case hs => kernel_rfl
  case hf => kernel_rfl
  case hr => kernel_rfl
  case hQ => exact fun _ _ _ h => h
  case hS => exact hS
  case hy => exact .inl ⟨by rfl, fun W _ => by simp [execOp, go_sem]⟩
  refine wpAnyH_ready (rs := [27]) (by kernel_rfl) (by simp) (AllReadyH.cons (by rfl) ?_ AllReadyH.nil)
  intro K' hK
  rw [if_pos (by rfl)]
  go_wp2_with fail
  refine hK.out _ _ (fst3 _ _ _ _) ?_
  clear hK K' hS
  intro hS
  refine wpAnyH_done (by kernel_rfl) ?_ _
  go_wp2_with (first | ((with_reducible show wpList _ _ _ ({ dst := _, op := Op.load 24 _, type := _, pos := _, after := _, guard := _ } :: _) _ _); refine ld_wl (w.heap.size) p s (by rfl) (by rfl) _ _ (by (first | assumption | exact heap_alloc_last _ _ | (repeat (first | assumption | exact heap_alloc_last _ _ | exact heap_last2 _ _ _ | refine heap_keep ?_ | refine heap_below (by assumption) ?_)))) ?_) | ((with_reducible show wpList _ _ _ ({ dst := _, op := Op.store 28 (Operand.tmp 3) _, type := _, pos := _, after := _, guard := _ } :: _) _ _); refine st3 _ _ _ _ (by rfl) (by rfl) (by rfl) (by rfl) (by rfl) ?_) | ((with_reducible show wpList _ _ _ ({ dst := _, op := Op.store 28 (Operand.tmp 2) _, type := _, pos := _, after := _, guard := _ } :: _) _ _); refine stR (w.heap.size + 1) _ _ (by rfl) (by rfl) (by (try simp only [dr_heap]); first | exact fst3 _ _ _ _ | exact last3 _ _ _ _ | exact mid3 _ _ _ _ | exact heap_below (by assumption) (mid3 _ _ _ _) | exact heap_below (by assumption) (fst3 _ _ _ _)) (by rfl) (by rfl) (by rfl) ?_) | ((with_reducible show wpList _ _ _ ({ dst := _, op := Op.load 28 (Operand.tmp 1), type := _, pos := _, after := _, guard := _ } :: _) _ _); refine ld_pk (w.heap.size) (by rfl) (by rfl) _ _ _ (by (try simp only [dr_heap]); first | exact fst3 _ _ _ _ | exact last3 _ _ _ _ | exact mid3 _ _ _ _ | exact heap_below (by assumption) (mid3 _ _ _ _) | exact heap_below (by assumption) (fst3 _ _ _ _)) (by rfl) ?_) | ((with_reducible show wpList _ _ _ ({ dst := _, op := Op.load 28 (Operand.tmp 3), type := _, pos := _, after := _, guard := _ } :: _) _ _); refine ld_pk (w.heap.size + 1 + 1) (by rfl) (by rfl) _ _ _ (by (try simp only [dr_heap]); first | exact fst3 _ _ _ _ | exact last3 _ _ _ _ | exact mid3 _ _ _ _ | exact heap_below (by assumption) (mid3 _ _ _ _) | exact heap_below (by assumption) (fst3 _ _ _ _)) (by rfl) ?_))
  (refine bodyPost_ret (v := .agg _) (results_cell_row (by rfl) _ _ (w.heap.size + 1) 28 _ (0, 0) _ (by rfl) (setRow_heap _ _ _ _ _ _ (by (try simp only [dr_heap]); first | exact fst3 _ _ _ _ | exact last3 _ _ _ _ | exact mid3 _ _ _ _ | exact heap_below (by assumption) (mid3 _ _ _ _) | exact heap_below (by assumption) (fst3 _ _ _ _))) Try.underlying28 (by rfl) (by exact pk_sz)) (by rfl) ⟨congrArg (fun c => Ending.returned (.agg c)) ?_, ?_⟩; (· first | (simp [wrP, wrS, *]; done) | (simp [wrP, wrS, *]; rfl) | rfl); (· exact below_setRow (by (repeat (first | assumption | exact Below.refl _ _ | exact (Below.refl _ _).alloc (Nat.le_refl _) _ | (refine thn ?_ (by assumption)) | (refine alB ?_ _) | (refine dwN ?_ _) | (refine Below.drew ?_)))) (by omega) _))

set_option maxRecDepth 100000 in
set_option maxHeartbeats 8000000 in
theorem only_fft (p : Pk) (s : Sv) (w : World) (k1 : (p.kind == 1) = true) (e1 : p.hw = false) (e2 : p.hu = false) (e3 : p.hp = true) :
    Calls Try.prog 45 #[pkV p s] w fun e w' => e = .returned (pkV (onP p) (wrS p s)) ∧ Below w.heap.size w w' := by
  have ho : onP p = wrP p := by
    have hk : p.kind = 1 := by simpa using k1
    unfold onP
    rw [if_neg (by rw [hk]; decide)]
  rw [ho]
  clear ho
  go_enter Try.func45, Try.ntmps45
  go_wp2_with (first | ((with_reducible show wpList _ _ _ ({ dst := _, op := Op.store 28 (Operand.tmp 3) _, type := _, pos := _, after := _, guard := _ } :: _) _ _); refine st3 _ _ _ _ (by rfl) (by rfl) (by rfl) (by rfl) (by rfl) ?_) | ((with_reducible show wpList _ _ _ ({ dst := _, op := Op.store 28 (Operand.tmp 2) _, type := _, pos := _, after := _, guard := _ } :: _) _ _); refine stR (w.heap.size + 1) _ _ (by rfl) (by rfl) (by (try simp only [dr_heap]); first | exact fst3 _ _ _ _ | exact last3 _ _ _ _ | exact mid3 _ _ _ _ | exact heap_below (by assumption) (mid3 _ _ _ _) | exact heap_below (by assumption) (fst3 _ _ _ _)) (by rfl) (by rfl) (by rfl) ?_) | ((with_reducible show wpList _ _ _ ({ dst := _, op := Op.load 28 (Operand.tmp 1), type := _, pos := _, after := _, guard := _ } :: _) _ _); refine ld_pk (w.heap.size) (by rfl) (by rfl) _ _ _ (by (try simp only [dr_heap]); first | exact fst3 _ _ _ _ | exact last3 _ _ _ _ | exact mid3 _ _ _ _ | exact heap_below (by assumption) (mid3 _ _ _ _) | exact heap_below (by assumption) (fst3 _ _ _ _)) (by rfl) ?_) | ((with_reducible show wpList _ _ _ ({ dst := _, op := Op.load 28 (Operand.tmp 3), type := _, pos := _, after := _, guard := _ } :: _) _ _); refine ld_pk (w.heap.size + 1 + 1) (by rfl) (by rfl) _ _ _ (by (try simp only [dr_heap]); first | exact fst3 _ _ _ _ | exact last3 _ _ _ _ | exact mid3 _ _ _ _ | exact heap_below (by assumption) (mid3 _ _ _ _) | exact heap_below (by assumption) (fst3 _ _ _ _)) (by rfl) ?_))
  refine wp_region_held_drew (S := fun W => W.heap[w.heap.size]? = some (.cells (pkC p s) 28 (0, 0))) (by rfl) (fst3 _ _ _ _) ?_
  intro hS
  apply wpAnyH_take (i := 0) (v := .pointer (some ⟨w.heap.size, 7, none⟩))
  case hi => rfl
  case hs => kernel_rfl
  case hf => kernel_rfl
  case hr => kernel_rfl
  case hQ => exact fun _ _ _ h => h
  case hS => exact hS
  case hy => exact .inl ⟨by rfl, fun W _ => by simp [execOp, go_sem]⟩
  apply wpAnyH_take (i := 1) (v := .int .i64 p.level)
  case hi => rfl
  case hs => kernel_rfl
  case hf => kernel_rfl
  case hr => kernel_rfl
  case hQ => exact fun _ _ _ h => h
  case hS => exact hS
  case hy => exact .inl ⟨by rfl, fun W hW => by simp [execOp, go_sem, row_cells hW]⟩
  apply wpAnyH_take (i := 2) (v := .pointer (some ⟨w.heap.size, 8, none⟩))
  case hi => rfl
  case hs => kernel_rfl
  case hf => kernel_rfl
  case hr => kernel_rfl
  case hQ => exact fun _ _ _ h => h
  case hS => exact hS
  case hy => exact .inl ⟨by rfl, fun W _ => by simp [execOp, go_sem]⟩
  apply wpAnyH_take (i := 3) (v := .string p.cli)
  case hi => rfl
  case hs => kernel_rfl
  case hf => kernel_rfl
  case hr => kernel_rfl
  case hQ => exact fun _ _ _ h => h
  case hS => exact hS
  case hy => exact .inl ⟨by rfl, fun W hW => by simp [execOp, go_sem, row_cells hW]⟩
  apply wpAnyH_take (i := 4) (v := .pointer (some ⟨w.heap.size, 9, none⟩))
  case hi => rfl
  case hs => kernel_rfl
  case hf => kernel_rfl
  case hr => kernel_rfl
  case hQ => exact fun _ _ _ h => h
  case hS => exact hS
  case hy => exact .inl ⟨by rfl, fun W _ => by simp [execOp, go_sem]⟩
  apply wpAnyH_take (i := 5) (v := .bool p.clean)
  case hi => rfl
  case hs => kernel_rfl
  case hf => kernel_rfl
  case hr => kernel_rfl
  case hQ => exact fun _ _ _ h => h
  case hS => exact hS
  case hy => exact .inl ⟨by rfl, fun W hW => by simp [execOp, go_sem, row_cells hW]⟩
  apply wpAnyH_take (i := 6) (v := .pointer (some ⟨w.heap.size, 10, none⟩))
  case hi => rfl
  case hs => kernel_rfl
  case hf => kernel_rfl
  case hr => kernel_rfl
  case hQ => exact fun _ _ _ h => h
  case hS => exact hS
  case hy => exact .inl ⟨by rfl, fun W _ => by simp [execOp, go_sem]⟩
  apply wpAnyH_take (i := 7) (v := .int .i64 p.keep)
  case hi => rfl
  case hs => kernel_rfl
  case hf => kernel_rfl
  case hr => kernel_rfl
  case hQ => exact fun _ _ _ h => h
  case hS => exact hS
  case hy => exact .inl ⟨by rfl, fun W hW => by simp [execOp, go_sem, row_cells hW]⟩
  apply wpAnyH_take (i := 8) (v := .pointer (some ⟨w.heap.size, 11, none⟩))
  case hi => rfl
  case hs => kernel_rfl
  case hf => kernel_rfl
  case hr => kernel_rfl
  case hQ => exact fun _ _ _ h => h
  case hS => exact hS
  case hy => exact .inl ⟨by rfl, fun W _ => by simp [execOp, go_sem]⟩
  apply wpAnyH_take (i := 9) (v := .bool p.hw)
  case hi => rfl
  case hs => kernel_rfl
  case hf => kernel_rfl
  case hr => kernel_rfl
  case hQ => exact fun _ _ _ h => h
  case hS => exact hS
  case hy => exact .inl ⟨by rfl, fun W hW => by simp [execOp, go_sem, row_cells hW]⟩
  apply wpAnyH_take (i := 10) (v := .pointer (some ⟨w.heap.size, 16, none⟩))
  case hi => rfl
  case hs => kernel_rfl
  case hf => kernel_rfl
  case hr => kernel_rfl
  case hQ => exact fun _ _ _ h => h
  case hS => exact hS
  case hy => exact .inl ⟨by rfl, fun W _ => by simp [execOp, go_sem]⟩
  apply wpAnyH_take (i := 11) (v := .bool p.hu)
  case hi => rfl
  case hs => kernel_rfl
  case hf => kernel_rfl
  case hr => kernel_rfl
  case hQ => exact fun _ _ _ h => h
  case hS => exact hS
  case hy => exact .inl ⟨by rfl, fun W hW => by simp [execOp, go_sem, row_cells hW]⟩
  apply wpAnyH_take (i := 12) (v := .pointer (some ⟨w.heap.size, 17, none⟩))
  case hi => rfl
  case hs => kernel_rfl
  case hf => kernel_rfl
  case hr => kernel_rfl
  case hQ => exact fun _ _ _ h => h
  case hS => exact hS
  case hy => exact .inl ⟨by rfl, fun W _ => by simp [execOp, go_sem]⟩
  apply wpAnyH_take (i := 13) (v := .bool p.hp)
  case hi => rfl
  case hs => kernel_rfl
  case hf => kernel_rfl
  case hr => kernel_rfl
  case hQ => exact fun _ _ _ h => h
  case hS => exact hS
  case hy => exact .inl ⟨by rfl, fun W hW => by simp [execOp, go_sem, row_cells hW]⟩
  apply wpAnyH_take (i := 14) (v := .pointer (some ⟨w.heap.size + 1 + 1, 7, none⟩))
  case hi => rfl
  case hs => kernel_rfl
  case hf => kernel_rfl
  case hr => kernel_rfl
  case hQ => exact fun _ _ _ h => h
  case hS => exact hS
  case hy => exact .inl ⟨by rfl, fun W _ => by simp [execOp, go_sem]⟩
  refine wpAnyH_ready (rs := [15]) (by kernel_rfl) (by simp) (AllReadyH.cons (by rfl) ?_ AllReadyH.nil)
  intro K' hK
  rw [if_pos (by rfl)]
  go_wp2_with fail
  refine hK.out _ _ (fst3 _ _ _ _) ?_
  clear hK K' hS
  intro hS
  apply wpAnyH_take (i := 16) (v := .pointer (some ⟨w.heap.size + 1 + 1, 8, none⟩))
  case hi => rfl
  case hs => kernel_rfl
  case hf => kernel_rfl
  case hr => kernel_rfl
  case hQ => exact fun _ _ _ h => h
  case hS => exact hS
  case hy => exact .inl ⟨by rfl, fun W _ => by simp [execOp, go_sem]⟩
  refine wpAnyH_ready (rs := [17]) (by kernel_rfl) (by simp) (AllReadyH.cons (by rfl) ?_ AllReadyH.nil)
  intro K' hK
  rw [if_pos (by rfl)]
  go_wp2_with fail
  refine hK.out _ _ (fst3 _ _ _ _) ?_
  clear hK K' hS
  intro hS
  apply wpAnyH_take (i := 18) (v := .pointer (some ⟨w.heap.size + 1 + 1, 9, none⟩))
  case hi => rfl
  case hs => kernel_rfl
  case hf => kernel_rfl
  case hr => kernel_rfl
  case hQ => exact fun _ _ _ h => h
  case hS => exact hS
  case hy => exact .inl ⟨by rfl, fun W _ => by simp [execOp, go_sem]⟩
  refine wpAnyH_ready (rs := [19]) (by kernel_rfl) (by simp) (AllReadyH.cons (by rfl) ?_ AllReadyH.nil)
  intro K' hK
  rw [if_pos (by rfl)]
  go_wp2_with fail
  refine hK.out _ _ (fst3 _ _ _ _) ?_
  clear hK K' hS
  intro hS
  apply wpAnyH_take (i := 20) (v := .pointer (some ⟨w.heap.size + 1 + 1, 10, none⟩))
  case hi => rfl
  case hs => kernel_rfl
  case hf => kernel_rfl
  case hr => kernel_rfl
  case hQ => exact fun _ _ _ h => h
  case hS => exact hS
  case hy => exact .inl ⟨by rfl, fun W _ => by simp [execOp, go_sem]⟩
  refine wpAnyH_ready (rs := [21]) (by kernel_rfl) (by simp) (AllReadyH.cons (by rfl) ?_ AllReadyH.nil)
  intro K' hK
  rw [if_pos (by rfl)]
  go_wp2_with fail
  refine hK.out _ _ (fst3 _ _ _ _) ?_
  clear hK K' hS
  intro hS
  apply wpAnyH_take (i := 22) (v := .pointer (some ⟨w.heap.size + 1 + 1, 11, none⟩))
  case hi => rfl
  case hs => kernel_rfl
  case hf => kernel_rfl
  case hr => kernel_rfl
  case hQ => exact fun _ _ _ h => h
  case hS => exact hS
  case hy => exact .inl ⟨by rfl, fun W _ => by simp [execOp, go_sem]⟩
  refine wpAnyH_ready (rs := [23]) (by kernel_rfl) (by simp) (AllReadyH.cons (by rfl) ?_ AllReadyH.nil)
  intro K' hK
  rw [if_pos (by rfl)]
  go_wp2_with fail
  refine hK.out _ _ (fst3 _ _ _ _) ?_
  clear hK K' hS
  intro hS
  apply wpAnyH_take (i := 24) (v := .pointer (some ⟨w.heap.size + 1 + 1, 16, none⟩))
  case hi => rfl
  case hs => kernel_rfl
  case hf => kernel_rfl
  case hr => kernel_rfl
  case hQ => exact fun _ _ _ h => h
  case hS => exact hS
  case hy => exact .inl ⟨by rfl, fun W _ => by simp [execOp, go_sem]⟩
  refine wpAnyH_ready (rs := [25]) (by kernel_rfl) (by simp) (AllReadyH.cons (by rfl) ?_ AllReadyH.nil)
  intro K' hK
  rw [if_pos (by rfl)]
  go_wp2_with fail
  refine hK.out _ _ (fst3 _ _ _ _) ?_
  clear hK K' hS
  intro hS
  apply wpAnyH_take (i := 26) (v := .pointer (some ⟨w.heap.size + 1 + 1, 17, none⟩))
  case hi => rfl
  case hs => kernel_rfl
  case hf => kernel_rfl
  case hr => kernel_rfl
  case hQ => exact fun _ _ _ h => h
  case hS => exact hS
  case hy => exact .inl ⟨by rfl, fun W _ => by simp [execOp, go_sem]⟩
  refine wpAnyH_ready (rs := [27]) (by kernel_rfl) (by simp) (AllReadyH.cons (by rfl) ?_ AllReadyH.nil)
  intro K' hK
  rw [if_pos (by rfl)]
  go_wp2_with fail
  refine hK.out _ _ (fst3 _ _ _ _) ?_
  clear hK K' hS
  intro hS
  refine wpAnyH_done (by kernel_rfl) ?_ _
  go_wp2_with (first | ((with_reducible show wpList _ _ _ ({ dst := _, op := Op.load 24 _, type := _, pos := _, after := _, guard := _ } :: _) _ _); refine ld_wl (w.heap.size) p s (by rfl) (by rfl) _ _ (by (first | assumption | exact heap_alloc_last _ _ | (repeat (first | assumption | exact heap_alloc_last _ _ | exact heap_last2 _ _ _ | refine heap_keep ?_ | refine heap_below (by assumption) ?_)))) ?_) | ((with_reducible show wpList _ _ _ ({ dst := _, op := Op.store 28 (Operand.tmp 3) _, type := _, pos := _, after := _, guard := _ } :: _) _ _); refine st3 _ _ _ _ (by rfl) (by rfl) (by rfl) (by rfl) (by rfl) ?_) | ((with_reducible show wpList _ _ _ ({ dst := _, op := Op.store 28 (Operand.tmp 2) _, type := _, pos := _, after := _, guard := _ } :: _) _ _); refine stR (w.heap.size + 1) _ _ (by rfl) (by rfl) (by (try simp only [dr_heap]); first | exact fst3 _ _ _ _ | exact last3 _ _ _ _ | exact mid3 _ _ _ _ | exact heap_below (by assumption) (mid3 _ _ _ _) | exact heap_below (by assumption) (fst3 _ _ _ _)) (by rfl) (by rfl) (by rfl) ?_) | ((with_reducible show wpList _ _ _ ({ dst := _, op := Op.load 28 (Operand.tmp 1), type := _, pos := _, after := _, guard := _ } :: _) _ _); refine ld_pk (w.heap.size) (by rfl) (by rfl) _ _ _ (by (try simp only [dr_heap]); first | exact fst3 _ _ _ _ | exact last3 _ _ _ _ | exact mid3 _ _ _ _ | exact heap_below (by assumption) (mid3 _ _ _ _) | exact heap_below (by assumption) (fst3 _ _ _ _)) (by rfl) ?_) | ((with_reducible show wpList _ _ _ ({ dst := _, op := Op.load 28 (Operand.tmp 3), type := _, pos := _, after := _, guard := _ } :: _) _ _); refine ld_pk (w.heap.size + 1 + 1) (by rfl) (by rfl) _ _ _ (by (try simp only [dr_heap]); first | exact fst3 _ _ _ _ | exact last3 _ _ _ _ | exact mid3 _ _ _ _ | exact heap_below (by assumption) (mid3 _ _ _ _) | exact heap_below (by assumption) (fst3 _ _ _ _)) (by rfl) ?_))
  (refine bodyPost_ret (v := .agg _) (results_cell_row (by rfl) _ _ (w.heap.size + 1) 28 _ (0, 0) _ (by rfl) (setRow_heap _ _ _ _ _ _ (by (try simp only [dr_heap]); first | exact fst3 _ _ _ _ | exact last3 _ _ _ _ | exact mid3 _ _ _ _ | exact heap_below (by assumption) (mid3 _ _ _ _) | exact heap_below (by assumption) (fst3 _ _ _ _))) Try.underlying28 (by rfl) (by exact pk_sz)) (by rfl) ⟨congrArg (fun c => Ending.returned (.agg c)) ?_, ?_⟩; (· first | (simp [wrP, wrS, *]; done) | (simp [wrP, wrS, *]; rfl) | rfl); (· exact below_setRow (by (repeat (first | assumption | exact Below.refl _ _ | exact (Below.refl _ _).alloc (Nat.le_refl _) _ | (refine thn ?_ (by assumption)) | (refine alB ?_ _) | (refine dwN ?_ _) | (refine Below.drew ?_)))) (by omega) _))

set_option maxRecDepth 100000 in
set_option maxHeartbeats 8000000 in
theorem only_ftf (p : Pk) (s : Sv) (w : World) (k1 : (p.kind == 1) = true) (e1 : p.hw = false) (e2 : p.hu = true) (e3 : p.hp = false) :
    Calls Try.prog 45 #[pkV p s] w fun e w' => e = .returned (pkV (onP p) (wrS p s)) ∧ Below w.heap.size w w' := by
  have ho : onP p = wrP p := by
    have hk : p.kind = 1 := by simpa using k1
    unfold onP
    rw [if_neg (by rw [hk]; decide)]
  rw [ho]
  clear ho
  go_enter Try.func45, Try.ntmps45
  go_wp2_with (first | ((with_reducible show wpList _ _ _ ({ dst := _, op := Op.store 28 (Operand.tmp 3) _, type := _, pos := _, after := _, guard := _ } :: _) _ _); refine st3 _ _ _ _ (by rfl) (by rfl) (by rfl) (by rfl) (by rfl) ?_) | ((with_reducible show wpList _ _ _ ({ dst := _, op := Op.store 28 (Operand.tmp 2) _, type := _, pos := _, after := _, guard := _ } :: _) _ _); refine stR (w.heap.size + 1) _ _ (by rfl) (by rfl) (by (try simp only [dr_heap]); first | exact fst3 _ _ _ _ | exact last3 _ _ _ _ | exact mid3 _ _ _ _ | exact heap_below (by assumption) (mid3 _ _ _ _) | exact heap_below (by assumption) (fst3 _ _ _ _)) (by rfl) (by rfl) (by rfl) ?_) | ((with_reducible show wpList _ _ _ ({ dst := _, op := Op.load 28 (Operand.tmp 1), type := _, pos := _, after := _, guard := _ } :: _) _ _); refine ld_pk (w.heap.size) (by rfl) (by rfl) _ _ _ (by (try simp only [dr_heap]); first | exact fst3 _ _ _ _ | exact last3 _ _ _ _ | exact mid3 _ _ _ _ | exact heap_below (by assumption) (mid3 _ _ _ _) | exact heap_below (by assumption) (fst3 _ _ _ _)) (by rfl) ?_) | ((with_reducible show wpList _ _ _ ({ dst := _, op := Op.load 28 (Operand.tmp 3), type := _, pos := _, after := _, guard := _ } :: _) _ _); refine ld_pk (w.heap.size + 1 + 1) (by rfl) (by rfl) _ _ _ (by (try simp only [dr_heap]); first | exact fst3 _ _ _ _ | exact last3 _ _ _ _ | exact mid3 _ _ _ _ | exact heap_below (by assumption) (mid3 _ _ _ _) | exact heap_below (by assumption) (fst3 _ _ _ _)) (by rfl) ?_))
  refine wp_region_held_drew (S := fun W => W.heap[w.heap.size]? = some (.cells (pkC p s) 28 (0, 0))) (by rfl) (fst3 _ _ _ _) ?_
  intro hS
  apply wpAnyH_take (i := 0) (v := .pointer (some ⟨w.heap.size, 7, none⟩))
  case hi => rfl
  case hs => kernel_rfl
  case hf => kernel_rfl
  case hr => kernel_rfl
  case hQ => exact fun _ _ _ h => h
  case hS => exact hS
  case hy => exact .inl ⟨by rfl, fun W _ => by simp [execOp, go_sem]⟩
  apply wpAnyH_take (i := 1) (v := .int .i64 p.level)
  case hi => rfl
  case hs => kernel_rfl
  case hf => kernel_rfl
  case hr => kernel_rfl
  case hQ => exact fun _ _ _ h => h
  case hS => exact hS
  case hy => exact .inl ⟨by rfl, fun W hW => by simp [execOp, go_sem, row_cells hW]⟩
  apply wpAnyH_take (i := 2) (v := .pointer (some ⟨w.heap.size, 8, none⟩))
  case hi => rfl
  case hs => kernel_rfl
  case hf => kernel_rfl
  case hr => kernel_rfl
  case hQ => exact fun _ _ _ h => h
  case hS => exact hS
  case hy => exact .inl ⟨by rfl, fun W _ => by simp [execOp, go_sem]⟩
  apply wpAnyH_take (i := 3) (v := .string p.cli)
  case hi => rfl
  case hs => kernel_rfl
  case hf => kernel_rfl
  case hr => kernel_rfl
  case hQ => exact fun _ _ _ h => h
  case hS => exact hS
  case hy => exact .inl ⟨by rfl, fun W hW => by simp [execOp, go_sem, row_cells hW]⟩
  apply wpAnyH_take (i := 4) (v := .pointer (some ⟨w.heap.size, 9, none⟩))
  case hi => rfl
  case hs => kernel_rfl
  case hf => kernel_rfl
  case hr => kernel_rfl
  case hQ => exact fun _ _ _ h => h
  case hS => exact hS
  case hy => exact .inl ⟨by rfl, fun W _ => by simp [execOp, go_sem]⟩
  apply wpAnyH_take (i := 5) (v := .bool p.clean)
  case hi => rfl
  case hs => kernel_rfl
  case hf => kernel_rfl
  case hr => kernel_rfl
  case hQ => exact fun _ _ _ h => h
  case hS => exact hS
  case hy => exact .inl ⟨by rfl, fun W hW => by simp [execOp, go_sem, row_cells hW]⟩
  apply wpAnyH_take (i := 6) (v := .pointer (some ⟨w.heap.size, 10, none⟩))
  case hi => rfl
  case hs => kernel_rfl
  case hf => kernel_rfl
  case hr => kernel_rfl
  case hQ => exact fun _ _ _ h => h
  case hS => exact hS
  case hy => exact .inl ⟨by rfl, fun W _ => by simp [execOp, go_sem]⟩
  apply wpAnyH_take (i := 7) (v := .int .i64 p.keep)
  case hi => rfl
  case hs => kernel_rfl
  case hf => kernel_rfl
  case hr => kernel_rfl
  case hQ => exact fun _ _ _ h => h
  case hS => exact hS
  case hy => exact .inl ⟨by rfl, fun W hW => by simp [execOp, go_sem, row_cells hW]⟩
  apply wpAnyH_take (i := 8) (v := .pointer (some ⟨w.heap.size, 11, none⟩))
  case hi => rfl
  case hs => kernel_rfl
  case hf => kernel_rfl
  case hr => kernel_rfl
  case hQ => exact fun _ _ _ h => h
  case hS => exact hS
  case hy => exact .inl ⟨by rfl, fun W _ => by simp [execOp, go_sem]⟩
  apply wpAnyH_take (i := 9) (v := .bool p.hw)
  case hi => rfl
  case hs => kernel_rfl
  case hf => kernel_rfl
  case hr => kernel_rfl
  case hQ => exact fun _ _ _ h => h
  case hS => exact hS
  case hy => exact .inl ⟨by rfl, fun W hW => by simp [execOp, go_sem, row_cells hW]⟩
  apply wpAnyH_take (i := 10) (v := .pointer (some ⟨w.heap.size, 16, none⟩))
  case hi => rfl
  case hs => kernel_rfl
  case hf => kernel_rfl
  case hr => kernel_rfl
  case hQ => exact fun _ _ _ h => h
  case hS => exact hS
  case hy => exact .inl ⟨by rfl, fun W _ => by simp [execOp, go_sem]⟩
  apply wpAnyH_take (i := 11) (v := .bool p.hu)
  case hi => rfl
  case hs => kernel_rfl
  case hf => kernel_rfl
  case hr => kernel_rfl
  case hQ => exact fun _ _ _ h => h
  case hS => exact hS
  case hy => exact .inl ⟨by rfl, fun W hW => by simp [execOp, go_sem, row_cells hW]⟩
  apply wpAnyH_take (i := 12) (v := .pointer (some ⟨w.heap.size, 17, none⟩))
  case hi => rfl
  case hs => kernel_rfl
  case hf => kernel_rfl
  case hr => kernel_rfl
  case hQ => exact fun _ _ _ h => h
  case hS => exact hS
  case hy => exact .inl ⟨by rfl, fun W _ => by simp [execOp, go_sem]⟩
  apply wpAnyH_take (i := 13) (v := .bool p.hp)
  case hi => rfl
  case hs => kernel_rfl
  case hf => kernel_rfl
  case hr => kernel_rfl
  case hQ => exact fun _ _ _ h => h
  case hS => exact hS
  case hy => exact .inl ⟨by rfl, fun W hW => by simp [execOp, go_sem, row_cells hW]⟩
  apply wpAnyH_take (i := 14) (v := .pointer (some ⟨w.heap.size + 1 + 1, 7, none⟩))
  case hi => rfl
  case hs => kernel_rfl
  case hf => kernel_rfl
  case hr => kernel_rfl
  case hQ => exact fun _ _ _ h => h
  case hS => exact hS
  case hy => exact .inl ⟨by rfl, fun W _ => by simp [execOp, go_sem]⟩
  refine wpAnyH_ready (rs := [15]) (by kernel_rfl) (by simp) (AllReadyH.cons (by rfl) ?_ AllReadyH.nil)
  intro K' hK
  rw [if_pos (by rfl)]
  go_wp2_with fail
  refine hK.out _ _ (fst3 _ _ _ _) ?_
  clear hK K' hS
  intro hS
  apply wpAnyH_take (i := 16) (v := .pointer (some ⟨w.heap.size + 1 + 1, 8, none⟩))
  case hi => rfl
  case hs => kernel_rfl
  case hf => kernel_rfl
  case hr => kernel_rfl
  case hQ => exact fun _ _ _ h => h
  case hS => exact hS
  case hy => exact .inl ⟨by rfl, fun W _ => by simp [execOp, go_sem]⟩
  refine wpAnyH_ready (rs := [17]) (by kernel_rfl) (by simp) (AllReadyH.cons (by rfl) ?_ AllReadyH.nil)
  intro K' hK
  rw [if_pos (by rfl)]
  go_wp2_with fail
  refine hK.out _ _ (fst3 _ _ _ _) ?_
  clear hK K' hS
  intro hS
  apply wpAnyH_take (i := 18) (v := .pointer (some ⟨w.heap.size + 1 + 1, 9, none⟩))
  case hi => rfl
  case hs => kernel_rfl
  case hf => kernel_rfl
  case hr => kernel_rfl
  case hQ => exact fun _ _ _ h => h
  case hS => exact hS
  case hy => exact .inl ⟨by rfl, fun W _ => by simp [execOp, go_sem]⟩
  refine wpAnyH_ready (rs := [19]) (by kernel_rfl) (by simp) (AllReadyH.cons (by rfl) ?_ AllReadyH.nil)
  intro K' hK
  rw [if_pos (by rfl)]
  go_wp2_with fail
  refine hK.out _ _ (fst3 _ _ _ _) ?_
  clear hK K' hS
  intro hS
  apply wpAnyH_take (i := 20) (v := .pointer (some ⟨w.heap.size + 1 + 1, 10, none⟩))
  case hi => rfl
  case hs => kernel_rfl
  case hf => kernel_rfl
  case hr => kernel_rfl
  case hQ => exact fun _ _ _ h => h
  case hS => exact hS
  case hy => exact .inl ⟨by rfl, fun W _ => by simp [execOp, go_sem]⟩
  refine wpAnyH_ready (rs := [21]) (by kernel_rfl) (by simp) (AllReadyH.cons (by rfl) ?_ AllReadyH.nil)
  intro K' hK
  rw [if_pos (by rfl)]
  go_wp2_with fail
  refine hK.out _ _ (fst3 _ _ _ _) ?_
  clear hK K' hS
  intro hS
  apply wpAnyH_take (i := 22) (v := .pointer (some ⟨w.heap.size + 1 + 1, 11, none⟩))
  case hi => rfl
  case hs => kernel_rfl
  case hf => kernel_rfl
  case hr => kernel_rfl
  case hQ => exact fun _ _ _ h => h
  case hS => exact hS
  case hy => exact .inl ⟨by rfl, fun W _ => by simp [execOp, go_sem]⟩
  refine wpAnyH_ready (rs := [23]) (by kernel_rfl) (by simp) (AllReadyH.cons (by rfl) ?_ AllReadyH.nil)
  intro K' hK
  rw [if_pos (by rfl)]
  go_wp2_with fail
  refine hK.out _ _ (fst3 _ _ _ _) ?_
  clear hK K' hS
  intro hS
  apply wpAnyH_take (i := 24) (v := .pointer (some ⟨w.heap.size + 1 + 1, 16, none⟩))
  case hi => rfl
  case hs => kernel_rfl
  case hf => kernel_rfl
  case hr => kernel_rfl
  case hQ => exact fun _ _ _ h => h
  case hS => exact hS
  case hy => exact .inl ⟨by rfl, fun W _ => by simp [execOp, go_sem]⟩
  refine wpAnyH_ready (rs := [25]) (by kernel_rfl) (by simp) (AllReadyH.cons (by rfl) ?_ AllReadyH.nil)
  intro K' hK
  rw [if_pos (by rfl)]
  go_wp2_with fail
  refine hK.out _ _ (fst3 _ _ _ _) ?_
  clear hK K' hS
  intro hS
  apply wpAnyH_take (i := 26) (v := .pointer (some ⟨w.heap.size + 1 + 1, 17, none⟩))
  case hi => rfl
  case hs => kernel_rfl
  case hf => kernel_rfl
  case hr => kernel_rfl
  case hQ => exact fun _ _ _ h => h
  case hS => exact hS
  case hy => exact .inl ⟨by rfl, fun W _ => by simp [execOp, go_sem]⟩
  refine wpAnyH_ready (rs := [27]) (by kernel_rfl) (by simp) (AllReadyH.cons (by rfl) ?_ AllReadyH.nil)
  intro K' hK
  rw [if_pos (by rfl)]
  go_wp2_with fail
  refine hK.out _ _ (fst3 _ _ _ _) ?_
  clear hK K' hS
  intro hS
  refine wpAnyH_done (by kernel_rfl) ?_ _
  go_wp2_with (first | ((with_reducible show wpList _ _ _ ({ dst := _, op := Op.load 24 _, type := _, pos := _, after := _, guard := _ } :: _) _ _); refine ld_wl (w.heap.size) p s (by rfl) (by rfl) _ _ (by (first | assumption | exact heap_alloc_last _ _ | (repeat (first | assumption | exact heap_alloc_last _ _ | exact heap_last2 _ _ _ | refine heap_keep ?_ | refine heap_below (by assumption) ?_)))) ?_) | ((with_reducible show wpList _ _ _ ({ dst := _, op := Op.store 28 (Operand.tmp 3) _, type := _, pos := _, after := _, guard := _ } :: _) _ _); refine st3 _ _ _ _ (by rfl) (by rfl) (by rfl) (by rfl) (by rfl) ?_) | ((with_reducible show wpList _ _ _ ({ dst := _, op := Op.store 28 (Operand.tmp 2) _, type := _, pos := _, after := _, guard := _ } :: _) _ _); refine stR (w.heap.size + 1) _ _ (by rfl) (by rfl) (by (try simp only [dr_heap]); first | exact fst3 _ _ _ _ | exact last3 _ _ _ _ | exact mid3 _ _ _ _ | exact heap_below (by assumption) (mid3 _ _ _ _) | exact heap_below (by assumption) (fst3 _ _ _ _)) (by rfl) (by rfl) (by rfl) ?_) | ((with_reducible show wpList _ _ _ ({ dst := _, op := Op.load 28 (Operand.tmp 1), type := _, pos := _, after := _, guard := _ } :: _) _ _); refine ld_pk (w.heap.size) (by rfl) (by rfl) _ _ _ (by (try simp only [dr_heap]); first | exact fst3 _ _ _ _ | exact last3 _ _ _ _ | exact mid3 _ _ _ _ | exact heap_below (by assumption) (mid3 _ _ _ _) | exact heap_below (by assumption) (fst3 _ _ _ _)) (by rfl) ?_) | ((with_reducible show wpList _ _ _ ({ dst := _, op := Op.load 28 (Operand.tmp 3), type := _, pos := _, after := _, guard := _ } :: _) _ _); refine ld_pk (w.heap.size + 1 + 1) (by rfl) (by rfl) _ _ _ (by (try simp only [dr_heap]); first | exact fst3 _ _ _ _ | exact last3 _ _ _ _ | exact mid3 _ _ _ _ | exact heap_below (by assumption) (mid3 _ _ _ _) | exact heap_below (by assumption) (fst3 _ _ _ _)) (by rfl) ?_))
  (refine bodyPost_ret (v := .agg _) (results_cell_row (by rfl) _ _ (w.heap.size + 1) 28 _ (0, 0) _ (by rfl) (setRow_heap _ _ _ _ _ _ (by (try simp only [dr_heap]); first | exact fst3 _ _ _ _ | exact last3 _ _ _ _ | exact mid3 _ _ _ _ | exact heap_below (by assumption) (mid3 _ _ _ _) | exact heap_below (by assumption) (fst3 _ _ _ _))) Try.underlying28 (by rfl) (by exact pk_sz)) (by rfl) ⟨congrArg (fun c => Ending.returned (.agg c)) ?_, ?_⟩; (· first | (simp [wrP, wrS, *]; done) | (simp [wrP, wrS, *]; rfl) | rfl); (· exact below_setRow (by (repeat (first | assumption | exact Below.refl _ _ | exact (Below.refl _ _).alloc (Nat.le_refl _) _ | (refine thn ?_ (by assumption)) | (refine alB ?_ _) | (refine dwN ?_ _) | (refine Below.drew ?_)))) (by omega) _))

set_option maxRecDepth 100000 in
set_option maxHeartbeats 8000000 in
theorem only_ftt (p : Pk) (s : Sv) (w : World) (k1 : (p.kind == 1) = true) (e1 : p.hw = false) (e2 : p.hu = true) (e3 : p.hp = true) :
    Calls Try.prog 45 #[pkV p s] w fun e w' => e = .returned (pkV (onP p) (wrS p s)) ∧ Below w.heap.size w w' := by
  have ho : onP p = wrP p := by
    have hk : p.kind = 1 := by simpa using k1
    unfold onP
    rw [if_neg (by rw [hk]; decide)]
  rw [ho]
  clear ho
  go_enter Try.func45, Try.ntmps45
  go_wp2_with (first | ((with_reducible show wpList _ _ _ ({ dst := _, op := Op.store 28 (Operand.tmp 3) _, type := _, pos := _, after := _, guard := _ } :: _) _ _); refine st3 _ _ _ _ (by rfl) (by rfl) (by rfl) (by rfl) (by rfl) ?_) | ((with_reducible show wpList _ _ _ ({ dst := _, op := Op.store 28 (Operand.tmp 2) _, type := _, pos := _, after := _, guard := _ } :: _) _ _); refine stR (w.heap.size + 1) _ _ (by rfl) (by rfl) (by (try simp only [dr_heap]); first | exact fst3 _ _ _ _ | exact last3 _ _ _ _ | exact mid3 _ _ _ _ | exact heap_below (by assumption) (mid3 _ _ _ _) | exact heap_below (by assumption) (fst3 _ _ _ _)) (by rfl) (by rfl) (by rfl) ?_) | ((with_reducible show wpList _ _ _ ({ dst := _, op := Op.load 28 (Operand.tmp 1), type := _, pos := _, after := _, guard := _ } :: _) _ _); refine ld_pk (w.heap.size) (by rfl) (by rfl) _ _ _ (by (try simp only [dr_heap]); first | exact fst3 _ _ _ _ | exact last3 _ _ _ _ | exact mid3 _ _ _ _ | exact heap_below (by assumption) (mid3 _ _ _ _) | exact heap_below (by assumption) (fst3 _ _ _ _)) (by rfl) ?_) | ((with_reducible show wpList _ _ _ ({ dst := _, op := Op.load 28 (Operand.tmp 3), type := _, pos := _, after := _, guard := _ } :: _) _ _); refine ld_pk (w.heap.size + 1 + 1) (by rfl) (by rfl) _ _ _ (by (try simp only [dr_heap]); first | exact fst3 _ _ _ _ | exact last3 _ _ _ _ | exact mid3 _ _ _ _ | exact heap_below (by assumption) (mid3 _ _ _ _) | exact heap_below (by assumption) (fst3 _ _ _ _)) (by rfl) ?_))
  refine wp_region_held_drew (S := fun W => W.heap[w.heap.size]? = some (.cells (pkC p s) 28 (0, 0))) (by rfl) (fst3 _ _ _ _) ?_
  intro hS
  apply wpAnyH_take (i := 0) (v := .pointer (some ⟨w.heap.size, 7, none⟩))
  case hi => rfl
  case hs => kernel_rfl
  case hf => kernel_rfl
  case hr => kernel_rfl
  case hQ => exact fun _ _ _ h => h
  case hS => exact hS
  case hy => exact .inl ⟨by rfl, fun W _ => by simp [execOp, go_sem]⟩
  apply wpAnyH_take (i := 1) (v := .int .i64 p.level)
  case hi => rfl
  case hs => kernel_rfl
  case hf => kernel_rfl
  case hr => kernel_rfl
  case hQ => exact fun _ _ _ h => h
  case hS => exact hS
  case hy => exact .inl ⟨by rfl, fun W hW => by simp [execOp, go_sem, row_cells hW]⟩
  apply wpAnyH_take (i := 2) (v := .pointer (some ⟨w.heap.size, 8, none⟩))
  case hi => rfl
  case hs => kernel_rfl
  case hf => kernel_rfl
  case hr => kernel_rfl
  case hQ => exact fun _ _ _ h => h
  case hS => exact hS
  case hy => exact .inl ⟨by rfl, fun W _ => by simp [execOp, go_sem]⟩
  apply wpAnyH_take (i := 3) (v := .string p.cli)
  case hi => rfl
  case hs => kernel_rfl
  case hf => kernel_rfl
  case hr => kernel_rfl
  case hQ => exact fun _ _ _ h => h
  case hS => exact hS
  case hy => exact .inl ⟨by rfl, fun W hW => by simp [execOp, go_sem, row_cells hW]⟩
  apply wpAnyH_take (i := 4) (v := .pointer (some ⟨w.heap.size, 9, none⟩))
  case hi => rfl
  case hs => kernel_rfl
  case hf => kernel_rfl
  case hr => kernel_rfl
  case hQ => exact fun _ _ _ h => h
  case hS => exact hS
  case hy => exact .inl ⟨by rfl, fun W _ => by simp [execOp, go_sem]⟩
  apply wpAnyH_take (i := 5) (v := .bool p.clean)
  case hi => rfl
  case hs => kernel_rfl
  case hf => kernel_rfl
  case hr => kernel_rfl
  case hQ => exact fun _ _ _ h => h
  case hS => exact hS
  case hy => exact .inl ⟨by rfl, fun W hW => by simp [execOp, go_sem, row_cells hW]⟩
  apply wpAnyH_take (i := 6) (v := .pointer (some ⟨w.heap.size, 10, none⟩))
  case hi => rfl
  case hs => kernel_rfl
  case hf => kernel_rfl
  case hr => kernel_rfl
  case hQ => exact fun _ _ _ h => h
  case hS => exact hS
  case hy => exact .inl ⟨by rfl, fun W _ => by simp [execOp, go_sem]⟩
  apply wpAnyH_take (i := 7) (v := .int .i64 p.keep)
  case hi => rfl
  case hs => kernel_rfl
  case hf => kernel_rfl
  case hr => kernel_rfl
  case hQ => exact fun _ _ _ h => h
  case hS => exact hS
  case hy => exact .inl ⟨by rfl, fun W hW => by simp [execOp, go_sem, row_cells hW]⟩
  apply wpAnyH_take (i := 8) (v := .pointer (some ⟨w.heap.size, 11, none⟩))
  case hi => rfl
  case hs => kernel_rfl
  case hf => kernel_rfl
  case hr => kernel_rfl
  case hQ => exact fun _ _ _ h => h
  case hS => exact hS
  case hy => exact .inl ⟨by rfl, fun W _ => by simp [execOp, go_sem]⟩
  apply wpAnyH_take (i := 9) (v := .bool p.hw)
  case hi => rfl
  case hs => kernel_rfl
  case hf => kernel_rfl
  case hr => kernel_rfl
  case hQ => exact fun _ _ _ h => h
  case hS => exact hS
  case hy => exact .inl ⟨by rfl, fun W hW => by simp [execOp, go_sem, row_cells hW]⟩
  apply wpAnyH_take (i := 10) (v := .pointer (some ⟨w.heap.size, 16, none⟩))
  case hi => rfl
  case hs => kernel_rfl
  case hf => kernel_rfl
  case hr => kernel_rfl
  case hQ => exact fun _ _ _ h => h
  case hS => exact hS
  case hy => exact .inl ⟨by rfl, fun W _ => by simp [execOp, go_sem]⟩
  apply wpAnyH_take (i := 11) (v := .bool p.hu)
  case hi => rfl
  case hs => kernel_rfl
  case hf => kernel_rfl
  case hr => kernel_rfl
  case hQ => exact fun _ _ _ h => h
  case hS => exact hS
  case hy => exact .inl ⟨by rfl, fun W hW => by simp [execOp, go_sem, row_cells hW]⟩
  apply wpAnyH_take (i := 12) (v := .pointer (some ⟨w.heap.size, 17, none⟩))
  case hi => rfl
  case hs => kernel_rfl
  case hf => kernel_rfl
  case hr => kernel_rfl
  case hQ => exact fun _ _ _ h => h
  case hS => exact hS
  case hy => exact .inl ⟨by rfl, fun W _ => by simp [execOp, go_sem]⟩
  apply wpAnyH_take (i := 13) (v := .bool p.hp)
  case hi => rfl
  case hs => kernel_rfl
  case hf => kernel_rfl
  case hr => kernel_rfl
  case hQ => exact fun _ _ _ h => h
  case hS => exact hS
  case hy => exact .inl ⟨by rfl, fun W hW => by simp [execOp, go_sem, row_cells hW]⟩
  apply wpAnyH_take (i := 14) (v := .pointer (some ⟨w.heap.size + 1 + 1, 7, none⟩))
  case hi => rfl
  case hs => kernel_rfl
  case hf => kernel_rfl
  case hr => kernel_rfl
  case hQ => exact fun _ _ _ h => h
  case hS => exact hS
  case hy => exact .inl ⟨by rfl, fun W _ => by simp [execOp, go_sem]⟩
  refine wpAnyH_ready (rs := [15]) (by kernel_rfl) (by simp) (AllReadyH.cons (by rfl) ?_ AllReadyH.nil)
  intro K' hK
  rw [if_pos (by rfl)]
  go_wp2_with fail
  refine hK.out _ _ (fst3 _ _ _ _) ?_
  clear hK K' hS
  intro hS
  apply wpAnyH_take (i := 16) (v := .pointer (some ⟨w.heap.size + 1 + 1, 8, none⟩))
  case hi => rfl
  case hs => kernel_rfl
  case hf => kernel_rfl
  case hr => kernel_rfl
  case hQ => exact fun _ _ _ h => h
  case hS => exact hS
  case hy => exact .inl ⟨by rfl, fun W _ => by simp [execOp, go_sem]⟩
  refine wpAnyH_ready (rs := [17]) (by kernel_rfl) (by simp) (AllReadyH.cons (by rfl) ?_ AllReadyH.nil)
  intro K' hK
  rw [if_pos (by rfl)]
  go_wp2_with fail
  refine hK.out _ _ (fst3 _ _ _ _) ?_
  clear hK K' hS
  intro hS
  apply wpAnyH_take (i := 18) (v := .pointer (some ⟨w.heap.size + 1 + 1, 9, none⟩))
  case hi => rfl
  case hs => kernel_rfl
  case hf => kernel_rfl
  case hr => kernel_rfl
  case hQ => exact fun _ _ _ h => h
  case hS => exact hS
  case hy => exact .inl ⟨by rfl, fun W _ => by simp [execOp, go_sem]⟩
  refine wpAnyH_ready (rs := [19]) (by kernel_rfl) (by simp) (AllReadyH.cons (by rfl) ?_ AllReadyH.nil)
  intro K' hK
  rw [if_pos (by rfl)]
  go_wp2_with fail
  refine hK.out _ _ (fst3 _ _ _ _) ?_
  clear hK K' hS
  intro hS
  apply wpAnyH_take (i := 20) (v := .pointer (some ⟨w.heap.size + 1 + 1, 10, none⟩))
  case hi => rfl
  case hs => kernel_rfl
  case hf => kernel_rfl
  case hr => kernel_rfl
  case hQ => exact fun _ _ _ h => h
  case hS => exact hS
  case hy => exact .inl ⟨by rfl, fun W _ => by simp [execOp, go_sem]⟩
  refine wpAnyH_ready (rs := [21]) (by kernel_rfl) (by simp) (AllReadyH.cons (by rfl) ?_ AllReadyH.nil)
  intro K' hK
  rw [if_pos (by rfl)]
  go_wp2_with fail
  refine hK.out _ _ (fst3 _ _ _ _) ?_
  clear hK K' hS
  intro hS
  apply wpAnyH_take (i := 22) (v := .pointer (some ⟨w.heap.size + 1 + 1, 11, none⟩))
  case hi => rfl
  case hs => kernel_rfl
  case hf => kernel_rfl
  case hr => kernel_rfl
  case hQ => exact fun _ _ _ h => h
  case hS => exact hS
  case hy => exact .inl ⟨by rfl, fun W _ => by simp [execOp, go_sem]⟩
  refine wpAnyH_ready (rs := [23]) (by kernel_rfl) (by simp) (AllReadyH.cons (by rfl) ?_ AllReadyH.nil)
  intro K' hK
  rw [if_pos (by rfl)]
  go_wp2_with fail
  refine hK.out _ _ (fst3 _ _ _ _) ?_
  clear hK K' hS
  intro hS
  apply wpAnyH_take (i := 24) (v := .pointer (some ⟨w.heap.size + 1 + 1, 16, none⟩))
  case hi => rfl
  case hs => kernel_rfl
  case hf => kernel_rfl
  case hr => kernel_rfl
  case hQ => exact fun _ _ _ h => h
  case hS => exact hS
  case hy => exact .inl ⟨by rfl, fun W _ => by simp [execOp, go_sem]⟩
  refine wpAnyH_ready (rs := [25]) (by kernel_rfl) (by simp) (AllReadyH.cons (by rfl) ?_ AllReadyH.nil)
  intro K' hK
  rw [if_pos (by rfl)]
  go_wp2_with fail
  refine hK.out _ _ (fst3 _ _ _ _) ?_
  clear hK K' hS
  intro hS
  apply wpAnyH_take (i := 26) (v := .pointer (some ⟨w.heap.size + 1 + 1, 17, none⟩))
  case hi => rfl
  case hs => kernel_rfl
  case hf => kernel_rfl
  case hr => kernel_rfl
  case hQ => exact fun _ _ _ h => h
  case hS => exact hS
  case hy => exact .inl ⟨by rfl, fun W _ => by simp [execOp, go_sem]⟩
  refine wpAnyH_ready (rs := [27]) (by kernel_rfl) (by simp) (AllReadyH.cons (by rfl) ?_ AllReadyH.nil)
  intro K' hK
  rw [if_pos (by rfl)]
  go_wp2_with fail
  refine hK.out _ _ (fst3 _ _ _ _) ?_
  clear hK K' hS
  intro hS
  refine wpAnyH_done (by kernel_rfl) ?_ _
  go_wp2_with (first | ((with_reducible show wpList _ _ _ ({ dst := _, op := Op.load 24 _, type := _, pos := _, after := _, guard := _ } :: _) _ _); refine ld_wl (w.heap.size) p s (by rfl) (by rfl) _ _ (by (first | assumption | exact heap_alloc_last _ _ | (repeat (first | assumption | exact heap_alloc_last _ _ | exact heap_last2 _ _ _ | refine heap_keep ?_ | refine heap_below (by assumption) ?_)))) ?_) | ((with_reducible show wpList _ _ _ ({ dst := _, op := Op.store 28 (Operand.tmp 3) _, type := _, pos := _, after := _, guard := _ } :: _) _ _); refine st3 _ _ _ _ (by rfl) (by rfl) (by rfl) (by rfl) (by rfl) ?_) | ((with_reducible show wpList _ _ _ ({ dst := _, op := Op.store 28 (Operand.tmp 2) _, type := _, pos := _, after := _, guard := _ } :: _) _ _); refine stR (w.heap.size + 1) _ _ (by rfl) (by rfl) (by (try simp only [dr_heap]); first | exact fst3 _ _ _ _ | exact last3 _ _ _ _ | exact mid3 _ _ _ _ | exact heap_below (by assumption) (mid3 _ _ _ _) | exact heap_below (by assumption) (fst3 _ _ _ _)) (by rfl) (by rfl) (by rfl) ?_) | ((with_reducible show wpList _ _ _ ({ dst := _, op := Op.load 28 (Operand.tmp 1), type := _, pos := _, after := _, guard := _ } :: _) _ _); refine ld_pk (w.heap.size) (by rfl) (by rfl) _ _ _ (by (try simp only [dr_heap]); first | exact fst3 _ _ _ _ | exact last3 _ _ _ _ | exact mid3 _ _ _ _ | exact heap_below (by assumption) (mid3 _ _ _ _) | exact heap_below (by assumption) (fst3 _ _ _ _)) (by rfl) ?_) | ((with_reducible show wpList _ _ _ ({ dst := _, op := Op.load 28 (Operand.tmp 3), type := _, pos := _, after := _, guard := _ } :: _) _ _); refine ld_pk (w.heap.size + 1 + 1) (by rfl) (by rfl) _ _ _ (by (try simp only [dr_heap]); first | exact fst3 _ _ _ _ | exact last3 _ _ _ _ | exact mid3 _ _ _ _ | exact heap_below (by assumption) (mid3 _ _ _ _) | exact heap_below (by assumption) (fst3 _ _ _ _)) (by rfl) ?_))
  (refine bodyPost_ret (v := .agg _) (results_cell_row (by rfl) _ _ (w.heap.size + 1) 28 _ (0, 0) _ (by rfl) (setRow_heap _ _ _ _ _ _ (by (try simp only [dr_heap]); first | exact fst3 _ _ _ _ | exact last3 _ _ _ _ | exact mid3 _ _ _ _ | exact heap_below (by assumption) (mid3 _ _ _ _) | exact heap_below (by assumption) (fst3 _ _ _ _))) Try.underlying28 (by rfl) (by exact pk_sz)) (by rfl) ⟨congrArg (fun c => Ending.returned (.agg c)) ?_, ?_⟩; (· first | (simp [wrP, wrS, *]; done) | (simp [wrP, wrS, *]; rfl) | rfl); (· exact below_setRow (by (repeat (first | assumption | exact Below.refl _ _ | exact (Below.refl _ _).alloc (Nat.le_refl _) _ | (refine thn ?_ (by assumption)) | (refine alB ?_ _) | (refine dwN ?_ _) | (refine Below.drew ?_)))) (by omega) _))

set_option maxRecDepth 100000 in
set_option maxHeartbeats 8000000 in
theorem only_tff (p : Pk) (s : Sv) (w : World) (k1 : (p.kind == 1) = true) (e1 : p.hw = true) (e2 : p.hu = false) (e3 : p.hp = false) :
    Calls Try.prog 45 #[pkV p s] w fun e w' => e = .returned (pkV (onP p) (wrS p s)) ∧ Below w.heap.size w w' := by
  have ho : onP p = wrP p := by
    have hk : p.kind = 1 := by simpa using k1
    unfold onP
    rw [if_neg (by rw [hk]; decide)]
  rw [ho]
  clear ho
  go_enter Try.func45, Try.ntmps45
  go_wp2_with (first | ((with_reducible show wpList _ _ _ ({ dst := _, op := Op.store 28 (Operand.tmp 3) _, type := _, pos := _, after := _, guard := _ } :: _) _ _); refine st3 _ _ _ _ (by rfl) (by rfl) (by rfl) (by rfl) (by rfl) ?_) | ((with_reducible show wpList _ _ _ ({ dst := _, op := Op.store 28 (Operand.tmp 2) _, type := _, pos := _, after := _, guard := _ } :: _) _ _); refine stR (w.heap.size + 1) _ _ (by rfl) (by rfl) (by (try simp only [dr_heap]); first | exact fst3 _ _ _ _ | exact last3 _ _ _ _ | exact mid3 _ _ _ _ | exact heap_below (by assumption) (mid3 _ _ _ _) | exact heap_below (by assumption) (fst3 _ _ _ _)) (by rfl) (by rfl) (by rfl) ?_) | ((with_reducible show wpList _ _ _ ({ dst := _, op := Op.load 28 (Operand.tmp 1), type := _, pos := _, after := _, guard := _ } :: _) _ _); refine ld_pk (w.heap.size) (by rfl) (by rfl) _ _ _ (by (try simp only [dr_heap]); first | exact fst3 _ _ _ _ | exact last3 _ _ _ _ | exact mid3 _ _ _ _ | exact heap_below (by assumption) (mid3 _ _ _ _) | exact heap_below (by assumption) (fst3 _ _ _ _)) (by rfl) ?_) | ((with_reducible show wpList _ _ _ ({ dst := _, op := Op.load 28 (Operand.tmp 3), type := _, pos := _, after := _, guard := _ } :: _) _ _); refine ld_pk (w.heap.size + 1 + 1) (by rfl) (by rfl) _ _ _ (by (try simp only [dr_heap]); first | exact fst3 _ _ _ _ | exact last3 _ _ _ _ | exact mid3 _ _ _ _ | exact heap_below (by assumption) (mid3 _ _ _ _) | exact heap_below (by assumption) (fst3 _ _ _ _)) (by rfl) ?_))
  refine wp_region_held_drew (S := fun W => W.heap[w.heap.size]? = some (.cells (pkC p s) 28 (0, 0))) (by rfl) (fst3 _ _ _ _) ?_
  intro hS
  apply wpAnyH_take (i := 0) (v := .pointer (some ⟨w.heap.size, 7, none⟩))
  case hi => rfl
  case hs => kernel_rfl
  case hf => kernel_rfl
  case hr => kernel_rfl
  case hQ => exact fun _ _ _ h => h
  case hS => exact hS
  case hy => exact .inl ⟨by rfl, fun W _ => by simp [execOp, go_sem]⟩
  apply wpAnyH_take (i := 1) (v := .int .i64 p.level)
  case hi => rfl
  case hs => kernel_rfl
  case hf => kernel_rfl
  case hr => kernel_rfl
  case hQ => exact fun _ _ _ h => h
  case hS => exact hS
  case hy => exact .inl ⟨by rfl, fun W hW => by simp [execOp, go_sem, row_cells hW]⟩
  apply wpAnyH_take (i := 2) (v := .pointer (some ⟨w.heap.size, 8, none⟩))
  case hi => rfl
  case hs => kernel_rfl
  case hf => kernel_rfl
  case hr => kernel_rfl
  case hQ => exact fun _ _ _ h => h
  case hS => exact hS
  case hy => exact .inl ⟨by rfl, fun W _ => by simp [execOp, go_sem]⟩
  apply wpAnyH_take (i := 3) (v := .string p.cli)
  case hi => rfl
  case hs => kernel_rfl
  case hf => kernel_rfl
  case hr => kernel_rfl
  case hQ => exact fun _ _ _ h => h
  case hS => exact hS
  case hy => exact .inl ⟨by rfl, fun W hW => by simp [execOp, go_sem, row_cells hW]⟩
  apply wpAnyH_take (i := 4) (v := .pointer (some ⟨w.heap.size, 9, none⟩))
  case hi => rfl
  case hs => kernel_rfl
  case hf => kernel_rfl
  case hr => kernel_rfl
  case hQ => exact fun _ _ _ h => h
  case hS => exact hS
  case hy => exact .inl ⟨by rfl, fun W _ => by simp [execOp, go_sem]⟩
  apply wpAnyH_take (i := 5) (v := .bool p.clean)
  case hi => rfl
  case hs => kernel_rfl
  case hf => kernel_rfl
  case hr => kernel_rfl
  case hQ => exact fun _ _ _ h => h
  case hS => exact hS
  case hy => exact .inl ⟨by rfl, fun W hW => by simp [execOp, go_sem, row_cells hW]⟩
  apply wpAnyH_take (i := 6) (v := .pointer (some ⟨w.heap.size, 10, none⟩))
  case hi => rfl
  case hs => kernel_rfl
  case hf => kernel_rfl
  case hr => kernel_rfl
  case hQ => exact fun _ _ _ h => h
  case hS => exact hS
  case hy => exact .inl ⟨by rfl, fun W _ => by simp [execOp, go_sem]⟩
  apply wpAnyH_take (i := 7) (v := .int .i64 p.keep)
  case hi => rfl
  case hs => kernel_rfl
  case hf => kernel_rfl
  case hr => kernel_rfl
  case hQ => exact fun _ _ _ h => h
  case hS => exact hS
  case hy => exact .inl ⟨by rfl, fun W hW => by simp [execOp, go_sem, row_cells hW]⟩
  apply wpAnyH_take (i := 8) (v := .pointer (some ⟨w.heap.size, 11, none⟩))
  case hi => rfl
  case hs => kernel_rfl
  case hf => kernel_rfl
  case hr => kernel_rfl
  case hQ => exact fun _ _ _ h => h
  case hS => exact hS
  case hy => exact .inl ⟨by rfl, fun W _ => by simp [execOp, go_sem]⟩
  apply wpAnyH_take (i := 9) (v := .bool p.hw)
  case hi => rfl
  case hs => kernel_rfl
  case hf => kernel_rfl
  case hr => kernel_rfl
  case hQ => exact fun _ _ _ h => h
  case hS => exact hS
  case hy => exact .inl ⟨by rfl, fun W hW => by simp [execOp, go_sem, row_cells hW]⟩
  apply wpAnyH_take (i := 10) (v := .pointer (some ⟨w.heap.size, 16, none⟩))
  case hi => rfl
  case hs => kernel_rfl
  case hf => kernel_rfl
  case hr => kernel_rfl
  case hQ => exact fun _ _ _ h => h
  case hS => exact hS
  case hy => exact .inl ⟨by rfl, fun W _ => by simp [execOp, go_sem]⟩
  apply wpAnyH_take (i := 11) (v := .bool p.hu)
  case hi => rfl
  case hs => kernel_rfl
  case hf => kernel_rfl
  case hr => kernel_rfl
  case hQ => exact fun _ _ _ h => h
  case hS => exact hS
  case hy => exact .inl ⟨by rfl, fun W hW => by simp [execOp, go_sem, row_cells hW]⟩
  apply wpAnyH_take (i := 12) (v := .pointer (some ⟨w.heap.size, 17, none⟩))
  case hi => rfl
  case hs => kernel_rfl
  case hf => kernel_rfl
  case hr => kernel_rfl
  case hQ => exact fun _ _ _ h => h
  case hS => exact hS
  case hy => exact .inl ⟨by rfl, fun W _ => by simp [execOp, go_sem]⟩
  apply wpAnyH_take (i := 13) (v := .bool p.hp)
  case hi => rfl
  case hs => kernel_rfl
  case hf => kernel_rfl
  case hr => kernel_rfl
  case hQ => exact fun _ _ _ h => h
  case hS => exact hS
  case hy => exact .inl ⟨by rfl, fun W hW => by simp [execOp, go_sem, row_cells hW]⟩
  apply wpAnyH_take (i := 14) (v := .pointer (some ⟨w.heap.size + 1 + 1, 7, none⟩))
  case hi => rfl
  case hs => kernel_rfl
  case hf => kernel_rfl
  case hr => kernel_rfl
  case hQ => exact fun _ _ _ h => h
  case hS => exact hS
  case hy => exact .inl ⟨by rfl, fun W _ => by simp [execOp, go_sem]⟩
  refine wpAnyH_ready (rs := [15]) (by kernel_rfl) (by simp) (AllReadyH.cons (by rfl) ?_ AllReadyH.nil)
  intro K' hK
  rw [if_pos (by rfl)]
  go_wp2_with fail
  refine hK.out _ _ (fst3 _ _ _ _) ?_
  clear hK K' hS
  intro hS
  apply wpAnyH_take (i := 16) (v := .pointer (some ⟨w.heap.size + 1 + 1, 8, none⟩))
  case hi => rfl
  case hs => kernel_rfl
  case hf => kernel_rfl
  case hr => kernel_rfl
  case hQ => exact fun _ _ _ h => h
  case hS => exact hS
  case hy => exact .inl ⟨by rfl, fun W _ => by simp [execOp, go_sem]⟩
  refine wpAnyH_ready (rs := [17]) (by kernel_rfl) (by simp) (AllReadyH.cons (by rfl) ?_ AllReadyH.nil)
  intro K' hK
  rw [if_pos (by rfl)]
  go_wp2_with fail
  refine hK.out _ _ (fst3 _ _ _ _) ?_
  clear hK K' hS
  intro hS
  apply wpAnyH_take (i := 18) (v := .pointer (some ⟨w.heap.size + 1 + 1, 9, none⟩))
  case hi => rfl
  case hs => kernel_rfl
  case hf => kernel_rfl
  case hr => kernel_rfl
  case hQ => exact fun _ _ _ h => h
  case hS => exact hS
  case hy => exact .inl ⟨by rfl, fun W _ => by simp [execOp, go_sem]⟩
  refine wpAnyH_ready (rs := [19]) (by kernel_rfl) (by simp) (AllReadyH.cons (by rfl) ?_ AllReadyH.nil)
  intro K' hK
  rw [if_pos (by rfl)]
  go_wp2_with fail
  refine hK.out _ _ (fst3 _ _ _ _) ?_
  clear hK K' hS
  intro hS
  apply wpAnyH_take (i := 20) (v := .pointer (some ⟨w.heap.size + 1 + 1, 10, none⟩))
  case hi => rfl
  case hs => kernel_rfl
  case hf => kernel_rfl
  case hr => kernel_rfl
  case hQ => exact fun _ _ _ h => h
  case hS => exact hS
  case hy => exact .inl ⟨by rfl, fun W _ => by simp [execOp, go_sem]⟩
  refine wpAnyH_ready (rs := [21]) (by kernel_rfl) (by simp) (AllReadyH.cons (by rfl) ?_ AllReadyH.nil)
  intro K' hK
  rw [if_pos (by rfl)]
  go_wp2_with fail
  refine hK.out _ _ (fst3 _ _ _ _) ?_
  clear hK K' hS
  intro hS
  apply wpAnyH_take (i := 22) (v := .pointer (some ⟨w.heap.size + 1 + 1, 11, none⟩))
  case hi => rfl
  case hs => kernel_rfl
  case hf => kernel_rfl
  case hr => kernel_rfl
  case hQ => exact fun _ _ _ h => h
  case hS => exact hS
  case hy => exact .inl ⟨by rfl, fun W _ => by simp [execOp, go_sem]⟩
  refine wpAnyH_ready (rs := [23]) (by kernel_rfl) (by simp) (AllReadyH.cons (by rfl) ?_ AllReadyH.nil)
  intro K' hK
  rw [if_pos (by rfl)]
  go_wp2_with fail
  refine hK.out _ _ (fst3 _ _ _ _) ?_
  clear hK K' hS
  intro hS
  apply wpAnyH_take (i := 24) (v := .pointer (some ⟨w.heap.size + 1 + 1, 16, none⟩))
  case hi => rfl
  case hs => kernel_rfl
  case hf => kernel_rfl
  case hr => kernel_rfl
  case hQ => exact fun _ _ _ h => h
  case hS => exact hS
  case hy => exact .inl ⟨by rfl, fun W _ => by simp [execOp, go_sem]⟩
  refine wpAnyH_ready (rs := [25]) (by kernel_rfl) (by simp) (AllReadyH.cons (by rfl) ?_ AllReadyH.nil)
  intro K' hK
  rw [if_pos (by rfl)]
  go_wp2_with fail
  refine hK.out _ _ (fst3 _ _ _ _) ?_
  clear hK K' hS
  intro hS
  apply wpAnyH_take (i := 26) (v := .pointer (some ⟨w.heap.size + 1 + 1, 17, none⟩))
  case hi => rfl
  case hs => kernel_rfl
  case hf => kernel_rfl
  case hr => kernel_rfl
  case hQ => exact fun _ _ _ h => h
  case hS => exact hS
  case hy => exact .inl ⟨by rfl, fun W _ => by simp [execOp, go_sem]⟩
  refine wpAnyH_ready (rs := [27]) (by kernel_rfl) (by simp) (AllReadyH.cons (by rfl) ?_ AllReadyH.nil)
  intro K' hK
  rw [if_pos (by rfl)]
  go_wp2_with fail
  refine hK.out _ _ (fst3 _ _ _ _) ?_
  clear hK K' hS
  intro hS
  refine wpAnyH_done (by kernel_rfl) ?_ _
  go_wp2_with (first | ((with_reducible show wpList _ _ _ ({ dst := _, op := Op.load 24 _, type := _, pos := _, after := _, guard := _ } :: _) _ _); refine ld_wl (w.heap.size) p s (by rfl) (by rfl) _ _ (by (first | assumption | exact heap_alloc_last _ _ | (repeat (first | assumption | exact heap_alloc_last _ _ | exact heap_last2 _ _ _ | refine heap_keep ?_ | refine heap_below (by assumption) ?_)))) ?_) | ((with_reducible show wpList _ _ _ ({ dst := _, op := Op.store 28 (Operand.tmp 3) _, type := _, pos := _, after := _, guard := _ } :: _) _ _); refine st3 _ _ _ _ (by rfl) (by rfl) (by rfl) (by rfl) (by rfl) ?_) | ((with_reducible show wpList _ _ _ ({ dst := _, op := Op.store 28 (Operand.tmp 2) _, type := _, pos := _, after := _, guard := _ } :: _) _ _); refine stR (w.heap.size + 1) _ _ (by rfl) (by rfl) (by (try simp only [dr_heap]); first | exact fst3 _ _ _ _ | exact last3 _ _ _ _ | exact mid3 _ _ _ _ | exact heap_below (by assumption) (mid3 _ _ _ _) | exact heap_below (by assumption) (fst3 _ _ _ _)) (by rfl) (by rfl) (by rfl) ?_) | ((with_reducible show wpList _ _ _ ({ dst := _, op := Op.load 28 (Operand.tmp 1), type := _, pos := _, after := _, guard := _ } :: _) _ _); refine ld_pk (w.heap.size) (by rfl) (by rfl) _ _ _ (by (try simp only [dr_heap]); first | exact fst3 _ _ _ _ | exact last3 _ _ _ _ | exact mid3 _ _ _ _ | exact heap_below (by assumption) (mid3 _ _ _ _) | exact heap_below (by assumption) (fst3 _ _ _ _)) (by rfl) ?_) | ((with_reducible show wpList _ _ _ ({ dst := _, op := Op.load 28 (Operand.tmp 3), type := _, pos := _, after := _, guard := _ } :: _) _ _); refine ld_pk (w.heap.size + 1 + 1) (by rfl) (by rfl) _ _ _ (by (try simp only [dr_heap]); first | exact fst3 _ _ _ _ | exact last3 _ _ _ _ | exact mid3 _ _ _ _ | exact heap_below (by assumption) (mid3 _ _ _ _) | exact heap_below (by assumption) (fst3 _ _ _ _)) (by rfl) ?_))
  (refine bodyPost_ret (v := .agg _) (results_cell_row (by rfl) _ _ (w.heap.size + 1) 28 _ (0, 0) _ (by rfl) (setRow_heap _ _ _ _ _ _ (by (try simp only [dr_heap]); first | exact fst3 _ _ _ _ | exact last3 _ _ _ _ | exact mid3 _ _ _ _ | exact heap_below (by assumption) (mid3 _ _ _ _) | exact heap_below (by assumption) (fst3 _ _ _ _))) Try.underlying28 (by rfl) (by exact pk_sz)) (by rfl) ⟨congrArg (fun c => Ending.returned (.agg c)) ?_, ?_⟩; (· first | (simp [wrP, wrS, *]; done) | (simp [wrP, wrS, *]; rfl) | rfl); (· exact below_setRow (by (repeat (first | assumption | exact Below.refl _ _ | exact (Below.refl _ _).alloc (Nat.le_refl _) _ | (refine thn ?_ (by assumption)) | (refine alB ?_ _) | (refine dwN ?_ _) | (refine Below.drew ?_)))) (by omega) _))

set_option maxRecDepth 100000 in
set_option maxHeartbeats 8000000 in
theorem only_tft (p : Pk) (s : Sv) (w : World) (k1 : (p.kind == 1) = true) (e1 : p.hw = true) (e2 : p.hu = false) (e3 : p.hp = true) :
    Calls Try.prog 45 #[pkV p s] w fun e w' => e = .returned (pkV (onP p) (wrS p s)) ∧ Below w.heap.size w w' := by
  have ho : onP p = wrP p := by
    have hk : p.kind = 1 := by simpa using k1
    unfold onP
    rw [if_neg (by rw [hk]; decide)]
  rw [ho]
  clear ho
  go_enter Try.func45, Try.ntmps45
  go_wp2_with (first | ((with_reducible show wpList _ _ _ ({ dst := _, op := Op.store 28 (Operand.tmp 3) _, type := _, pos := _, after := _, guard := _ } :: _) _ _); refine st3 _ _ _ _ (by rfl) (by rfl) (by rfl) (by rfl) (by rfl) ?_) | ((with_reducible show wpList _ _ _ ({ dst := _, op := Op.store 28 (Operand.tmp 2) _, type := _, pos := _, after := _, guard := _ } :: _) _ _); refine stR (w.heap.size + 1) _ _ (by rfl) (by rfl) (by (try simp only [dr_heap]); first | exact fst3 _ _ _ _ | exact last3 _ _ _ _ | exact mid3 _ _ _ _ | exact heap_below (by assumption) (mid3 _ _ _ _) | exact heap_below (by assumption) (fst3 _ _ _ _)) (by rfl) (by rfl) (by rfl) ?_) | ((with_reducible show wpList _ _ _ ({ dst := _, op := Op.load 28 (Operand.tmp 1), type := _, pos := _, after := _, guard := _ } :: _) _ _); refine ld_pk (w.heap.size) (by rfl) (by rfl) _ _ _ (by (try simp only [dr_heap]); first | exact fst3 _ _ _ _ | exact last3 _ _ _ _ | exact mid3 _ _ _ _ | exact heap_below (by assumption) (mid3 _ _ _ _) | exact heap_below (by assumption) (fst3 _ _ _ _)) (by rfl) ?_) | ((with_reducible show wpList _ _ _ ({ dst := _, op := Op.load 28 (Operand.tmp 3), type := _, pos := _, after := _, guard := _ } :: _) _ _); refine ld_pk (w.heap.size + 1 + 1) (by rfl) (by rfl) _ _ _ (by (try simp only [dr_heap]); first | exact fst3 _ _ _ _ | exact last3 _ _ _ _ | exact mid3 _ _ _ _ | exact heap_below (by assumption) (mid3 _ _ _ _) | exact heap_below (by assumption) (fst3 _ _ _ _)) (by rfl) ?_))
  refine wp_region_held_drew (S := fun W => W.heap[w.heap.size]? = some (.cells (pkC p s) 28 (0, 0))) (by rfl) (fst3 _ _ _ _) ?_
  intro hS
  apply wpAnyH_take (i := 0) (v := .pointer (some ⟨w.heap.size, 7, none⟩))
  case hi => rfl
  case hs => kernel_rfl
  case hf => kernel_rfl
  case hr => kernel_rfl
  case hQ => exact fun _ _ _ h => h
  case hS => exact hS
  case hy => exact .inl ⟨by rfl, fun W _ => by simp [execOp, go_sem]⟩
  apply wpAnyH_take (i := 1) (v := .int .i64 p.level)
  case hi => rfl
  case hs => kernel_rfl
  case hf => kernel_rfl
  case hr => kernel_rfl
  case hQ => exact fun _ _ _ h => h
  case hS => exact hS
  case hy => exact .inl ⟨by rfl, fun W hW => by simp [execOp, go_sem, row_cells hW]⟩
  apply wpAnyH_take (i := 2) (v := .pointer (some ⟨w.heap.size, 8, none⟩))
  case hi => rfl
  case hs => kernel_rfl
  case hf => kernel_rfl
  case hr => kernel_rfl
  case hQ => exact fun _ _ _ h => h
  case hS => exact hS
  case hy => exact .inl ⟨by rfl, fun W _ => by simp [execOp, go_sem]⟩
  apply wpAnyH_take (i := 3) (v := .string p.cli)
  case hi => rfl
  case hs => kernel_rfl
  case hf => kernel_rfl
  case hr => kernel_rfl
  case hQ => exact fun _ _ _ h => h
  case hS => exact hS
  case hy => exact .inl ⟨by rfl, fun W hW => by simp [execOp, go_sem, row_cells hW]⟩
  apply wpAnyH_take (i := 4) (v := .pointer (some ⟨w.heap.size, 9, none⟩))
  case hi => rfl
  case hs => kernel_rfl
  case hf => kernel_rfl
  case hr => kernel_rfl
  case hQ => exact fun _ _ _ h => h
  case hS => exact hS
  case hy => exact .inl ⟨by rfl, fun W _ => by simp [execOp, go_sem]⟩
  apply wpAnyH_take (i := 5) (v := .bool p.clean)
  case hi => rfl
  case hs => kernel_rfl
  case hf => kernel_rfl
  case hr => kernel_rfl
  case hQ => exact fun _ _ _ h => h
  case hS => exact hS
  case hy => exact .inl ⟨by rfl, fun W hW => by simp [execOp, go_sem, row_cells hW]⟩
  apply wpAnyH_take (i := 6) (v := .pointer (some ⟨w.heap.size, 10, none⟩))
  case hi => rfl
  case hs => kernel_rfl
  case hf => kernel_rfl
  case hr => kernel_rfl
  case hQ => exact fun _ _ _ h => h
  case hS => exact hS
  case hy => exact .inl ⟨by rfl, fun W _ => by simp [execOp, go_sem]⟩
  apply wpAnyH_take (i := 7) (v := .int .i64 p.keep)
  case hi => rfl
  case hs => kernel_rfl
  case hf => kernel_rfl
  case hr => kernel_rfl
  case hQ => exact fun _ _ _ h => h
  case hS => exact hS
  case hy => exact .inl ⟨by rfl, fun W hW => by simp [execOp, go_sem, row_cells hW]⟩
  apply wpAnyH_take (i := 8) (v := .pointer (some ⟨w.heap.size, 11, none⟩))
  case hi => rfl
  case hs => kernel_rfl
  case hf => kernel_rfl
  case hr => kernel_rfl
  case hQ => exact fun _ _ _ h => h
  case hS => exact hS
  case hy => exact .inl ⟨by rfl, fun W _ => by simp [execOp, go_sem]⟩
  apply wpAnyH_take (i := 9) (v := .bool p.hw)
  case hi => rfl
  case hs => kernel_rfl
  case hf => kernel_rfl
  case hr => kernel_rfl
  case hQ => exact fun _ _ _ h => h
  case hS => exact hS
  case hy => exact .inl ⟨by rfl, fun W hW => by simp [execOp, go_sem, row_cells hW]⟩
  apply wpAnyH_take (i := 10) (v := .pointer (some ⟨w.heap.size, 16, none⟩))
  case hi => rfl
  case hs => kernel_rfl
  case hf => kernel_rfl
  case hr => kernel_rfl
  case hQ => exact fun _ _ _ h => h
  case hS => exact hS
  case hy => exact .inl ⟨by rfl, fun W _ => by simp [execOp, go_sem]⟩
  apply wpAnyH_take (i := 11) (v := .bool p.hu)
  case hi => rfl
  case hs => kernel_rfl
  case hf => kernel_rfl
  case hr => kernel_rfl
  case hQ => exact fun _ _ _ h => h
  case hS => exact hS
  case hy => exact .inl ⟨by rfl, fun W hW => by simp [execOp, go_sem, row_cells hW]⟩
  apply wpAnyH_take (i := 12) (v := .pointer (some ⟨w.heap.size, 17, none⟩))
  case hi => rfl
  case hs => kernel_rfl
  case hf => kernel_rfl
  case hr => kernel_rfl
  case hQ => exact fun _ _ _ h => h
  case hS => exact hS
  case hy => exact .inl ⟨by rfl, fun W _ => by simp [execOp, go_sem]⟩
  apply wpAnyH_take (i := 13) (v := .bool p.hp)
  case hi => rfl
  case hs => kernel_rfl
  case hf => kernel_rfl
  case hr => kernel_rfl
  case hQ => exact fun _ _ _ h => h
  case hS => exact hS
  case hy => exact .inl ⟨by rfl, fun W hW => by simp [execOp, go_sem, row_cells hW]⟩
  apply wpAnyH_take (i := 14) (v := .pointer (some ⟨w.heap.size + 1 + 1, 7, none⟩))
  case hi => rfl
  case hs => kernel_rfl
  case hf => kernel_rfl
  case hr => kernel_rfl
  case hQ => exact fun _ _ _ h => h
  case hS => exact hS
  case hy => exact .inl ⟨by rfl, fun W _ => by simp [execOp, go_sem]⟩
  refine wpAnyH_ready (rs := [15]) (by kernel_rfl) (by simp) (AllReadyH.cons (by rfl) ?_ AllReadyH.nil)
  intro K' hK
  rw [if_pos (by rfl)]
  go_wp2_with fail
  refine hK.out _ _ (fst3 _ _ _ _) ?_
  clear hK K' hS
  intro hS
  apply wpAnyH_take (i := 16) (v := .pointer (some ⟨w.heap.size + 1 + 1, 8, none⟩))
  case hi => rfl
  case hs => kernel_rfl
  case hf => kernel_rfl
  case hr => kernel_rfl
  case hQ => exact fun _ _ _ h => h
  case hS => exact hS
  case hy => exact .inl ⟨by rfl, fun W _ => by simp [execOp, go_sem]⟩
  refine wpAnyH_ready (rs := [17]) (by kernel_rfl) (by simp) (AllReadyH.cons (by rfl) ?_ AllReadyH.nil)
  intro K' hK
  rw [if_pos (by rfl)]
  go_wp2_with fail
  refine hK.out _ _ (fst3 _ _ _ _) ?_
  clear hK K' hS
  intro hS
  apply wpAnyH_take (i := 18) (v := .pointer (some ⟨w.heap.size + 1 + 1, 9, none⟩))
  case hi => rfl
  case hs => kernel_rfl
  case hf => kernel_rfl
  case hr => kernel_rfl
  case hQ => exact fun _ _ _ h => h
  case hS => exact hS
  case hy => exact .inl ⟨by rfl, fun W _ => by simp [execOp, go_sem]⟩
  refine wpAnyH_ready (rs := [19]) (by kernel_rfl) (by simp) (AllReadyH.cons (by rfl) ?_ AllReadyH.nil)
  intro K' hK
  rw [if_pos (by rfl)]
  go_wp2_with fail
  refine hK.out _ _ (fst3 _ _ _ _) ?_
  clear hK K' hS
  intro hS
  apply wpAnyH_take (i := 20) (v := .pointer (some ⟨w.heap.size + 1 + 1, 10, none⟩))
  case hi => rfl
  case hs => kernel_rfl
  case hf => kernel_rfl
  case hr => kernel_rfl
  case hQ => exact fun _ _ _ h => h
  case hS => exact hS
  case hy => exact .inl ⟨by rfl, fun W _ => by simp [execOp, go_sem]⟩
  refine wpAnyH_ready (rs := [21]) (by kernel_rfl) (by simp) (AllReadyH.cons (by rfl) ?_ AllReadyH.nil)
  intro K' hK
  rw [if_pos (by rfl)]
  go_wp2_with fail
  refine hK.out _ _ (fst3 _ _ _ _) ?_
  clear hK K' hS
  intro hS
  apply wpAnyH_take (i := 22) (v := .pointer (some ⟨w.heap.size + 1 + 1, 11, none⟩))
  case hi => rfl
  case hs => kernel_rfl
  case hf => kernel_rfl
  case hr => kernel_rfl
  case hQ => exact fun _ _ _ h => h
  case hS => exact hS
  case hy => exact .inl ⟨by rfl, fun W _ => by simp [execOp, go_sem]⟩
  refine wpAnyH_ready (rs := [23]) (by kernel_rfl) (by simp) (AllReadyH.cons (by rfl) ?_ AllReadyH.nil)
  intro K' hK
  rw [if_pos (by rfl)]
  go_wp2_with fail
  refine hK.out _ _ (fst3 _ _ _ _) ?_
  clear hK K' hS
  intro hS
  apply wpAnyH_take (i := 24) (v := .pointer (some ⟨w.heap.size + 1 + 1, 16, none⟩))
  case hi => rfl
  case hs => kernel_rfl
  case hf => kernel_rfl
  case hr => kernel_rfl
  case hQ => exact fun _ _ _ h => h
  case hS => exact hS
  case hy => exact .inl ⟨by rfl, fun W _ => by simp [execOp, go_sem]⟩
  refine wpAnyH_ready (rs := [25]) (by kernel_rfl) (by simp) (AllReadyH.cons (by rfl) ?_ AllReadyH.nil)
  intro K' hK
  rw [if_pos (by rfl)]
  go_wp2_with fail
  refine hK.out _ _ (fst3 _ _ _ _) ?_
  clear hK K' hS
  intro hS
  apply wpAnyH_take (i := 26) (v := .pointer (some ⟨w.heap.size + 1 + 1, 17, none⟩))
  case hi => rfl
  case hs => kernel_rfl
  case hf => kernel_rfl
  case hr => kernel_rfl
  case hQ => exact fun _ _ _ h => h
  case hS => exact hS
  case hy => exact .inl ⟨by rfl, fun W _ => by simp [execOp, go_sem]⟩
  refine wpAnyH_ready (rs := [27]) (by kernel_rfl) (by simp) (AllReadyH.cons (by rfl) ?_ AllReadyH.nil)
  intro K' hK
  rw [if_pos (by rfl)]
  go_wp2_with fail
  refine hK.out _ _ (fst3 _ _ _ _) ?_
  clear hK K' hS
  intro hS
  refine wpAnyH_done (by kernel_rfl) ?_ _
  go_wp2_with (first | ((with_reducible show wpList _ _ _ ({ dst := _, op := Op.load 24 _, type := _, pos := _, after := _, guard := _ } :: _) _ _); refine ld_wl (w.heap.size) p s (by rfl) (by rfl) _ _ (by (first | assumption | exact heap_alloc_last _ _ | (repeat (first | assumption | exact heap_alloc_last _ _ | exact heap_last2 _ _ _ | refine heap_keep ?_ | refine heap_below (by assumption) ?_)))) ?_) | ((with_reducible show wpList _ _ _ ({ dst := _, op := Op.store 28 (Operand.tmp 3) _, type := _, pos := _, after := _, guard := _ } :: _) _ _); refine st3 _ _ _ _ (by rfl) (by rfl) (by rfl) (by rfl) (by rfl) ?_) | ((with_reducible show wpList _ _ _ ({ dst := _, op := Op.store 28 (Operand.tmp 2) _, type := _, pos := _, after := _, guard := _ } :: _) _ _); refine stR (w.heap.size + 1) _ _ (by rfl) (by rfl) (by (try simp only [dr_heap]); first | exact fst3 _ _ _ _ | exact last3 _ _ _ _ | exact mid3 _ _ _ _ | exact heap_below (by assumption) (mid3 _ _ _ _) | exact heap_below (by assumption) (fst3 _ _ _ _)) (by rfl) (by rfl) (by rfl) ?_) | ((with_reducible show wpList _ _ _ ({ dst := _, op := Op.load 28 (Operand.tmp 1), type := _, pos := _, after := _, guard := _ } :: _) _ _); refine ld_pk (w.heap.size) (by rfl) (by rfl) _ _ _ (by (try simp only [dr_heap]); first | exact fst3 _ _ _ _ | exact last3 _ _ _ _ | exact mid3 _ _ _ _ | exact heap_below (by assumption) (mid3 _ _ _ _) | exact heap_below (by assumption) (fst3 _ _ _ _)) (by rfl) ?_) | ((with_reducible show wpList _ _ _ ({ dst := _, op := Op.load 28 (Operand.tmp 3), type := _, pos := _, after := _, guard := _ } :: _) _ _); refine ld_pk (w.heap.size + 1 + 1) (by rfl) (by rfl) _ _ _ (by (try simp only [dr_heap]); first | exact fst3 _ _ _ _ | exact last3 _ _ _ _ | exact mid3 _ _ _ _ | exact heap_below (by assumption) (mid3 _ _ _ _) | exact heap_below (by assumption) (fst3 _ _ _ _)) (by rfl) ?_))
  (refine bodyPost_ret (v := .agg _) (results_cell_row (by rfl) _ _ (w.heap.size + 1) 28 _ (0, 0) _ (by rfl) (setRow_heap _ _ _ _ _ _ (by (try simp only [dr_heap]); first | exact fst3 _ _ _ _ | exact last3 _ _ _ _ | exact mid3 _ _ _ _ | exact heap_below (by assumption) (mid3 _ _ _ _) | exact heap_below (by assumption) (fst3 _ _ _ _))) Try.underlying28 (by rfl) (by exact pk_sz)) (by rfl) ⟨congrArg (fun c => Ending.returned (.agg c)) ?_, ?_⟩; (· first | (simp [wrP, wrS, *]; done) | (simp [wrP, wrS, *]; rfl) | rfl); (· exact below_setRow (by (repeat (first | assumption | exact Below.refl _ _ | exact (Below.refl _ _).alloc (Nat.le_refl _) _ | (refine thn ?_ (by assumption)) | (refine alB ?_ _) | (refine dwN ?_ _) | (refine Below.drew ?_)))) (by omega) _))

set_option maxRecDepth 100000 in
set_option maxHeartbeats 8000000 in
theorem only_ttf (p : Pk) (s : Sv) (w : World) (k1 : (p.kind == 1) = true) (e1 : p.hw = true) (e2 : p.hu = true) (e3 : p.hp = false) :
    Calls Try.prog 45 #[pkV p s] w fun e w' => e = .returned (pkV (onP p) (wrS p s)) ∧ Below w.heap.size w w' := by
  have ho : onP p = wrP p := by
    have hk : p.kind = 1 := by simpa using k1
    unfold onP
    rw [if_neg (by rw [hk]; decide)]
  rw [ho]
  clear ho
  go_enter Try.func45, Try.ntmps45
  go_wp2_with (first | ((with_reducible show wpList _ _ _ ({ dst := _, op := Op.store 28 (Operand.tmp 3) _, type := _, pos := _, after := _, guard := _ } :: _) _ _); refine st3 _ _ _ _ (by rfl) (by rfl) (by rfl) (by rfl) (by rfl) ?_) | ((with_reducible show wpList _ _ _ ({ dst := _, op := Op.store 28 (Operand.tmp 2) _, type := _, pos := _, after := _, guard := _ } :: _) _ _); refine stR (w.heap.size + 1) _ _ (by rfl) (by rfl) (by (try simp only [dr_heap]); first | exact fst3 _ _ _ _ | exact last3 _ _ _ _ | exact mid3 _ _ _ _ | exact heap_below (by assumption) (mid3 _ _ _ _) | exact heap_below (by assumption) (fst3 _ _ _ _)) (by rfl) (by rfl) (by rfl) ?_) | ((with_reducible show wpList _ _ _ ({ dst := _, op := Op.load 28 (Operand.tmp 1), type := _, pos := _, after := _, guard := _ } :: _) _ _); refine ld_pk (w.heap.size) (by rfl) (by rfl) _ _ _ (by (try simp only [dr_heap]); first | exact fst3 _ _ _ _ | exact last3 _ _ _ _ | exact mid3 _ _ _ _ | exact heap_below (by assumption) (mid3 _ _ _ _) | exact heap_below (by assumption) (fst3 _ _ _ _)) (by rfl) ?_) | ((with_reducible show wpList _ _ _ ({ dst := _, op := Op.load 28 (Operand.tmp 3), type := _, pos := _, after := _, guard := _ } :: _) _ _); refine ld_pk (w.heap.size + 1 + 1) (by rfl) (by rfl) _ _ _ (by (try simp only [dr_heap]); first | exact fst3 _ _ _ _ | exact last3 _ _ _ _ | exact mid3 _ _ _ _ | exact heap_below (by assumption) (mid3 _ _ _ _) | exact heap_below (by assumption) (fst3 _ _ _ _)) (by rfl) ?_))
  refine wp_region_held_drew (S := fun W => W.heap[w.heap.size]? = some (.cells (pkC p s) 28 (0, 0))) (by rfl) (fst3 _ _ _ _) ?_
  intro hS
  apply wpAnyH_take (i := 0) (v := .pointer (some ⟨w.heap.size, 7, none⟩))
  case hi => rfl
  case hs => kernel_rfl
  case hf => kernel_rfl
  case hr => kernel_rfl
  case hQ => exact fun _ _ _ h => h
  case hS => exact hS
  case hy => exact .inl ⟨by rfl, fun W _ => by simp [execOp, go_sem]⟩
  apply wpAnyH_take (i := 1) (v := .int .i64 p.level)
  case hi => rfl
  case hs => kernel_rfl
  case hf => kernel_rfl
  case hr => kernel_rfl
  case hQ => exact fun _ _ _ h => h
  case hS => exact hS
  case hy => exact .inl ⟨by rfl, fun W hW => by simp [execOp, go_sem, row_cells hW]⟩
  apply wpAnyH_take (i := 2) (v := .pointer (some ⟨w.heap.size, 8, none⟩))
  case hi => rfl
  case hs => kernel_rfl
  case hf => kernel_rfl
  case hr => kernel_rfl
  case hQ => exact fun _ _ _ h => h
  case hS => exact hS
  case hy => exact .inl ⟨by rfl, fun W _ => by simp [execOp, go_sem]⟩
  apply wpAnyH_take (i := 3) (v := .string p.cli)
  case hi => rfl
  case hs => kernel_rfl
  case hf => kernel_rfl
  case hr => kernel_rfl
  case hQ => exact fun _ _ _ h => h
  case hS => exact hS
  case hy => exact .inl ⟨by rfl, fun W hW => by simp [execOp, go_sem, row_cells hW]⟩
  apply wpAnyH_take (i := 4) (v := .pointer (some ⟨w.heap.size, 9, none⟩))
  case hi => rfl
  case hs => kernel_rfl
  case hf => kernel_rfl
  case hr => kernel_rfl
  case hQ => exact fun _ _ _ h => h
  case hS => exact hS
  case hy => exact .inl ⟨by rfl, fun W _ => by simp [execOp, go_sem]⟩
  apply wpAnyH_take (i := 5) (v := .bool p.clean)
  case hi => rfl
  case hs => kernel_rfl
  case hf => kernel_rfl
  case hr => kernel_rfl
  case hQ => exact fun _ _ _ h => h
  case hS => exact hS
  case hy => exact .inl ⟨by rfl, fun W hW => by simp [execOp, go_sem, row_cells hW]⟩
  apply wpAnyH_take (i := 6) (v := .pointer (some ⟨w.heap.size, 10, none⟩))
  case hi => rfl
  case hs => kernel_rfl
  case hf => kernel_rfl
  case hr => kernel_rfl
  case hQ => exact fun _ _ _ h => h
  case hS => exact hS
  case hy => exact .inl ⟨by rfl, fun W _ => by simp [execOp, go_sem]⟩
  apply wpAnyH_take (i := 7) (v := .int .i64 p.keep)
  case hi => rfl
  case hs => kernel_rfl
  case hf => kernel_rfl
  case hr => kernel_rfl
  case hQ => exact fun _ _ _ h => h
  case hS => exact hS
  case hy => exact .inl ⟨by rfl, fun W hW => by simp [execOp, go_sem, row_cells hW]⟩
  apply wpAnyH_take (i := 8) (v := .pointer (some ⟨w.heap.size, 11, none⟩))
  case hi => rfl
  case hs => kernel_rfl
  case hf => kernel_rfl
  case hr => kernel_rfl
  case hQ => exact fun _ _ _ h => h
  case hS => exact hS
  case hy => exact .inl ⟨by rfl, fun W _ => by simp [execOp, go_sem]⟩
  apply wpAnyH_take (i := 9) (v := .bool p.hw)
  case hi => rfl
  case hs => kernel_rfl
  case hf => kernel_rfl
  case hr => kernel_rfl
  case hQ => exact fun _ _ _ h => h
  case hS => exact hS
  case hy => exact .inl ⟨by rfl, fun W hW => by simp [execOp, go_sem, row_cells hW]⟩
  apply wpAnyH_take (i := 10) (v := .pointer (some ⟨w.heap.size, 16, none⟩))
  case hi => rfl
  case hs => kernel_rfl
  case hf => kernel_rfl
  case hr => kernel_rfl
  case hQ => exact fun _ _ _ h => h
  case hS => exact hS
  case hy => exact .inl ⟨by rfl, fun W _ => by simp [execOp, go_sem]⟩
  apply wpAnyH_take (i := 11) (v := .bool p.hu)
  case hi => rfl
  case hs => kernel_rfl
  case hf => kernel_rfl
  case hr => kernel_rfl
  case hQ => exact fun _ _ _ h => h
  case hS => exact hS
  case hy => exact .inl ⟨by rfl, fun W hW => by simp [execOp, go_sem, row_cells hW]⟩
  apply wpAnyH_take (i := 12) (v := .pointer (some ⟨w.heap.size, 17, none⟩))
  case hi => rfl
  case hs => kernel_rfl
  case hf => kernel_rfl
  case hr => kernel_rfl
  case hQ => exact fun _ _ _ h => h
  case hS => exact hS
  case hy => exact .inl ⟨by rfl, fun W _ => by simp [execOp, go_sem]⟩
  apply wpAnyH_take (i := 13) (v := .bool p.hp)
  case hi => rfl
  case hs => kernel_rfl
  case hf => kernel_rfl
  case hr => kernel_rfl
  case hQ => exact fun _ _ _ h => h
  case hS => exact hS
  case hy => exact .inl ⟨by rfl, fun W hW => by simp [execOp, go_sem, row_cells hW]⟩
  apply wpAnyH_take (i := 14) (v := .pointer (some ⟨w.heap.size + 1 + 1, 7, none⟩))
  case hi => rfl
  case hs => kernel_rfl
  case hf => kernel_rfl
  case hr => kernel_rfl
  case hQ => exact fun _ _ _ h => h
  case hS => exact hS
  case hy => exact .inl ⟨by rfl, fun W _ => by simp [execOp, go_sem]⟩
  refine wpAnyH_ready (rs := [15]) (by kernel_rfl) (by simp) (AllReadyH.cons (by rfl) ?_ AllReadyH.nil)
  intro K' hK
  rw [if_pos (by rfl)]
  go_wp2_with fail
  refine hK.out _ _ (fst3 _ _ _ _) ?_
  clear hK K' hS
  intro hS
  apply wpAnyH_take (i := 16) (v := .pointer (some ⟨w.heap.size + 1 + 1, 8, none⟩))
  case hi => rfl
  case hs => kernel_rfl
  case hf => kernel_rfl
  case hr => kernel_rfl
  case hQ => exact fun _ _ _ h => h
  case hS => exact hS
  case hy => exact .inl ⟨by rfl, fun W _ => by simp [execOp, go_sem]⟩
  refine wpAnyH_ready (rs := [17]) (by kernel_rfl) (by simp) (AllReadyH.cons (by rfl) ?_ AllReadyH.nil)
  intro K' hK
  rw [if_pos (by rfl)]
  go_wp2_with fail
  refine hK.out _ _ (fst3 _ _ _ _) ?_
  clear hK K' hS
  intro hS
  apply wpAnyH_take (i := 18) (v := .pointer (some ⟨w.heap.size + 1 + 1, 9, none⟩))
  case hi => rfl
  case hs => kernel_rfl
  case hf => kernel_rfl
  case hr => kernel_rfl
  case hQ => exact fun _ _ _ h => h
  case hS => exact hS
  case hy => exact .inl ⟨by rfl, fun W _ => by simp [execOp, go_sem]⟩
  refine wpAnyH_ready (rs := [19]) (by kernel_rfl) (by simp) (AllReadyH.cons (by rfl) ?_ AllReadyH.nil)
  intro K' hK
  rw [if_pos (by rfl)]
  go_wp2_with fail
  refine hK.out _ _ (fst3 _ _ _ _) ?_
  clear hK K' hS
  intro hS
  apply wpAnyH_take (i := 20) (v := .pointer (some ⟨w.heap.size + 1 + 1, 10, none⟩))
  case hi => rfl
  case hs => kernel_rfl
  case hf => kernel_rfl
  case hr => kernel_rfl
  case hQ => exact fun _ _ _ h => h
  case hS => exact hS
  case hy => exact .inl ⟨by rfl, fun W _ => by simp [execOp, go_sem]⟩
  refine wpAnyH_ready (rs := [21]) (by kernel_rfl) (by simp) (AllReadyH.cons (by rfl) ?_ AllReadyH.nil)
  intro K' hK
  rw [if_pos (by rfl)]
  go_wp2_with fail
  refine hK.out _ _ (fst3 _ _ _ _) ?_
  clear hK K' hS
  intro hS
  apply wpAnyH_take (i := 22) (v := .pointer (some ⟨w.heap.size + 1 + 1, 11, none⟩))
  case hi => rfl
  case hs => kernel_rfl
  case hf => kernel_rfl
  case hr => kernel_rfl
  case hQ => exact fun _ _ _ h => h
  case hS => exact hS
  case hy => exact .inl ⟨by rfl, fun W _ => by simp [execOp, go_sem]⟩
  refine wpAnyH_ready (rs := [23]) (by kernel_rfl) (by simp) (AllReadyH.cons (by rfl) ?_ AllReadyH.nil)
  intro K' hK
  rw [if_pos (by rfl)]
  go_wp2_with fail
  refine hK.out _ _ (fst3 _ _ _ _) ?_
  clear hK K' hS
  intro hS
  apply wpAnyH_take (i := 24) (v := .pointer (some ⟨w.heap.size + 1 + 1, 16, none⟩))
  case hi => rfl
  case hs => kernel_rfl
  case hf => kernel_rfl
  case hr => kernel_rfl
  case hQ => exact fun _ _ _ h => h
  case hS => exact hS
  case hy => exact .inl ⟨by rfl, fun W _ => by simp [execOp, go_sem]⟩
  refine wpAnyH_ready (rs := [25]) (by kernel_rfl) (by simp) (AllReadyH.cons (by rfl) ?_ AllReadyH.nil)
  intro K' hK
  rw [if_pos (by rfl)]
  go_wp2_with fail
  refine hK.out _ _ (fst3 _ _ _ _) ?_
  clear hK K' hS
  intro hS
  apply wpAnyH_take (i := 26) (v := .pointer (some ⟨w.heap.size + 1 + 1, 17, none⟩))
  case hi => rfl
  case hs => kernel_rfl
  case hf => kernel_rfl
  case hr => kernel_rfl
  case hQ => exact fun _ _ _ h => h
  case hS => exact hS
  case hy => exact .inl ⟨by rfl, fun W _ => by simp [execOp, go_sem]⟩
  refine wpAnyH_ready (rs := [27]) (by kernel_rfl) (by simp) (AllReadyH.cons (by rfl) ?_ AllReadyH.nil)
  intro K' hK
  rw [if_pos (by rfl)]
  go_wp2_with fail
  refine hK.out _ _ (fst3 _ _ _ _) ?_
  clear hK K' hS
  intro hS
  refine wpAnyH_done (by kernel_rfl) ?_ _
  go_wp2_with (first | ((with_reducible show wpList _ _ _ ({ dst := _, op := Op.load 24 _, type := _, pos := _, after := _, guard := _ } :: _) _ _); refine ld_wl (w.heap.size) p s (by rfl) (by rfl) _ _ (by (first | assumption | exact heap_alloc_last _ _ | (repeat (first | assumption | exact heap_alloc_last _ _ | exact heap_last2 _ _ _ | refine heap_keep ?_ | refine heap_below (by assumption) ?_)))) ?_) | ((with_reducible show wpList _ _ _ ({ dst := _, op := Op.store 28 (Operand.tmp 3) _, type := _, pos := _, after := _, guard := _ } :: _) _ _); refine st3 _ _ _ _ (by rfl) (by rfl) (by rfl) (by rfl) (by rfl) ?_) | ((with_reducible show wpList _ _ _ ({ dst := _, op := Op.store 28 (Operand.tmp 2) _, type := _, pos := _, after := _, guard := _ } :: _) _ _); refine stR (w.heap.size + 1) _ _ (by rfl) (by rfl) (by (try simp only [dr_heap]); first | exact fst3 _ _ _ _ | exact last3 _ _ _ _ | exact mid3 _ _ _ _ | exact heap_below (by assumption) (mid3 _ _ _ _) | exact heap_below (by assumption) (fst3 _ _ _ _)) (by rfl) (by rfl) (by rfl) ?_) | ((with_reducible show wpList _ _ _ ({ dst := _, op := Op.load 28 (Operand.tmp 1), type := _, pos := _, after := _, guard := _ } :: _) _ _); refine ld_pk (w.heap.size) (by rfl) (by rfl) _ _ _ (by (try simp only [dr_heap]); first | exact fst3 _ _ _ _ | exact last3 _ _ _ _ | exact mid3 _ _ _ _ | exact heap_below (by assumption) (mid3 _ _ _ _) | exact heap_below (by assumption) (fst3 _ _ _ _)) (by rfl) ?_) | ((with_reducible show wpList _ _ _ ({ dst := _, op := Op.load 28 (Operand.tmp 3), type := _, pos := _, after := _, guard := _ } :: _) _ _); refine ld_pk (w.heap.size + 1 + 1) (by rfl) (by rfl) _ _ _ (by (try simp only [dr_heap]); first | exact fst3 _ _ _ _ | exact last3 _ _ _ _ | exact mid3 _ _ _ _ | exact heap_below (by assumption) (mid3 _ _ _ _) | exact heap_below (by assumption) (fst3 _ _ _ _)) (by rfl) ?_))
  (refine bodyPost_ret (v := .agg _) (results_cell_row (by rfl) _ _ (w.heap.size + 1) 28 _ (0, 0) _ (by rfl) (setRow_heap _ _ _ _ _ _ (by (try simp only [dr_heap]); first | exact fst3 _ _ _ _ | exact last3 _ _ _ _ | exact mid3 _ _ _ _ | exact heap_below (by assumption) (mid3 _ _ _ _) | exact heap_below (by assumption) (fst3 _ _ _ _))) Try.underlying28 (by rfl) (by exact pk_sz)) (by rfl) ⟨congrArg (fun c => Ending.returned (.agg c)) ?_, ?_⟩; (· first | (simp [wrP, wrS, *]; done) | (simp [wrP, wrS, *]; rfl) | rfl); (· exact below_setRow (by (repeat (first | assumption | exact Below.refl _ _ | exact (Below.refl _ _).alloc (Nat.le_refl _) _ | (refine thn ?_ (by assumption)) | (refine alB ?_ _) | (refine dwN ?_ _) | (refine Below.drew ?_)))) (by omega) _))

set_option maxRecDepth 100000 in
set_option maxHeartbeats 8000000 in
theorem only_ttt (p : Pk) (s : Sv) (w : World) (k1 : (p.kind == 1) = true) (e1 : p.hw = true) (e2 : p.hu = true) (e3 : p.hp = true) :
    Calls Try.prog 45 #[pkV p s] w fun e w' => e = .returned (pkV (onP p) (wrS p s)) ∧ Below w.heap.size w w' := by
  have ho : onP p = wrP p := by
    have hk : p.kind = 1 := by simpa using k1
    unfold onP
    rw [if_neg (by rw [hk]; decide)]
  rw [ho]
  clear ho
  go_enter Try.func45, Try.ntmps45
  go_wp2_with (first | ((with_reducible show wpList _ _ _ ({ dst := _, op := Op.store 28 (Operand.tmp 3) _, type := _, pos := _, after := _, guard := _ } :: _) _ _); refine st3 _ _ _ _ (by rfl) (by rfl) (by rfl) (by rfl) (by rfl) ?_) | ((with_reducible show wpList _ _ _ ({ dst := _, op := Op.store 28 (Operand.tmp 2) _, type := _, pos := _, after := _, guard := _ } :: _) _ _); refine stR (w.heap.size + 1) _ _ (by rfl) (by rfl) (by (try simp only [dr_heap]); first | exact fst3 _ _ _ _ | exact last3 _ _ _ _ | exact mid3 _ _ _ _ | exact heap_below (by assumption) (mid3 _ _ _ _) | exact heap_below (by assumption) (fst3 _ _ _ _)) (by rfl) (by rfl) (by rfl) ?_) | ((with_reducible show wpList _ _ _ ({ dst := _, op := Op.load 28 (Operand.tmp 1), type := _, pos := _, after := _, guard := _ } :: _) _ _); refine ld_pk (w.heap.size) (by rfl) (by rfl) _ _ _ (by (try simp only [dr_heap]); first | exact fst3 _ _ _ _ | exact last3 _ _ _ _ | exact mid3 _ _ _ _ | exact heap_below (by assumption) (mid3 _ _ _ _) | exact heap_below (by assumption) (fst3 _ _ _ _)) (by rfl) ?_) | ((with_reducible show wpList _ _ _ ({ dst := _, op := Op.load 28 (Operand.tmp 3), type := _, pos := _, after := _, guard := _ } :: _) _ _); refine ld_pk (w.heap.size + 1 + 1) (by rfl) (by rfl) _ _ _ (by (try simp only [dr_heap]); first | exact fst3 _ _ _ _ | exact last3 _ _ _ _ | exact mid3 _ _ _ _ | exact heap_below (by assumption) (mid3 _ _ _ _) | exact heap_below (by assumption) (fst3 _ _ _ _)) (by rfl) ?_))
  refine wp_region_held_drew (S := fun W => W.heap[w.heap.size]? = some (.cells (pkC p s) 28 (0, 0))) (by rfl) (fst3 _ _ _ _) ?_
  intro hS
  apply wpAnyH_take (i := 0) (v := .pointer (some ⟨w.heap.size, 7, none⟩))
  case hi => rfl
  case hs => kernel_rfl
  case hf => kernel_rfl
  case hr => kernel_rfl
  case hQ => exact fun _ _ _ h => h
  case hS => exact hS
  case hy => exact .inl ⟨by rfl, fun W _ => by simp [execOp, go_sem]⟩
  apply wpAnyH_take (i := 1) (v := .int .i64 p.level)
  case hi => rfl
  case hs => kernel_rfl
  case hf => kernel_rfl
  case hr => kernel_rfl
  case hQ => exact fun _ _ _ h => h
  case hS => exact hS
  case hy => exact .inl ⟨by rfl, fun W hW => by simp [execOp, go_sem, row_cells hW]⟩
  apply wpAnyH_take (i := 2) (v := .pointer (some ⟨w.heap.size, 8, none⟩))
  case hi => rfl
  case hs => kernel_rfl
  case hf => kernel_rfl
  case hr => kernel_rfl
  case hQ => exact fun _ _ _ h => h
  case hS => exact hS
  case hy => exact .inl ⟨by rfl, fun W _ => by simp [execOp, go_sem]⟩
  apply wpAnyH_take (i := 3) (v := .string p.cli)
  case hi => rfl
  case hs => kernel_rfl
  case hf => kernel_rfl
  case hr => kernel_rfl
  case hQ => exact fun _ _ _ h => h
  case hS => exact hS
  case hy => exact .inl ⟨by rfl, fun W hW => by simp [execOp, go_sem, row_cells hW]⟩
  apply wpAnyH_take (i := 4) (v := .pointer (some ⟨w.heap.size, 9, none⟩))
  case hi => rfl
  case hs => kernel_rfl
  case hf => kernel_rfl
  case hr => kernel_rfl
  case hQ => exact fun _ _ _ h => h
  case hS => exact hS
  case hy => exact .inl ⟨by rfl, fun W _ => by simp [execOp, go_sem]⟩
  apply wpAnyH_take (i := 5) (v := .bool p.clean)
  case hi => rfl
  case hs => kernel_rfl
  case hf => kernel_rfl
  case hr => kernel_rfl
  case hQ => exact fun _ _ _ h => h
  case hS => exact hS
  case hy => exact .inl ⟨by rfl, fun W hW => by simp [execOp, go_sem, row_cells hW]⟩
  apply wpAnyH_take (i := 6) (v := .pointer (some ⟨w.heap.size, 10, none⟩))
  case hi => rfl
  case hs => kernel_rfl
  case hf => kernel_rfl
  case hr => kernel_rfl
  case hQ => exact fun _ _ _ h => h
  case hS => exact hS
  case hy => exact .inl ⟨by rfl, fun W _ => by simp [execOp, go_sem]⟩
  apply wpAnyH_take (i := 7) (v := .int .i64 p.keep)
  case hi => rfl
  case hs => kernel_rfl
  case hf => kernel_rfl
  case hr => kernel_rfl
  case hQ => exact fun _ _ _ h => h
  case hS => exact hS
  case hy => exact .inl ⟨by rfl, fun W hW => by simp [execOp, go_sem, row_cells hW]⟩
  apply wpAnyH_take (i := 8) (v := .pointer (some ⟨w.heap.size, 11, none⟩))
  case hi => rfl
  case hs => kernel_rfl
  case hf => kernel_rfl
  case hr => kernel_rfl
  case hQ => exact fun _ _ _ h => h
  case hS => exact hS
  case hy => exact .inl ⟨by rfl, fun W _ => by simp [execOp, go_sem]⟩
  apply wpAnyH_take (i := 9) (v := .bool p.hw)
  case hi => rfl
  case hs => kernel_rfl
  case hf => kernel_rfl
  case hr => kernel_rfl
  case hQ => exact fun _ _ _ h => h
  case hS => exact hS
  case hy => exact .inl ⟨by rfl, fun W hW => by simp [execOp, go_sem, row_cells hW]⟩
  apply wpAnyH_take (i := 10) (v := .pointer (some ⟨w.heap.size, 16, none⟩))
  case hi => rfl
  case hs => kernel_rfl
  case hf => kernel_rfl
  case hr => kernel_rfl
  case hQ => exact fun _ _ _ h => h
  case hS => exact hS
  case hy => exact .inl ⟨by rfl, fun W _ => by simp [execOp, go_sem]⟩
  apply wpAnyH_take (i := 11) (v := .bool p.hu)
  case hi => rfl
  case hs => kernel_rfl
  case hf => kernel_rfl
  case hr => kernel_rfl
  case hQ => exact fun _ _ _ h => h
  case hS => exact hS
  case hy => exact .inl ⟨by rfl, fun W hW => by simp [execOp, go_sem, row_cells hW]⟩
  apply wpAnyH_take (i := 12) (v := .pointer (some ⟨w.heap.size, 17, none⟩))
  case hi => rfl
  case hs => kernel_rfl
  case hf => kernel_rfl
  case hr => kernel_rfl
  case hQ => exact fun _ _ _ h => h
  case hS => exact hS
  case hy => exact .inl ⟨by rfl, fun W _ => by simp [execOp, go_sem]⟩
  apply wpAnyH_take (i := 13) (v := .bool p.hp)
  case hi => rfl
  case hs => kernel_rfl
  case hf => kernel_rfl
  case hr => kernel_rfl
  case hQ => exact fun _ _ _ h => h
  case hS => exact hS
  case hy => exact .inl ⟨by rfl, fun W hW => by simp [execOp, go_sem, row_cells hW]⟩
  apply wpAnyH_take (i := 14) (v := .pointer (some ⟨w.heap.size + 1 + 1, 7, none⟩))
  case hi => rfl
  case hs => kernel_rfl
  case hf => kernel_rfl
  case hr => kernel_rfl
  case hQ => exact fun _ _ _ h => h
  case hS => exact hS
  case hy => exact .inl ⟨by rfl, fun W _ => by simp [execOp, go_sem]⟩
  refine wpAnyH_ready (rs := [15]) (by kernel_rfl) (by simp) (AllReadyH.cons (by rfl) ?_ AllReadyH.nil)
  intro K' hK
  rw [if_pos (by rfl)]
  go_wp2_with fail
  refine hK.out _ _ (fst3 _ _ _ _) ?_
  clear hK K' hS
  intro hS
  apply wpAnyH_take (i := 16) (v := .pointer (some ⟨w.heap.size + 1 + 1, 8, none⟩))
  case hi => rfl
  case hs => kernel_rfl
  case hf => kernel_rfl
  case hr => kernel_rfl
  case hQ => exact fun _ _ _ h => h
  case hS => exact hS
  case hy => exact .inl ⟨by rfl, fun W _ => by simp [execOp, go_sem]⟩
  refine wpAnyH_ready (rs := [17]) (by kernel_rfl) (by simp) (AllReadyH.cons (by rfl) ?_ AllReadyH.nil)
  intro K' hK
  rw [if_pos (by rfl)]
  go_wp2_with fail
  refine hK.out _ _ (fst3 _ _ _ _) ?_
  clear hK K' hS
  intro hS
  apply wpAnyH_take (i := 18) (v := .pointer (some ⟨w.heap.size + 1 + 1, 9, none⟩))
  case hi => rfl
  case hs => kernel_rfl
  case hf => kernel_rfl
  case hr => kernel_rfl
  case hQ => exact fun _ _ _ h => h
  case hS => exact hS
  case hy => exact .inl ⟨by rfl, fun W _ => by simp [execOp, go_sem]⟩
  refine wpAnyH_ready (rs := [19]) (by kernel_rfl) (by simp) (AllReadyH.cons (by rfl) ?_ AllReadyH.nil)
  intro K' hK
  rw [if_pos (by rfl)]
  go_wp2_with fail
  refine hK.out _ _ (fst3 _ _ _ _) ?_
  clear hK K' hS
  intro hS
  apply wpAnyH_take (i := 20) (v := .pointer (some ⟨w.heap.size + 1 + 1, 10, none⟩))
  case hi => rfl
  case hs => kernel_rfl
  case hf => kernel_rfl
  case hr => kernel_rfl
  case hQ => exact fun _ _ _ h => h
  case hS => exact hS
  case hy => exact .inl ⟨by rfl, fun W _ => by simp [execOp, go_sem]⟩
  refine wpAnyH_ready (rs := [21]) (by kernel_rfl) (by simp) (AllReadyH.cons (by rfl) ?_ AllReadyH.nil)
  intro K' hK
  rw [if_pos (by rfl)]
  go_wp2_with fail
  refine hK.out _ _ (fst3 _ _ _ _) ?_
  clear hK K' hS
  intro hS
  apply wpAnyH_take (i := 22) (v := .pointer (some ⟨w.heap.size + 1 + 1, 11, none⟩))
  case hi => rfl
  case hs => kernel_rfl
  case hf => kernel_rfl
  case hr => kernel_rfl
  case hQ => exact fun _ _ _ h => h
  case hS => exact hS
  case hy => exact .inl ⟨by rfl, fun W _ => by simp [execOp, go_sem]⟩
  refine wpAnyH_ready (rs := [23]) (by kernel_rfl) (by simp) (AllReadyH.cons (by rfl) ?_ AllReadyH.nil)
  intro K' hK
  rw [if_pos (by rfl)]
  go_wp2_with fail
  refine hK.out _ _ (fst3 _ _ _ _) ?_
  clear hK K' hS
  intro hS
  apply wpAnyH_take (i := 24) (v := .pointer (some ⟨w.heap.size + 1 + 1, 16, none⟩))
  case hi => rfl
  case hs => kernel_rfl
  case hf => kernel_rfl
  case hr => kernel_rfl
  case hQ => exact fun _ _ _ h => h
  case hS => exact hS
  case hy => exact .inl ⟨by rfl, fun W _ => by simp [execOp, go_sem]⟩
  refine wpAnyH_ready (rs := [25]) (by kernel_rfl) (by simp) (AllReadyH.cons (by rfl) ?_ AllReadyH.nil)
  intro K' hK
  rw [if_pos (by rfl)]
  go_wp2_with fail
  refine hK.out _ _ (fst3 _ _ _ _) ?_
  clear hK K' hS
  intro hS
  apply wpAnyH_take (i := 26) (v := .pointer (some ⟨w.heap.size + 1 + 1, 17, none⟩))
  case hi => rfl
  case hs => kernel_rfl
  case hf => kernel_rfl
  case hr => kernel_rfl
  case hQ => exact fun _ _ _ h => h
  case hS => exact hS
  case hy => exact .inl ⟨by rfl, fun W _ => by simp [execOp, go_sem]⟩
  refine wpAnyH_ready (rs := [27]) (by kernel_rfl) (by simp) (AllReadyH.cons (by rfl) ?_ AllReadyH.nil)
  intro K' hK
  rw [if_pos (by rfl)]
  go_wp2_with fail
  refine hK.out _ _ (fst3 _ _ _ _) ?_
  clear hK K' hS
  intro hS
  refine wpAnyH_done (by kernel_rfl) ?_ _
  go_wp2_with (first | ((with_reducible show wpList _ _ _ ({ dst := _, op := Op.load 24 _, type := _, pos := _, after := _, guard := _ } :: _) _ _); refine ld_wl (w.heap.size) p s (by rfl) (by rfl) _ _ (by (first | assumption | exact heap_alloc_last _ _ | (repeat (first | assumption | exact heap_alloc_last _ _ | exact heap_last2 _ _ _ | refine heap_keep ?_ | refine heap_below (by assumption) ?_)))) ?_) | ((with_reducible show wpList _ _ _ ({ dst := _, op := Op.store 28 (Operand.tmp 3) _, type := _, pos := _, after := _, guard := _ } :: _) _ _); refine st3 _ _ _ _ (by rfl) (by rfl) (by rfl) (by rfl) (by rfl) ?_) | ((with_reducible show wpList _ _ _ ({ dst := _, op := Op.store 28 (Operand.tmp 2) _, type := _, pos := _, after := _, guard := _ } :: _) _ _); refine stR (w.heap.size + 1) _ _ (by rfl) (by rfl) (by (try simp only [dr_heap]); first | exact fst3 _ _ _ _ | exact last3 _ _ _ _ | exact mid3 _ _ _ _ | exact heap_below (by assumption) (mid3 _ _ _ _) | exact heap_below (by assumption) (fst3 _ _ _ _)) (by rfl) (by rfl) (by rfl) ?_) | ((with_reducible show wpList _ _ _ ({ dst := _, op := Op.load 28 (Operand.tmp 1), type := _, pos := _, after := _, guard := _ } :: _) _ _); refine ld_pk (w.heap.size) (by rfl) (by rfl) _ _ _ (by (try simp only [dr_heap]); first | exact fst3 _ _ _ _ | exact last3 _ _ _ _ | exact mid3 _ _ _ _ | exact heap_below (by assumption) (mid3 _ _ _ _) | exact heap_below (by assumption) (fst3 _ _ _ _)) (by rfl) ?_) | ((with_reducible show wpList _ _ _ ({ dst := _, op := Op.load 28 (Operand.tmp 3), type := _, pos := _, after := _, guard := _ } :: _) _ _); refine ld_pk (w.heap.size + 1 + 1) (by rfl) (by rfl) _ _ _ (by (try simp only [dr_heap]); first | exact fst3 _ _ _ _ | exact last3 _ _ _ _ | exact mid3 _ _ _ _ | exact heap_below (by assumption) (mid3 _ _ _ _) | exact heap_below (by assumption) (fst3 _ _ _ _)) (by rfl) ?_))
  (refine bodyPost_ret (v := .agg _) (results_cell_row (by rfl) _ _ (w.heap.size + 1) 28 _ (0, 0) _ (by rfl) (setRow_heap _ _ _ _ _ _ (by (try simp only [dr_heap]); first | exact fst3 _ _ _ _ | exact last3 _ _ _ _ | exact mid3 _ _ _ _ | exact heap_below (by assumption) (mid3 _ _ _ _) | exact heap_below (by assumption) (fst3 _ _ _ _))) Try.underlying28 (by rfl) (by exact pk_sz)) (by rfl) ⟨congrArg (fun c => Ending.returned (.agg c)) ?_, ?_⟩; (· first | (simp [wrP, wrS, *]; done) | (simp [wrP, wrS, *]; rfl) | rfl); (· exact below_setRow (by (repeat (first | assumption | exact Below.refl _ _ | exact (Below.refl _ _).alloc (Nat.le_refl _) _ | (refine thn ?_ (by assumption)) | (refine alB ?_ _) | (refine dwN ?_ _) | (refine Below.drew ?_)))) (by omega) _))

theorem only_1 (p : Pk) (s : Sv) (w : World) (k1 : (p.kind == 1) = true) :
    Calls Try.prog 45 #[pkV p s] w fun e w' => e = .returned (pkV (onP p) (wrS p s)) ∧ Below w.heap.size w w' := by
  rcases e1 : p.hw with _ | _ <;> rcases e2 : p.hu with _ | _ <;> rcases e3 : p.hp with _ | _
  · exact only_fff p s w k1 e1 e2 e3
  · exact only_fft p s w k1 e1 e2 e3
  · exact only_ftf p s w k1 e1 e2 e3
  · exact only_ftt p s w k1 e1 e2 e3
  · exact only_tff p s w k1 e1 e2 e3
  · exact only_tft p s w k1 e1 e2 e3
  · exact only_ttf p s w k1 e1 e2 e3
  · exact only_ttt p s w k1 e1 e2 e3
end Go.Proofs.Ytghcgdjpmgmaaaa
