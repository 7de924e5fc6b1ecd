import Derived.Test.YtnhpacaoobpkhaaGWr
import Derived.Test.YtnhpacaoobpkhaaAdd3
import Derived.Deep.RegionHeld3
namespace Go.Proofs.Ytnhpacaoobpkhaa
open Go.RowKit Go.Lib
set_option linter.unusedVariables false
set_option maxRecDepth 100000
set_option maxHeartbeats 8000000
theorem only_fff (p:Pk)(s:Sv)(w:World)(k1:(p.kind==1)=true)(e1:p.hw=false)(e2:p.hu=false)(e3:p.hp=false) :
  Calls Try.prog 45 #[pkV p s] w fun e w'=>e=.returned (pkV (onP p) (wrS p s))∧Below w.heap.size w w':=by
 have ho:onP p=wrP p:=by
  have hk:p.kind=1:=by simpa using k1
  unfold onP
  rw [if_neg (by rw [hk];decide)]
 rw [ho]
 clear ho
 go_enter Try.func45,Try.ntmps45
 go_wp2_with (first | ((with_reducible show wpList _ _ _ (⟨_,.store 28 (.tmp 3) _,_,_,_,_⟩ :: _) _ _);refine st3 _ _ _ _ (by rfl) (by rfl) (by rfl) (by rfl) (by rfl) ?_) | ((with_reducible show wpList _ _ _ (⟨_,.store 28 (.tmp 2) _,_,_,_,_⟩ :: _) _ _);refine stR (w.heap.size+1) _ _ (by rfl) (by rfl) (by (try simp only [dr_heap]);first | exact fst3 _ _ _ _ | exact last3 _ _ _ _ | exact mid3 _ _ _ _ | exact heap_below (by assumption) (mid3 _ _ _ _) | exact heap_below (by assumption) (fst3 _ _ _ _)) (by rfl) (by rfl) (by rfl) ?_) | ((with_reducible show wpList _ _ _ (⟨_,.load 28 (.tmp 1),_,_,_,_⟩ :: _) _ _);refine ld_pk (w.heap.size) (by rfl) (by rfl) _ _ _ (by (try simp only [dr_heap]);first | exact fst3 _ _ _ _ | exact last3 _ _ _ _ | exact mid3 _ _ _ _ | exact heap_below (by assumption) (mid3 _ _ _ _) | exact heap_below (by assumption) (fst3 _ _ _ _)) (by rfl) ?_) | ((with_reducible show wpList _ _ _ (⟨_,.load 28 (.tmp 3),_,_,_,_⟩ :: _) _ _);refine ld_pk (w.heap.size+1+1) (by rfl) (by rfl) _ _ _ (by (try simp only [dr_heap]);first | exact fst3 _ _ _ _ | exact last3 _ _ _ _ | exact mid3 _ _ _ _ | exact heap_below (by assumption) (mid3 _ _ _ _) | exact heap_below (by assumption) (fst3 _ _ _ _)) (by rfl) ?_))
 refine wp_region_held_drew (S:=fun W=>W.heap[w.heap.size]? = some (.cells (pkC p s) 28 (0,0))) (by rfl) (fst3 _ _ _ _) ?_
 intro hS
 refine tkH 0 (.pointer (some ⟨w.heap.size,7,none⟩)) hS ?_
 refine tkH 1 (.int .i64 p.level) hS ?_ (hy:=.inl ⟨by rfl,fun W hW=>by simp [execOp,go_sem,row_cells hW]⟩)
 refine tkH 2 (.pointer (some ⟨w.heap.size,8,none⟩)) hS ?_
 refine tkH 3 (.string p.cli) hS ?_ (hy:=.inl ⟨by rfl,fun W hW=>by simp [execOp,go_sem,row_cells hW]⟩)
 refine tkH 4 (.pointer (some ⟨w.heap.size,9,none⟩)) hS ?_
 refine tkH 5 (.bool p.clean) hS ?_ (hy:=.inl ⟨by rfl,fun W hW=>by simp [execOp,go_sem,row_cells hW]⟩)
 refine tkH 6 (.pointer (some ⟨w.heap.size,10,none⟩)) hS ?_
 refine tkH 7 (.int .i64 p.keep) hS ?_ (hy:=.inl ⟨by rfl,fun W hW=>by simp [execOp,go_sem,row_cells hW]⟩)
 refine tkH 8 (.pointer (some ⟨w.heap.size,11,none⟩)) hS ?_
 refine tkH 9 (.bool p.hw) hS ?_ (hy:=.inl ⟨by rfl,fun W hW=>by simp [execOp,go_sem,row_cells hW]⟩)
 refine tkH 10 (.pointer (some ⟨w.heap.size,16,none⟩)) hS ?_
 refine tkH 11 (.bool p.hu) hS ?_ (hy:=.inl ⟨by rfl,fun W hW=>by simp [execOp,go_sem,row_cells hW]⟩)
 refine tkH 12 (.pointer (some ⟨w.heap.size,17,none⟩)) hS ?_
 refine tkH 13 (.bool p.hp) hS ?_ (hy:=.inl ⟨by rfl,fun W hW=>by simp [execOp,go_sem,row_cells hW]⟩)
 refine tkH 14 (.pointer (some ⟨w.heap.size+1+1,7,none⟩)) hS ?_
 refine wpAnyH_ready (rs:=[15]) (by kernel_rfl) (by simp) (AllReadyH.cons (by rfl) ?_ AllReadyH.nil)
 intro K' hK
 rw [if_pos (by rfl)]
 go_wp2_with fail
 refine hK.out _ _ (fst3 _ _ _ _) ?_
 clear hK K' hS
 intro hS
 refine tkH 16 (.pointer (some ⟨w.heap.size+1+1,8,none⟩)) hS ?_
 refine wpAnyH_ready (rs:=[17]) (by kernel_rfl) (by simp) (AllReadyH.cons (by rfl) ?_ AllReadyH.nil)
 intro K' hK
 rw [if_pos (by rfl)]
 go_wp2_with fail
 refine hK.out _ _ (fst3 _ _ _ _) ?_
 clear hK K' hS
 intro hS
 refine tkH 18 (.pointer (some ⟨w.heap.size+1+1,9,none⟩)) hS ?_
 refine wpAnyH_ready (rs:=[19]) (by kernel_rfl) (by simp) (AllReadyH.cons (by rfl) ?_ AllReadyH.nil)
 intro K' hK
 rw [if_pos (by rfl)]
 go_wp2_with fail
 refine hK.out _ _ (fst3 _ _ _ _) ?_
 clear hK K' hS
 intro hS
 refine tkH 20 (.pointer (some ⟨w.heap.size+1+1,10,none⟩)) hS ?_
 refine wpAnyH_ready (rs:=[21]) (by kernel_rfl) (by simp) (AllReadyH.cons (by rfl) ?_ AllReadyH.nil)
 intro K' hK
 rw [if_pos (by rfl)]
 go_wp2_with fail
 refine hK.out _ _ (fst3 _ _ _ _) ?_
 clear hK K' hS
 intro hS
 refine tkH 22 (.pointer (some ⟨w.heap.size+1+1,11,none⟩)) hS ?_
 refine wpAnyH_ready (rs:=[23]) (by kernel_rfl) (by simp) (AllReadyH.cons (by rfl) ?_ AllReadyH.nil)
 intro K' hK
 rw [if_pos (by rfl)]
 go_wp2_with fail
 refine hK.out _ _ (fst3 _ _ _ _) ?_
 clear hK K' hS
 intro hS
 refine tkH 24 (.pointer (some ⟨w.heap.size+1+1,16,none⟩)) hS ?_
 refine wpAnyH_ready (rs:=[25]) (by kernel_rfl) (by simp) (AllReadyH.cons (by rfl) ?_ AllReadyH.nil)
 intro K' hK
 rw [if_pos (by rfl)]
 go_wp2_with fail
 refine hK.out _ _ (fst3 _ _ _ _) ?_
 clear hK K' hS
 intro hS
 refine tkH 26 (.pointer (some ⟨w.heap.size+1+1,17,none⟩)) hS ?_
 refine wpAnyH_ready (rs:=[27]) (by kernel_rfl) (by simp) (AllReadyH.cons (by rfl) ?_ AllReadyH.nil)
 intro K' hK
 rw [if_pos (by rfl)]
 go_wp2_with fail
 refine hK.out _ _ (fst3 _ _ _ _) ?_
 clear hK K' hS
 intro hS
 refine wpAnyH_done (by kernel_rfl) ?_ _
 go_wp2_with (first | ((with_reducible show wpList _ _ _ (⟨_,.load 24 _,_,_,_,_⟩ :: _) _ _);refine ld_wl (w.heap.size) p s (by rfl) (by rfl) _ _ (by (first | assumption | exact heap_alloc_last _ _ | (repeat (first | assumption | exact heap_alloc_last _ _ | exact heap_last2 _ _ _ | refine heap_keep ?_ | refine heap_below (by assumption) ?_)))) ?_) | ((with_reducible show wpList _ _ _ (⟨_,.store 28 (.tmp 3) _,_,_,_,_⟩ :: _) _ _);refine st3 _ _ _ _ (by rfl) (by rfl) (by rfl) (by rfl) (by rfl) ?_) | ((with_reducible show wpList _ _ _ (⟨_,.store 28 (.tmp 2) _,_,_,_,_⟩ :: _) _ _);refine stR (w.heap.size+1) _ _ (by rfl) (by rfl) (by (try simp only [dr_heap]);first | exact fst3 _ _ _ _ | exact last3 _ _ _ _ | exact mid3 _ _ _ _ | exact heap_below (by assumption) (mid3 _ _ _ _) | exact heap_below (by assumption) (fst3 _ _ _ _)) (by rfl) (by rfl) (by rfl) ?_) | ((with_reducible show wpList _ _ _ (⟨_,.load 28 (.tmp 1),_,_,_,_⟩ :: _) _ _);refine ld_pk (w.heap.size) (by rfl) (by rfl) _ _ _ (by (try simp only [dr_heap]);first | exact fst3 _ _ _ _ | exact last3 _ _ _ _ | exact mid3 _ _ _ _ | exact heap_below (by assumption) (mid3 _ _ _ _) | exact heap_below (by assumption) (fst3 _ _ _ _)) (by rfl) ?_) | ((with_reducible show wpList _ _ _ (⟨_,.load 28 (.tmp 3),_,_,_,_⟩ :: _) _ _);refine ld_pk (w.heap.size+1+1) (by rfl) (by rfl) _ _ _ (by (try simp only [dr_heap]);first | exact fst3 _ _ _ _ | exact last3 _ _ _ _ | exact mid3 _ _ _ _ | exact heap_below (by assumption) (mid3 _ _ _ _) | exact heap_below (by assumption) (fst3 _ _ _ _)) (by rfl) ?_))
 (refine bodyPost_ret (v:=.agg _) (results_cell_row (by rfl) _ _ (w.heap.size+1) 28 _ (0,0) _ (by rfl) (setRow_heap _ _ _ _ _ _ (by (try simp only [dr_heap]);first | exact fst3 _ _ _ _ | exact last3 _ _ _ _ | exact mid3 _ _ _ _ | exact heap_below (by assumption) (mid3 _ _ _ _) | exact heap_below (by assumption) (fst3 _ _ _ _))) Try.underlying28 (by rfl) (by exact pk_sz)) (by rfl) ⟨congrArg (fun c=>Ending.returned (.agg c)) ?_,?_⟩;(· first | (simp [wrP,wrS, *];done) | (simp [wrP,wrS, *];rfl) | rfl);(· exact below_setRow (by (repeat (first | assumption | exact Below.refl _ _ | exact (Below.refl _ _).alloc (Nat.le_refl _) _ | (refine thn ?_ (by assumption)) | (refine alB ?_ _) | (refine dwN ?_ _) | (refine Below.drew ?_)))) (by omega) _))
theorem only_fft (p:Pk)(s:Sv)(w:World)(k1:(p.kind==1)=true)(e1:p.hw=false)(e2:p.hu=false)(e3:p.hp=true) :
  Calls Try.prog 45 #[pkV p s] w fun e w'=>e=.returned (pkV (onP p) (wrS p s))∧Below w.heap.size w w':=by
 have ho:onP p=wrP p:=by
  have hk:p.kind=1:=by simpa using k1
  unfold onP
  rw [if_neg (by rw [hk];decide)]
 rw [ho]
 clear ho
 go_enter Try.func45,Try.ntmps45
 go_wp2_with (first | ((with_reducible show wpList _ _ _ (⟨_,.store 28 (.tmp 3) _,_,_,_,_⟩ :: _) _ _);refine st3 _ _ _ _ (by rfl) (by rfl) (by rfl) (by rfl) (by rfl) ?_) | ((with_reducible show wpList _ _ _ (⟨_,.store 28 (.tmp 2) _,_,_,_,_⟩ :: _) _ _);refine stR (w.heap.size+1) _ _ (by rfl) (by rfl) (by (try simp only [dr_heap]);first | exact fst3 _ _ _ _ | exact last3 _ _ _ _ | exact mid3 _ _ _ _ | exact heap_below (by assumption) (mid3 _ _ _ _) | exact heap_below (by assumption) (fst3 _ _ _ _)) (by rfl) (by rfl) (by rfl) ?_) | ((with_reducible show wpList _ _ _ (⟨_,.load 28 (.tmp 1),_,_,_,_⟩ :: _) _ _);refine ld_pk (w.heap.size) (by rfl) (by rfl) _ _ _ (by (try simp only [dr_heap]);first | exact fst3 _ _ _ _ | exact last3 _ _ _ _ | exact mid3 _ _ _ _ | exact heap_below (by assumption) (mid3 _ _ _ _) | exact heap_below (by assumption) (fst3 _ _ _ _)) (by rfl) ?_) | ((with_reducible show wpList _ _ _ (⟨_,.load 28 (.tmp 3),_,_,_,_⟩ :: _) _ _);refine ld_pk (w.heap.size+1+1) (by rfl) (by rfl) _ _ _ (by (try simp only [dr_heap]);first | exact fst3 _ _ _ _ | exact last3 _ _ _ _ | exact mid3 _ _ _ _ | exact heap_below (by assumption) (mid3 _ _ _ _) | exact heap_below (by assumption) (fst3 _ _ _ _)) (by rfl) ?_))
 refine wp_region_held_drew (S:=fun W=>W.heap[w.heap.size]? = some (.cells (pkC p s) 28 (0,0))) (by rfl) (fst3 _ _ _ _) ?_
 intro hS
 refine tkH 0 (.pointer (some ⟨w.heap.size,7,none⟩)) hS ?_
 refine tkH 1 (.int .i64 p.level) hS ?_ (hy:=.inl ⟨by rfl,fun W hW=>by simp [execOp,go_sem,row_cells hW]⟩)
 refine tkH 2 (.pointer (some ⟨w.heap.size,8,none⟩)) hS ?_
 refine tkH 3 (.string p.cli) hS ?_ (hy:=.inl ⟨by rfl,fun W hW=>by simp [execOp,go_sem,row_cells hW]⟩)
 refine tkH 4 (.pointer (some ⟨w.heap.size,9,none⟩)) hS ?_
 refine tkH 5 (.bool p.clean) hS ?_ (hy:=.inl ⟨by rfl,fun W hW=>by simp [execOp,go_sem,row_cells hW]⟩)
 refine tkH 6 (.pointer (some ⟨w.heap.size,10,none⟩)) hS ?_
 refine tkH 7 (.int .i64 p.keep) hS ?_ (hy:=.inl ⟨by rfl,fun W hW=>by simp [execOp,go_sem,row_cells hW]⟩)
 refine tkH 8 (.pointer (some ⟨w.heap.size,11,none⟩)) hS ?_
 refine tkH 9 (.bool p.hw) hS ?_ (hy:=.inl ⟨by rfl,fun W hW=>by simp [execOp,go_sem,row_cells hW]⟩)
 refine tkH 10 (.pointer (some ⟨w.heap.size,16,none⟩)) hS ?_
 refine tkH 11 (.bool p.hu) hS ?_ (hy:=.inl ⟨by rfl,fun W hW=>by simp [execOp,go_sem,row_cells hW]⟩)
 refine tkH 12 (.pointer (some ⟨w.heap.size,17,none⟩)) hS ?_
 refine tkH 13 (.bool p.hp) hS ?_ (hy:=.inl ⟨by rfl,fun W hW=>by simp [execOp,go_sem,row_cells hW]⟩)
 refine tkH 14 (.pointer (some ⟨w.heap.size+1+1,7,none⟩)) hS ?_
 refine wpAnyH_ready (rs:=[15]) (by kernel_rfl) (by simp) (AllReadyH.cons (by rfl) ?_ AllReadyH.nil)
 intro K' hK
 rw [if_pos (by rfl)]
 go_wp2_with fail
 refine hK.out _ _ (fst3 _ _ _ _) ?_
 clear hK K' hS
 intro hS
 refine tkH 16 (.pointer (some ⟨w.heap.size+1+1,8,none⟩)) hS ?_
 refine wpAnyH_ready (rs:=[17]) (by kernel_rfl) (by simp) (AllReadyH.cons (by rfl) ?_ AllReadyH.nil)
 intro K' hK
 rw [if_pos (by rfl)]
 go_wp2_with fail
 refine hK.out _ _ (fst3 _ _ _ _) ?_
 clear hK K' hS
 intro hS
 refine tkH 18 (.pointer (some ⟨w.heap.size+1+1,9,none⟩)) hS ?_
 refine wpAnyH_ready (rs:=[19]) (by kernel_rfl) (by simp) (AllReadyH.cons (by rfl) ?_ AllReadyH.nil)
 intro K' hK
 rw [if_pos (by rfl)]
 go_wp2_with fail
 refine hK.out _ _ (fst3 _ _ _ _) ?_
 clear hK K' hS
 intro hS
 refine tkH 20 (.pointer (some ⟨w.heap.size+1+1,10,none⟩)) hS ?_
 refine wpAnyH_ready (rs:=[21]) (by kernel_rfl) (by simp) (AllReadyH.cons (by rfl) ?_ AllReadyH.nil)
 intro K' hK
 rw [if_pos (by rfl)]
 go_wp2_with fail
 refine hK.out _ _ (fst3 _ _ _ _) ?_
 clear hK K' hS
 intro hS
 refine tkH 22 (.pointer (some ⟨w.heap.size+1+1,11,none⟩)) hS ?_
 refine wpAnyH_ready (rs:=[23]) (by kernel_rfl) (by simp) (AllReadyH.cons (by rfl) ?_ AllReadyH.nil)
 intro K' hK
 rw [if_pos (by rfl)]
 go_wp2_with fail
 refine hK.out _ _ (fst3 _ _ _ _) ?_
 clear hK K' hS
 intro hS
 refine tkH 24 (.pointer (some ⟨w.heap.size+1+1,16,none⟩)) hS ?_
 refine wpAnyH_ready (rs:=[25]) (by kernel_rfl) (by simp) (AllReadyH.cons (by rfl) ?_ AllReadyH.nil)
 intro K' hK
 rw [if_pos (by rfl)]
 go_wp2_with fail
 refine hK.out _ _ (fst3 _ _ _ _) ?_
 clear hK K' hS
 intro hS
 refine tkH 26 (.pointer (some ⟨w.heap.size+1+1,17,none⟩)) hS ?_
 refine wpAnyH_ready (rs:=[27]) (by kernel_rfl) (by simp) (AllReadyH.cons (by rfl) ?_ AllReadyH.nil)
 intro K' hK
 rw [if_pos (by rfl)]
 go_wp2_with fail
 refine hK.out _ _ (fst3 _ _ _ _) ?_
 clear hK K' hS
 intro hS
 refine wpAnyH_done (by kernel_rfl) ?_ _
 go_wp2_with (first | ((with_reducible show wpList _ _ _ (⟨_,.load 24 _,_,_,_,_⟩ :: _) _ _);refine ld_wl (w.heap.size) p s (by rfl) (by rfl) _ _ (by (first | assumption | exact heap_alloc_last _ _ | (repeat (first | assumption | exact heap_alloc_last _ _ | exact heap_last2 _ _ _ | refine heap_keep ?_ | refine heap_below (by assumption) ?_)))) ?_) | ((with_reducible show wpList _ _ _ (⟨_,.store 28 (.tmp 3) _,_,_,_,_⟩ :: _) _ _);refine st3 _ _ _ _ (by rfl) (by rfl) (by rfl) (by rfl) (by rfl) ?_) | ((with_reducible show wpList _ _ _ (⟨_,.store 28 (.tmp 2) _,_,_,_,_⟩ :: _) _ _);refine stR (w.heap.size+1) _ _ (by rfl) (by rfl) (by (try simp only [dr_heap]);first | exact fst3 _ _ _ _ | exact last3 _ _ _ _ | exact mid3 _ _ _ _ | exact heap_below (by assumption) (mid3 _ _ _ _) | exact heap_below (by assumption) (fst3 _ _ _ _)) (by rfl) (by rfl) (by rfl) ?_) | ((with_reducible show wpList _ _ _ (⟨_,.load 28 (.tmp 1),_,_,_,_⟩ :: _) _ _);refine ld_pk (w.heap.size) (by rfl) (by rfl) _ _ _ (by (try simp only [dr_heap]);first | exact fst3 _ _ _ _ | exact last3 _ _ _ _ | exact mid3 _ _ _ _ | exact heap_below (by assumption) (mid3 _ _ _ _) | exact heap_below (by assumption) (fst3 _ _ _ _)) (by rfl) ?_) | ((with_reducible show wpList _ _ _ (⟨_,.load 28 (.tmp 3),_,_,_,_⟩ :: _) _ _);refine ld_pk (w.heap.size+1+1) (by rfl) (by rfl) _ _ _ (by (try simp only [dr_heap]);first | exact fst3 _ _ _ _ | exact last3 _ _ _ _ | exact mid3 _ _ _ _ | exact heap_below (by assumption) (mid3 _ _ _ _) | exact heap_below (by assumption) (fst3 _ _ _ _)) (by rfl) ?_))
 (refine bodyPost_ret (v:=.agg _) (results_cell_row (by rfl) _ _ (w.heap.size+1) 28 _ (0,0) _ (by rfl) (setRow_heap _ _ _ _ _ _ (by (try simp only [dr_heap]);first | exact fst3 _ _ _ _ | exact last3 _ _ _ _ | exact mid3 _ _ _ _ | exact heap_below (by assumption) (mid3 _ _ _ _) | exact heap_below (by assumption) (fst3 _ _ _ _))) Try.underlying28 (by rfl) (by exact pk_sz)) (by rfl) ⟨congrArg (fun c=>Ending.returned (.agg c)) ?_,?_⟩;(· first | (simp [wrP,wrS, *];done) | (simp [wrP,wrS, *];rfl) | rfl);(· exact below_setRow (by (repeat (first | assumption | exact Below.refl _ _ | exact (Below.refl _ _).alloc (Nat.le_refl _) _ | (refine thn ?_ (by assumption)) | (refine alB ?_ _) | (refine dwN ?_ _) | (refine Below.drew ?_)))) (by omega) _))
theorem only_ftf (p:Pk)(s:Sv)(w:World)(k1:(p.kind==1)=true)(e1:p.hw=false)(e2:p.hu=true)(e3:p.hp=false) :
  Calls Try.prog 45 #[pkV p s] w fun e w'=>e=.returned (pkV (onP p) (wrS p s))∧Below w.heap.size w w':=by
 have ho:onP p=wrP p:=by
  have hk:p.kind=1:=by simpa using k1
  unfold onP
  rw [if_neg (by rw [hk];decide)]
 rw [ho]
 clear ho
 go_enter Try.func45,Try.ntmps45
 go_wp2_with (first | ((with_reducible show wpList _ _ _ (⟨_,.store 28 (.tmp 3) _,_,_,_,_⟩ :: _) _ _);refine st3 _ _ _ _ (by rfl) (by rfl) (by rfl) (by rfl) (by rfl) ?_) | ((with_reducible show wpList _ _ _ (⟨_,.store 28 (.tmp 2) _,_,_,_,_⟩ :: _) _ _);refine stR (w.heap.size+1) _ _ (by rfl) (by rfl) (by (try simp only [dr_heap]);first | exact fst3 _ _ _ _ | exact last3 _ _ _ _ | exact mid3 _ _ _ _ | exact heap_below (by assumption) (mid3 _ _ _ _) | exact heap_below (by assumption) (fst3 _ _ _ _)) (by rfl) (by rfl) (by rfl) ?_) | ((with_reducible show wpList _ _ _ (⟨_,.load 28 (.tmp 1),_,_,_,_⟩ :: _) _ _);refine ld_pk (w.heap.size) (by rfl) (by rfl) _ _ _ (by (try simp only [dr_heap]);first | exact fst3 _ _ _ _ | exact last3 _ _ _ _ | exact mid3 _ _ _ _ | exact heap_below (by assumption) (mid3 _ _ _ _) | exact heap_below (by assumption) (fst3 _ _ _ _)) (by rfl) ?_) | ((with_reducible show wpList _ _ _ (⟨_,.load 28 (.tmp 3),_,_,_,_⟩ :: _) _ _);refine ld_pk (w.heap.size+1+1) (by rfl) (by rfl) _ _ _ (by (try simp only [dr_heap]);first | exact fst3 _ _ _ _ | exact last3 _ _ _ _ | exact mid3 _ _ _ _ | exact heap_below (by assumption) (mid3 _ _ _ _) | exact heap_below (by assumption) (fst3 _ _ _ _)) (by rfl) ?_))
 refine wp_region_held_drew (S:=fun W=>W.heap[w.heap.size]? = some (.cells (pkC p s) 28 (0,0))) (by rfl) (fst3 _ _ _ _) ?_
 intro hS
 refine tkH 0 (.pointer (some ⟨w.heap.size,7,none⟩)) hS ?_
 refine tkH 1 (.int .i64 p.level) hS ?_ (hy:=.inl ⟨by rfl,fun W hW=>by simp [execOp,go_sem,row_cells hW]⟩)
 refine tkH 2 (.pointer (some ⟨w.heap.size,8,none⟩)) hS ?_
 refine tkH 3 (.string p.cli) hS ?_ (hy:=.inl ⟨by rfl,fun W hW=>by simp [execOp,go_sem,row_cells hW]⟩)
 refine tkH 4 (.pointer (some ⟨w.heap.size,9,none⟩)) hS ?_
 refine tkH 5 (.bool p.clean) hS ?_ (hy:=.inl ⟨by rfl,fun W hW=>by simp [execOp,go_sem,row_cells hW]⟩)
 refine tkH 6 (.pointer (some ⟨w.heap.size,10,none⟩)) hS ?_
 refine tkH 7 (.int .i64 p.keep) hS ?_ (hy:=.inl ⟨by rfl,fun W hW=>by simp [execOp,go_sem,row_cells hW]⟩)
 refine tkH 8 (.pointer (some ⟨w.heap.size,11,none⟩)) hS ?_
 refine tkH 9 (.bool p.hw) hS ?_ (hy:=.inl ⟨by rfl,fun W hW=>by simp [execOp,go_sem,row_cells hW]⟩)
 refine tkH 10 (.pointer (some ⟨w.heap.size,16,none⟩)) hS ?_
 refine tkH 11 (.bool p.hu) hS ?_ (hy:=.inl ⟨by rfl,fun W hW=>by simp [execOp,go_sem,row_cells hW]⟩)
 refine tkH 12 (.pointer (some ⟨w.heap.size,17,none⟩)) hS ?_
 refine tkH 13 (.bool p.hp) hS ?_ (hy:=.inl ⟨by rfl,fun W hW=>by simp [execOp,go_sem,row_cells hW]⟩)
 refine tkH 14 (.pointer (some ⟨w.heap.size+1+1,7,none⟩)) hS ?_
 refine wpAnyH_ready (rs:=[15]) (by kernel_rfl) (by simp) (AllReadyH.cons (by rfl) ?_ AllReadyH.nil)
 intro K' hK
 rw [if_pos (by rfl)]
 go_wp2_with fail
 refine hK.out _ _ (fst3 _ _ _ _) ?_
 clear hK K' hS
 intro hS
 refine tkH 16 (.pointer (some ⟨w.heap.size+1+1,8,none⟩)) hS ?_
 refine wpAnyH_ready (rs:=[17]) (by kernel_rfl) (by simp) (AllReadyH.cons (by rfl) ?_ AllReadyH.nil)
 intro K' hK
 rw [if_pos (by rfl)]
 go_wp2_with fail
 refine hK.out _ _ (fst3 _ _ _ _) ?_
 clear hK K' hS
 intro hS
 refine tkH 18 (.pointer (some ⟨w.heap.size+1+1,9,none⟩)) hS ?_
 refine wpAnyH_ready (rs:=[19]) (by kernel_rfl) (by simp) (AllReadyH.cons (by rfl) ?_ AllReadyH.nil)
 intro K' hK
 rw [if_pos (by rfl)]
 go_wp2_with fail
 refine hK.out _ _ (fst3 _ _ _ _) ?_
 clear hK K' hS
 intro hS
 refine tkH 20 (.pointer (some ⟨w.heap.size+1+1,10,none⟩)) hS ?_
 refine wpAnyH_ready (rs:=[21]) (by kernel_rfl) (by simp) (AllReadyH.cons (by rfl) ?_ AllReadyH.nil)
 intro K' hK
 rw [if_pos (by rfl)]
 go_wp2_with fail
 refine hK.out _ _ (fst3 _ _ _ _) ?_
 clear hK K' hS
 intro hS
 refine tkH 22 (.pointer (some ⟨w.heap.size+1+1,11,none⟩)) hS ?_
 refine wpAnyH_ready (rs:=[23]) (by kernel_rfl) (by simp) (AllReadyH.cons (by rfl) ?_ AllReadyH.nil)
 intro K' hK
 rw [if_pos (by rfl)]
 go_wp2_with fail
 refine hK.out _ _ (fst3 _ _ _ _) ?_
 clear hK K' hS
 intro hS
 refine tkH 24 (.pointer (some ⟨w.heap.size+1+1,16,none⟩)) hS ?_
 refine wpAnyH_ready (rs:=[25]) (by kernel_rfl) (by simp) (AllReadyH.cons (by rfl) ?_ AllReadyH.nil)
 intro K' hK
 rw [if_pos (by rfl)]
 go_wp2_with fail
 refine hK.out _ _ (fst3 _ _ _ _) ?_
 clear hK K' hS
 intro hS
 refine tkH 26 (.pointer (some ⟨w.heap.size+1+1,17,none⟩)) hS ?_
 refine wpAnyH_ready (rs:=[27]) (by kernel_rfl) (by simp) (AllReadyH.cons (by rfl) ?_ AllReadyH.nil)
 intro K' hK
 rw [if_pos (by rfl)]
 go_wp2_with fail
 refine hK.out _ _ (fst3 _ _ _ _) ?_
 clear hK K' hS
 intro hS
 refine wpAnyH_done (by kernel_rfl) ?_ _
 go_wp2_with (first | ((with_reducible show wpList _ _ _ (⟨_,.load 24 _,_,_,_,_⟩ :: _) _ _);refine ld_wl (w.heap.size) p s (by rfl) (by rfl) _ _ (by (first | assumption | exact heap_alloc_last _ _ | (repeat (first | assumption | exact heap_alloc_last _ _ | exact heap_last2 _ _ _ | refine heap_keep ?_ | refine heap_below (by assumption) ?_)))) ?_) | ((with_reducible show wpList _ _ _ (⟨_,.store 28 (.tmp 3) _,_,_,_,_⟩ :: _) _ _);refine st3 _ _ _ _ (by rfl) (by rfl) (by rfl) (by rfl) (by rfl) ?_) | ((with_reducible show wpList _ _ _ (⟨_,.store 28 (.tmp 2) _,_,_,_,_⟩ :: _) _ _);refine stR (w.heap.size+1) _ _ (by rfl) (by rfl) (by (try simp only [dr_heap]);first | exact fst3 _ _ _ _ | exact last3 _ _ _ _ | exact mid3 _ _ _ _ | exact heap_below (by assumption) (mid3 _ _ _ _) | exact heap_below (by assumption) (fst3 _ _ _ _)) (by rfl) (by rfl) (by rfl) ?_) | ((with_reducible show wpList _ _ _ (⟨_,.load 28 (.tmp 1),_,_,_,_⟩ :: _) _ _);refine ld_pk (w.heap.size) (by rfl) (by rfl) _ _ _ (by (try simp only [dr_heap]);first | exact fst3 _ _ _ _ | exact last3 _ _ _ _ | exact mid3 _ _ _ _ | exact heap_below (by assumption) (mid3 _ _ _ _) | exact heap_below (by assumption) (fst3 _ _ _ _)) (by rfl) ?_) | ((with_reducible show wpList _ _ _ (⟨_,.load 28 (.tmp 3),_,_,_,_⟩ :: _) _ _);refine ld_pk (w.heap.size+1+1) (by rfl) (by rfl) _ _ _ (by (try simp only [dr_heap]);first | exact fst3 _ _ _ _ | exact last3 _ _ _ _ | exact mid3 _ _ _ _ | exact heap_below (by assumption) (mid3 _ _ _ _) | exact heap_below (by assumption) (fst3 _ _ _ _)) (by rfl) ?_))
 (refine bodyPost_ret (v:=.agg _) (results_cell_row (by rfl) _ _ (w.heap.size+1) 28 _ (0,0) _ (by rfl) (setRow_heap _ _ _ _ _ _ (by (try simp only [dr_heap]);first | exact fst3 _ _ _ _ | exact last3 _ _ _ _ | exact mid3 _ _ _ _ | exact heap_below (by assumption) (mid3 _ _ _ _) | exact heap_below (by assumption) (fst3 _ _ _ _))) Try.underlying28 (by rfl) (by exact pk_sz)) (by rfl) ⟨congrArg (fun c=>Ending.returned (.agg c)) ?_,?_⟩;(· first | (simp [wrP,wrS, *];done) | (simp [wrP,wrS, *];rfl) | rfl);(· exact below_setRow (by (repeat (first | assumption | exact Below.refl _ _ | exact (Below.refl _ _).alloc (Nat.le_refl _) _ | (refine thn ?_ (by assumption)) | (refine alB ?_ _) | (refine dwN ?_ _) | (refine Below.drew ?_)))) (by omega) _))
theorem only_ftt (p:Pk)(s:Sv)(w:World)(k1:(p.kind==1)=true)(e1:p.hw=false)(e2:p.hu=true)(e3:p.hp=true) :
  Calls Try.prog 45 #[pkV p s] w fun e w'=>e=.returned (pkV (onP p) (wrS p s))∧Below w.heap.size w w':=by
 have ho:onP p=wrP p:=by
  have hk:p.kind=1:=by simpa using k1
  unfold onP
  rw [if_neg (by rw [hk];decide)]
 rw [ho]
 clear ho
 go_enter Try.func45,Try.ntmps45
 go_wp2_with (first | ((with_reducible show wpList _ _ _ (⟨_,.store 28 (.tmp 3) _,_,_,_,_⟩ :: _) _ _);refine st3 _ _ _ _ (by rfl) (by rfl) (by rfl) (by rfl) (by rfl) ?_) | ((with_reducible show wpList _ _ _ (⟨_,.store 28 (.tmp 2) _,_,_,_,_⟩ :: _) _ _);refine stR (w.heap.size+1) _ _ (by rfl) (by rfl) (by (try simp only [dr_heap]);first | exact fst3 _ _ _ _ | exact last3 _ _ _ _ | exact mid3 _ _ _ _ | exact heap_below (by assumption) (mid3 _ _ _ _) | exact heap_below (by assumption) (fst3 _ _ _ _)) (by rfl) (by rfl) (by rfl) ?_) | ((with_reducible show wpList _ _ _ (⟨_,.load 28 (.tmp 1),_,_,_,_⟩ :: _) _ _);refine ld_pk (w.heap.size) (by rfl) (by rfl) _ _ _ (by (try simp only [dr_heap]);first | exact fst3 _ _ _ _ | exact last3 _ _ _ _ | exact mid3 _ _ _ _ | exact heap_below (by assumption) (mid3 _ _ _ _) | exact heap_below (by assumption) (fst3 _ _ _ _)) (by rfl) ?_) | ((with_reducible show wpList _ _ _ (⟨_,.load 28 (.tmp 3),_,_,_,_⟩ :: _) _ _);refine ld_pk (w.heap.size+1+1) (by rfl) (by rfl) _ _ _ (by (try simp only [dr_heap]);first | exact fst3 _ _ _ _ | exact last3 _ _ _ _ | exact mid3 _ _ _ _ | exact heap_below (by assumption) (mid3 _ _ _ _) | exact heap_below (by assumption) (fst3 _ _ _ _)) (by rfl) ?_))
 refine wp_region_held_drew (S:=fun W=>W.heap[w.heap.size]? = some (.cells (pkC p s) 28 (0,0))) (by rfl) (fst3 _ _ _ _) ?_
 intro hS
 refine tkH 0 (.pointer (some ⟨w.heap.size,7,none⟩)) hS ?_
 refine tkH 1 (.int .i64 p.level) hS ?_ (hy:=.inl ⟨by rfl,fun W hW=>by simp [execOp,go_sem,row_cells hW]⟩)
 refine tkH 2 (.pointer (some ⟨w.heap.size,8,none⟩)) hS ?_
 refine tkH 3 (.string p.cli) hS ?_ (hy:=.inl ⟨by rfl,fun W hW=>by simp [execOp,go_sem,row_cells hW]⟩)
 refine tkH 4 (.pointer (some ⟨w.heap.size,9,none⟩)) hS ?_
 refine tkH 5 (.bool p.clean) hS ?_ (hy:=.inl ⟨by rfl,fun W hW=>by simp [execOp,go_sem,row_cells hW]⟩)
 refine tkH 6 (.pointer (some ⟨w.heap.size,10,none⟩)) hS ?_
 refine tkH 7 (.int .i64 p.keep) hS ?_ (hy:=.inl ⟨by rfl,fun W hW=>by simp [execOp,go_sem,row_cells hW]⟩)
 refine tkH 8 (.pointer (some ⟨w.heap.size,11,none⟩)) hS ?_
 refine tkH 9 (.bool p.hw) hS ?_ (hy:=.inl ⟨by rfl,fun W hW=>by simp [execOp,go_sem,row_cells hW]⟩)
 refine tkH 10 (.pointer (some ⟨w.heap.size,16,none⟩)) hS ?_
 refine tkH 11 (.bool p.hu) hS ?_ (hy:=.inl ⟨by rfl,fun W hW=>by simp [execOp,go_sem,row_cells hW]⟩)
 refine tkH 12 (.pointer (some ⟨w.heap.size,17,none⟩)) hS ?_
 refine tkH 13 (.bool p.hp) hS ?_ (hy:=.inl ⟨by rfl,fun W hW=>by simp [execOp,go_sem,row_cells hW]⟩)
 refine tkH 14 (.pointer (some ⟨w.heap.size+1+1,7,none⟩)) hS ?_
 refine wpAnyH_ready (rs:=[15]) (by kernel_rfl) (by simp) (AllReadyH.cons (by rfl) ?_ AllReadyH.nil)
 intro K' hK
 rw [if_pos (by rfl)]
 go_wp2_with fail
 refine hK.out _ _ (fst3 _ _ _ _) ?_
 clear hK K' hS
 intro hS
 refine tkH 16 (.pointer (some ⟨w.heap.size+1+1,8,none⟩)) hS ?_
 refine wpAnyH_ready (rs:=[17]) (by kernel_rfl) (by simp) (AllReadyH.cons (by rfl) ?_ AllReadyH.nil)
 intro K' hK
 rw [if_pos (by rfl)]
 go_wp2_with fail
 refine hK.out _ _ (fst3 _ _ _ _) ?_
 clear hK K' hS
 intro hS
 refine tkH 18 (.pointer (some ⟨w.heap.size+1+1,9,none⟩)) hS ?_
 refine wpAnyH_ready (rs:=[19]) (by kernel_rfl) (by simp) (AllReadyH.cons (by rfl) ?_ AllReadyH.nil)
 intro K' hK
 rw [if_pos (by rfl)]
 go_wp2_with fail
 refine hK.out _ _ (fst3 _ _ _ _) ?_
 clear hK K' hS
 intro hS
 refine tkH 20 (.pointer (some ⟨w.heap.size+1+1,10,none⟩)) hS ?_
 refine wpAnyH_ready (rs:=[21]) (by kernel_rfl) (by simp) (AllReadyH.cons (by rfl) ?_ AllReadyH.nil)
 intro K' hK
 rw [if_pos (by rfl)]
 go_wp2_with fail
 refine hK.out _ _ (fst3 _ _ _ _) ?_
 clear hK K' hS
 intro hS
 refine tkH 22 (.pointer (some ⟨w.heap.size+1+1,11,none⟩)) hS ?_
 refine wpAnyH_ready (rs:=[23]) (by kernel_rfl) (by simp) (AllReadyH.cons (by rfl) ?_ AllReadyH.nil)
 intro K' hK
 rw [if_pos (by rfl)]
 go_wp2_with fail
 refine hK.out _ _ (fst3 _ _ _ _) ?_
 clear hK K' hS
 intro hS
 refine tkH 24 (.pointer (some ⟨w.heap.size+1+1,16,none⟩)) hS ?_
 refine wpAnyH_ready (rs:=[25]) (by kernel_rfl) (by simp) (AllReadyH.cons (by rfl) ?_ AllReadyH.nil)
 intro K' hK
 rw [if_pos (by rfl)]
 go_wp2_with fail
 refine hK.out _ _ (fst3 _ _ _ _) ?_
 clear hK K' hS
 intro hS
 refine tkH 26 (.pointer (some ⟨w.heap.size+1+1,17,none⟩)) hS ?_
 refine wpAnyH_ready (rs:=[27]) (by kernel_rfl) (by simp) (AllReadyH.cons (by rfl) ?_ AllReadyH.nil)
 intro K' hK
 rw [if_pos (by rfl)]
 go_wp2_with fail
 refine hK.out _ _ (fst3 _ _ _ _) ?_
 clear hK K' hS
 intro hS
 refine wpAnyH_done (by kernel_rfl) ?_ _
 go_wp2_with (first | ((with_reducible show wpList _ _ _ (⟨_,.load 24 _,_,_,_,_⟩ :: _) _ _);refine ld_wl (w.heap.size) p s (by rfl) (by rfl) _ _ (by (first | assumption | exact heap_alloc_last _ _ | (repeat (first | assumption | exact heap_alloc_last _ _ | exact heap_last2 _ _ _ | refine heap_keep ?_ | refine heap_below (by assumption) ?_)))) ?_) | ((with_reducible show wpList _ _ _ (⟨_,.store 28 (.tmp 3) _,_,_,_,_⟩ :: _) _ _);refine st3 _ _ _ _ (by rfl) (by rfl) (by rfl) (by rfl) (by rfl) ?_) | ((with_reducible show wpList _ _ _ (⟨_,.store 28 (.tmp 2) _,_,_,_,_⟩ :: _) _ _);refine stR (w.heap.size+1) _ _ (by rfl) (by rfl) (by (try simp only [dr_heap]);first | exact fst3 _ _ _ _ | exact last3 _ _ _ _ | exact mid3 _ _ _ _ | exact heap_below (by assumption) (mid3 _ _ _ _) | exact heap_below (by assumption) (fst3 _ _ _ _)) (by rfl) (by rfl) (by rfl) ?_) | ((with_reducible show wpList _ _ _ (⟨_,.load 28 (.tmp 1),_,_,_,_⟩ :: _) _ _);refine ld_pk (w.heap.size) (by rfl) (by rfl) _ _ _ (by (try simp only [dr_heap]);first | exact fst3 _ _ _ _ | exact last3 _ _ _ _ | exact mid3 _ _ _ _ | exact heap_below (by assumption) (mid3 _ _ _ _) | exact heap_below (by assumption) (fst3 _ _ _ _)) (by rfl) ?_) | ((with_reducible show wpList _ _ _ (⟨_,.load 28 (.tmp 3),_,_,_,_⟩ :: _) _ _);refine ld_pk (w.heap.size+1+1) (by rfl) (by rfl) _ _ _ (by (try simp only [dr_heap]);first | exact fst3 _ _ _ _ | exact last3 _ _ _ _ | exact mid3 _ _ _ _ | exact heap_below (by assumption) (mid3 _ _ _ _) | exact heap_below (by assumption) (fst3 _ _ _ _)) (by rfl) ?_))
 (refine bodyPost_ret (v:=.agg _) (results_cell_row (by rfl) _ _ (w.heap.size+1) 28 _ (0,0) _ (by rfl) (setRow_heap _ _ _ _ _ _ (by (try simp only [dr_heap]);first | exact fst3 _ _ _ _ | exact last3 _ _ _ _ | exact mid3 _ _ _ _ | exact heap_below (by assumption) (mid3 _ _ _ _) | exact heap_below (by assumption) (fst3 _ _ _ _))) Try.underlying28 (by rfl) (by exact pk_sz)) (by rfl) ⟨congrArg (fun c=>Ending.returned (.agg c)) ?_,?_⟩;(· first | (simp [wrP,wrS, *];done) | (simp [wrP,wrS, *];rfl) | rfl);(· exact below_setRow (by (repeat (first | assumption | exact Below.refl _ _ | exact (Below.refl _ _).alloc (Nat.le_refl _) _ | (refine thn ?_ (by assumption)) | (refine alB ?_ _) | (refine dwN ?_ _) | (refine Below.drew ?_)))) (by omega) _))
theorem only_tff (p:Pk)(s:Sv)(w:World)(k1:(p.kind==1)=true)(e1:p.hw=true)(e2:p.hu=false)(e3:p.hp=false) :
  Calls Try.prog 45 #[pkV p s] w fun e w'=>e=.returned (pkV (onP p) (wrS p s))∧Below w.heap.size w w':=by
 have ho:onP p=wrP p:=by
  have hk:p.kind=1:=by simpa using k1
  unfold onP
  rw [if_neg (by rw [hk];decide)]
 rw [ho]
 clear ho
 go_enter Try.func45,Try.ntmps45
 go_wp2_with (first | ((with_reducible show wpList _ _ _ (⟨_,.store 28 (.tmp 3) _,_,_,_,_⟩ :: _) _ _);refine st3 _ _ _ _ (by rfl) (by rfl) (by rfl) (by rfl) (by rfl) ?_) | ((with_reducible show wpList _ _ _ (⟨_,.store 28 (.tmp 2) _,_,_,_,_⟩ :: _) _ _);refine stR (w.heap.size+1) _ _ (by rfl) (by rfl) (by (try simp only [dr_heap]);first | exact fst3 _ _ _ _ | exact last3 _ _ _ _ | exact mid3 _ _ _ _ | exact heap_below (by assumption) (mid3 _ _ _ _) | exact heap_below (by assumption) (fst3 _ _ _ _)) (by rfl) (by rfl) (by rfl) ?_) | ((with_reducible show wpList _ _ _ (⟨_,.load 28 (.tmp 1),_,_,_,_⟩ :: _) _ _);refine ld_pk (w.heap.size) (by rfl) (by rfl) _ _ _ (by (try simp only [dr_heap]);first | exact fst3 _ _ _ _ | exact last3 _ _ _ _ | exact mid3 _ _ _ _ | exact heap_below (by assumption) (mid3 _ _ _ _) | exact heap_below (by assumption) (fst3 _ _ _ _)) (by rfl) ?_) | ((with_reducible show wpList _ _ _ (⟨_,.load 28 (.tmp 3),_,_,_,_⟩ :: _) _ _);refine ld_pk (w.heap.size+1+1) (by rfl) (by rfl) _ _ _ (by (try simp only [dr_heap]);first | exact fst3 _ _ _ _ | exact last3 _ _ _ _ | exact mid3 _ _ _ _ | exact heap_below (by assumption) (mid3 _ _ _ _) | exact heap_below (by assumption) (fst3 _ _ _ _)) (by rfl) ?_))
 refine wp_region_held_drew (S:=fun W=>W.heap[w.heap.size]? = some (.cells (pkC p s) 28 (0,0))) (by rfl) (fst3 _ _ _ _) ?_
 intro hS
 refine tkH 0 (.pointer (some ⟨w.heap.size,7,none⟩)) hS ?_
 refine tkH 1 (.int .i64 p.level) hS ?_ (hy:=.inl ⟨by rfl,fun W hW=>by simp [execOp,go_sem,row_cells hW]⟩)
 refine tkH 2 (.pointer (some ⟨w.heap.size,8,none⟩)) hS ?_
 refine tkH 3 (.string p.cli) hS ?_ (hy:=.inl ⟨by rfl,fun W hW=>by simp [execOp,go_sem,row_cells hW]⟩)
 refine tkH 4 (.pointer (some ⟨w.heap.size,9,none⟩)) hS ?_
 refine tkH 5 (.bool p.clean) hS ?_ (hy:=.inl ⟨by rfl,fun W hW=>by simp [execOp,go_sem,row_cells hW]⟩)
 refine tkH 6 (.pointer (some ⟨w.heap.size,10,none⟩)) hS ?_
 refine tkH 7 (.int .i64 p.keep) hS ?_ (hy:=.inl ⟨by rfl,fun W hW=>by simp [execOp,go_sem,row_cells hW]⟩)
 refine tkH 8 (.pointer (some ⟨w.heap.size,11,none⟩)) hS ?_
 refine tkH 9 (.bool p.hw) hS ?_ (hy:=.inl ⟨by rfl,fun W hW=>by simp [execOp,go_sem,row_cells hW]⟩)
 refine tkH 10 (.pointer (some ⟨w.heap.size,16,none⟩)) hS ?_
 refine tkH 11 (.bool p.hu) hS ?_ (hy:=.inl ⟨by rfl,fun W hW=>by simp [execOp,go_sem,row_cells hW]⟩)
 refine tkH 12 (.pointer (some ⟨w.heap.size,17,none⟩)) hS ?_
 refine tkH 13 (.bool p.hp) hS ?_ (hy:=.inl ⟨by rfl,fun W hW=>by simp [execOp,go_sem,row_cells hW]⟩)
 refine tkH 14 (.pointer (some ⟨w.heap.size+1+1,7,none⟩)) hS ?_
 refine wpAnyH_ready (rs:=[15]) (by kernel_rfl) (by simp) (AllReadyH.cons (by rfl) ?_ AllReadyH.nil)
 intro K' hK
 rw [if_pos (by rfl)]
 go_wp2_with fail
 refine hK.out _ _ (fst3 _ _ _ _) ?_
 clear hK K' hS
 intro hS
 refine tkH 16 (.pointer (some ⟨w.heap.size+1+1,8,none⟩)) hS ?_
 refine wpAnyH_ready (rs:=[17]) (by kernel_rfl) (by simp) (AllReadyH.cons (by rfl) ?_ AllReadyH.nil)
 intro K' hK
 rw [if_pos (by rfl)]
 go_wp2_with fail
 refine hK.out _ _ (fst3 _ _ _ _) ?_
 clear hK K' hS
 intro hS
 refine tkH 18 (.pointer (some ⟨w.heap.size+1+1,9,none⟩)) hS ?_
 refine wpAnyH_ready (rs:=[19]) (by kernel_rfl) (by simp) (AllReadyH.cons (by rfl) ?_ AllReadyH.nil)
 intro K' hK
 rw [if_pos (by rfl)]
 go_wp2_with fail
 refine hK.out _ _ (fst3 _ _ _ _) ?_
 clear hK K' hS
 intro hS
 refine tkH 20 (.pointer (some ⟨w.heap.size+1+1,10,none⟩)) hS ?_
 refine wpAnyH_ready (rs:=[21]) (by kernel_rfl) (by simp) (AllReadyH.cons (by rfl) ?_ AllReadyH.nil)
 intro K' hK
 rw [if_pos (by rfl)]
 go_wp2_with fail
 refine hK.out _ _ (fst3 _ _ _ _) ?_
 clear hK K' hS
 intro hS
 refine tkH 22 (.pointer (some ⟨w.heap.size+1+1,11,none⟩)) hS ?_
 refine wpAnyH_ready (rs:=[23]) (by kernel_rfl) (by simp) (AllReadyH.cons (by rfl) ?_ AllReadyH.nil)
 intro K' hK
 rw [if_pos (by rfl)]
 go_wp2_with fail
 refine hK.out _ _ (fst3 _ _ _ _) ?_
 clear hK K' hS
 intro hS
 refine tkH 24 (.pointer (some ⟨w.heap.size+1+1,16,none⟩)) hS ?_
 refine wpAnyH_ready (rs:=[25]) (by kernel_rfl) (by simp) (AllReadyH.cons (by rfl) ?_ AllReadyH.nil)
 intro K' hK
 rw [if_pos (by rfl)]
 go_wp2_with fail
 refine hK.out _ _ (fst3 _ _ _ _) ?_
 clear hK K' hS
 intro hS
 refine tkH 26 (.pointer (some ⟨w.heap.size+1+1,17,none⟩)) hS ?_
 refine wpAnyH_ready (rs:=[27]) (by kernel_rfl) (by simp) (AllReadyH.cons (by rfl) ?_ AllReadyH.nil)
 intro K' hK
 rw [if_pos (by rfl)]
 go_wp2_with fail
 refine hK.out _ _ (fst3 _ _ _ _) ?_
 clear hK K' hS
 intro hS
 refine wpAnyH_done (by kernel_rfl) ?_ _
 go_wp2_with (first | ((with_reducible show wpList _ _ _ (⟨_,.load 24 _,_,_,_,_⟩ :: _) _ _);refine ld_wl (w.heap.size) p s (by rfl) (by rfl) _ _ (by (first | assumption | exact heap_alloc_last _ _ | (repeat (first | assumption | exact heap_alloc_last _ _ | exact heap_last2 _ _ _ | refine heap_keep ?_ | refine heap_below (by assumption) ?_)))) ?_) | ((with_reducible show wpList _ _ _ (⟨_,.store 28 (.tmp 3) _,_,_,_,_⟩ :: _) _ _);refine st3 _ _ _ _ (by rfl) (by rfl) (by rfl) (by rfl) (by rfl) ?_) | ((with_reducible show wpList _ _ _ (⟨_,.store 28 (.tmp 2) _,_,_,_,_⟩ :: _) _ _);refine stR (w.heap.size+1) _ _ (by rfl) (by rfl) (by (try simp only [dr_heap]);first | exact fst3 _ _ _ _ | exact last3 _ _ _ _ | exact mid3 _ _ _ _ | exact heap_below (by assumption) (mid3 _ _ _ _) | exact heap_below (by assumption) (fst3 _ _ _ _)) (by rfl) (by rfl) (by rfl) ?_) | ((with_reducible show wpList _ _ _ (⟨_,.load 28 (.tmp 1),_,_,_,_⟩ :: _) _ _);refine ld_pk (w.heap.size) (by rfl) (by rfl) _ _ _ (by (try simp only [dr_heap]);first | exact fst3 _ _ _ _ | exact last3 _ _ _ _ | exact mid3 _ _ _ _ | exact heap_below (by assumption) (mid3 _ _ _ _) | exact heap_below (by assumption) (fst3 _ _ _ _)) (by rfl) ?_) | ((with_reducible show wpList _ _ _ (⟨_,.load 28 (.tmp 3),_,_,_,_⟩ :: _) _ _);refine ld_pk (w.heap.size+1+1) (by rfl) (by rfl) _ _ _ (by (try simp only [dr_heap]);first | exact fst3 _ _ _ _ | exact last3 _ _ _ _ | exact mid3 _ _ _ _ | exact heap_below (by assumption) (mid3 _ _ _ _) | exact heap_below (by assumption) (fst3 _ _ _ _)) (by rfl) ?_))
 (refine bodyPost_ret (v:=.agg _) (results_cell_row (by rfl) _ _ (w.heap.size+1) 28 _ (0,0) _ (by rfl) (setRow_heap _ _ _ _ _ _ (by (try simp only [dr_heap]);first | exact fst3 _ _ _ _ | exact last3 _ _ _ _ | exact mid3 _ _ _ _ | exact heap_below (by assumption) (mid3 _ _ _ _) | exact heap_below (by assumption) (fst3 _ _ _ _))) Try.underlying28 (by rfl) (by exact pk_sz)) (by rfl) ⟨congrArg (fun c=>Ending.returned (.agg c)) ?_,?_⟩;(· first | (simp [wrP,wrS, *];done) | (simp [wrP,wrS, *];rfl) | rfl);(· exact below_setRow (by (repeat (first | assumption | exact Below.refl _ _ | exact (Below.refl _ _).alloc (Nat.le_refl _) _ | (refine thn ?_ (by assumption)) | (refine alB ?_ _) | (refine dwN ?_ _) | (refine Below.drew ?_)))) (by omega) _))
theorem only_tft (p:Pk)(s:Sv)(w:World)(k1:(p.kind==1)=true)(e1:p.hw=true)(e2:p.hu=false)(e3:p.hp=true) :
  Calls Try.prog 45 #[pkV p s] w fun e w'=>e=.returned (pkV (onP p) (wrS p s))∧Below w.heap.size w w':=by
 have ho:onP p=wrP p:=by
  have hk:p.kind=1:=by simpa using k1
  unfold onP
  rw [if_neg (by rw [hk];decide)]
 rw [ho]
 clear ho
 go_enter Try.func45,Try.ntmps45
 go_wp2_with (first | ((with_reducible show wpList _ _ _ (⟨_,.store 28 (.tmp 3) _,_,_,_,_⟩ :: _) _ _);refine st3 _ _ _ _ (by rfl) (by rfl) (by rfl) (by rfl) (by rfl) ?_) | ((with_reducible show wpList _ _ _ (⟨_,.store 28 (.tmp 2) _,_,_,_,_⟩ :: _) _ _);refine stR (w.heap.size+1) _ _ (by rfl) (by rfl) (by (try simp only [dr_heap]);first | exact fst3 _ _ _ _ | exact last3 _ _ _ _ | exact mid3 _ _ _ _ | exact heap_below (by assumption) (mid3 _ _ _ _) | exact heap_below (by assumption) (fst3 _ _ _ _)) (by rfl) (by rfl) (by rfl) ?_) | ((with_reducible show wpList _ _ _ (⟨_,.load 28 (.tmp 1),_,_,_,_⟩ :: _) _ _);refine ld_pk (w.heap.size) (by rfl) (by rfl) _ _ _ (by (try simp only [dr_heap]);first | exact fst3 _ _ _ _ | exact last3 _ _ _ _ | exact mid3 _ _ _ _ | exact heap_below (by assumption) (mid3 _ _ _ _) | exact heap_below (by assumption) (fst3 _ _ _ _)) (by rfl) ?_) | ((with_reducible show wpList _ _ _ (⟨_,.load 28 (.tmp 3),_,_,_,_⟩ :: _) _ _);refine ld_pk (w.heap.size+1+1) (by rfl) (by rfl) _ _ _ (by (try simp only [dr_heap]);first | exact fst3 _ _ _ _ | exact last3 _ _ _ _ | exact mid3 _ _ _ _ | exact heap_below (by assumption) (mid3 _ _ _ _) | exact heap_below (by assumption) (fst3 _ _ _ _)) (by rfl) ?_))
 refine wp_region_held_drew (S:=fun W=>W.heap[w.heap.size]? = some (.cells (pkC p s) 28 (0,0))) (by rfl) (fst3 _ _ _ _) ?_
 intro hS
 refine tkH 0 (.pointer (some ⟨w.heap.size,7,none⟩)) hS ?_
 refine tkH 1 (.int .i64 p.level) hS ?_ (hy:=.inl ⟨by rfl,fun W hW=>by simp [execOp,go_sem,row_cells hW]⟩)
 refine tkH 2 (.pointer (some ⟨w.heap.size,8,none⟩)) hS ?_
 refine tkH 3 (.string p.cli) hS ?_ (hy:=.inl ⟨by rfl,fun W hW=>by simp [execOp,go_sem,row_cells hW]⟩)
 refine tkH 4 (.pointer (some ⟨w.heap.size,9,none⟩)) hS ?_
 refine tkH 5 (.bool p.clean) hS ?_ (hy:=.inl ⟨by rfl,fun W hW=>by simp [execOp,go_sem,row_cells hW]⟩)
 refine tkH 6 (.pointer (some ⟨w.heap.size,10,none⟩)) hS ?_
 refine tkH 7 (.int .i64 p.keep) hS ?_ (hy:=.inl ⟨by rfl,fun W hW=>by simp [execOp,go_sem,row_cells hW]⟩)
 refine tkH 8 (.pointer (some ⟨w.heap.size,11,none⟩)) hS ?_
 refine tkH 9 (.bool p.hw) hS ?_ (hy:=.inl ⟨by rfl,fun W hW=>by simp [execOp,go_sem,row_cells hW]⟩)
 refine tkH 10 (.pointer (some ⟨w.heap.size,16,none⟩)) hS ?_
 refine tkH 11 (.bool p.hu) hS ?_ (hy:=.inl ⟨by rfl,fun W hW=>by simp [execOp,go_sem,row_cells hW]⟩)
 refine tkH 12 (.pointer (some ⟨w.heap.size,17,none⟩)) hS ?_
 refine tkH 13 (.bool p.hp) hS ?_ (hy:=.inl ⟨by rfl,fun W hW=>by simp [execOp,go_sem,row_cells hW]⟩)
 refine tkH 14 (.pointer (some ⟨w.heap.size+1+1,7,none⟩)) hS ?_
 refine wpAnyH_ready (rs:=[15]) (by kernel_rfl) (by simp) (AllReadyH.cons (by rfl) ?_ AllReadyH.nil)
 intro K' hK
 rw [if_pos (by rfl)]
 go_wp2_with fail
 refine hK.out _ _ (fst3 _ _ _ _) ?_
 clear hK K' hS
 intro hS
 refine tkH 16 (.pointer (some ⟨w.heap.size+1+1,8,none⟩)) hS ?_
 refine wpAnyH_ready (rs:=[17]) (by kernel_rfl) (by simp) (AllReadyH.cons (by rfl) ?_ AllReadyH.nil)
 intro K' hK
 rw [if_pos (by rfl)]
 go_wp2_with fail
 refine hK.out _ _ (fst3 _ _ _ _) ?_
 clear hK K' hS
 intro hS
 refine tkH 18 (.pointer (some ⟨w.heap.size+1+1,9,none⟩)) hS ?_
 refine wpAnyH_ready (rs:=[19]) (by kernel_rfl) (by simp) (AllReadyH.cons (by rfl) ?_ AllReadyH.nil)
 intro K' hK
 rw [if_pos (by rfl)]
 go_wp2_with fail
 refine hK.out _ _ (fst3 _ _ _ _) ?_
 clear hK K' hS
 intro hS
 refine tkH 20 (.pointer (some ⟨w.heap.size+1+1,10,none⟩)) hS ?_
 refine wpAnyH_ready (rs:=[21]) (by kernel_rfl) (by simp) (AllReadyH.cons (by rfl) ?_ AllReadyH.nil)
 intro K' hK
 rw [if_pos (by rfl)]
 go_wp2_with fail
 refine hK.out _ _ (fst3 _ _ _ _) ?_
 clear hK K' hS
 intro hS
 refine tkH 22 (.pointer (some ⟨w.heap.size+1+1,11,none⟩)) hS ?_
 refine wpAnyH_ready (rs:=[23]) (by kernel_rfl) (by simp) (AllReadyH.cons (by rfl) ?_ AllReadyH.nil)
 intro K' hK
 rw [if_pos (by rfl)]
 go_wp2_with fail
 refine hK.out _ _ (fst3 _ _ _ _) ?_
 clear hK K' hS
 intro hS
 refine tkH 24 (.pointer (some ⟨w.heap.size+1+1,16,none⟩)) hS ?_
 refine wpAnyH_ready (rs:=[25]) (by kernel_rfl) (by simp) (AllReadyH.cons (by rfl) ?_ AllReadyH.nil)
 intro K' hK
 rw [if_pos (by rfl)]
 go_wp2_with fail
 refine hK.out _ _ (fst3 _ _ _ _) ?_
 clear hK K' hS
 intro hS
 refine tkH 26 (.pointer (some ⟨w.heap.size+1+1,17,none⟩)) hS ?_
 refine wpAnyH_ready (rs:=[27]) (by kernel_rfl) (by simp) (AllReadyH.cons (by rfl) ?_ AllReadyH.nil)
 intro K' hK
 rw [if_pos (by rfl)]
 go_wp2_with fail
 refine hK.out _ _ (fst3 _ _ _ _) ?_
 clear hK K' hS
 intro hS
 refine wpAnyH_done (by kernel_rfl) ?_ _
 go_wp2_with (first | ((with_reducible show wpList _ _ _ (⟨_,.load 24 _,_,_,_,_⟩ :: _) _ _);refine ld_wl (w.heap.size) p s (by rfl) (by rfl) _ _ (by (first | assumption | exact heap_alloc_last _ _ | (repeat (first | assumption | exact heap_alloc_last _ _ | exact heap_last2 _ _ _ | refine heap_keep ?_ | refine heap_below (by assumption) ?_)))) ?_) | ((with_reducible show wpList _ _ _ (⟨_,.store 28 (.tmp 3) _,_,_,_,_⟩ :: _) _ _);refine st3 _ _ _ _ (by rfl) (by rfl) (by rfl) (by rfl) (by rfl) ?_) | ((with_reducible show wpList _ _ _ (⟨_,.store 28 (.tmp 2) _,_,_,_,_⟩ :: _) _ _);refine stR (w.heap.size+1) _ _ (by rfl) (by rfl) (by (try simp only [dr_heap]);first | exact fst3 _ _ _ _ | exact last3 _ _ _ _ | exact mid3 _ _ _ _ | exact heap_below (by assumption) (mid3 _ _ _ _) | exact heap_below (by assumption) (fst3 _ _ _ _)) (by rfl) (by rfl) (by rfl) ?_) | ((with_reducible show wpList _ _ _ (⟨_,.load 28 (.tmp 1),_,_,_,_⟩ :: _) _ _);refine ld_pk (w.heap.size) (by rfl) (by rfl) _ _ _ (by (try simp only [dr_heap]);first | exact fst3 _ _ _ _ | exact last3 _ _ _ _ | exact mid3 _ _ _ _ | exact heap_below (by assumption) (mid3 _ _ _ _) | exact heap_below (by assumption) (fst3 _ _ _ _)) (by rfl) ?_) | ((with_reducible show wpList _ _ _ (⟨_,.load 28 (.tmp 3),_,_,_,_⟩ :: _) _ _);refine ld_pk (w.heap.size+1+1) (by rfl) (by rfl) _ _ _ (by (try simp only [dr_heap]);first | exact fst3 _ _ _ _ | exact last3 _ _ _ _ | exact mid3 _ _ _ _ | exact heap_below (by assumption) (mid3 _ _ _ _) | exact heap_below (by assumption) (fst3 _ _ _ _)) (by rfl) ?_))
 (refine bodyPost_ret (v:=.agg _) (results_cell_row (by rfl) _ _ (w.heap.size+1) 28 _ (0,0) _ (by rfl) (setRow_heap _ _ _ _ _ _ (by (try simp only [dr_heap]);first | exact fst3 _ _ _ _ | exact last3 _ _ _ _ | exact mid3 _ _ _ _ | exact heap_below (by assumption) (mid3 _ _ _ _) | exact heap_below (by assumption) (fst3 _ _ _ _))) Try.underlying28 (by rfl) (by exact pk_sz)) (by rfl) ⟨congrArg (fun c=>Ending.returned (.agg c)) ?_,?_⟩;(· first | (simp [wrP,wrS, *];done) | (simp [wrP,wrS, *];rfl) | rfl);(· exact below_setRow (by (repeat (first | assumption | exact Below.refl _ _ | exact (Below.refl _ _).alloc (Nat.le_refl _) _ | (refine thn ?_ (by assumption)) | (refine alB ?_ _) | (refine dwN ?_ _) | (refine Below.drew ?_)))) (by omega) _))
theorem only_ttf (p:Pk)(s:Sv)(w:World)(k1:(p.kind==1)=true)(e1:p.hw=true)(e2:p.hu=true)(e3:p.hp=false) :
  Calls Try.prog 45 #[pkV p s] w fun e w'=>e=.returned (pkV (onP p) (wrS p s))∧Below w.heap.size w w':=by
 have ho:onP p=wrP p:=by
  have hk:p.kind=1:=by simpa using k1
  unfold onP
  rw [if_neg (by rw [hk];decide)]
 rw [ho]
 clear ho
 go_enter Try.func45,Try.ntmps45
 go_wp2_with (first | ((with_reducible show wpList _ _ _ (⟨_,.store 28 (.tmp 3) _,_,_,_,_⟩ :: _) _ _);refine st3 _ _ _ _ (by rfl) (by rfl) (by rfl) (by rfl) (by rfl) ?_) | ((with_reducible show wpList _ _ _ (⟨_,.store 28 (.tmp 2) _,_,_,_,_⟩ :: _) _ _);refine stR (w.heap.size+1) _ _ (by rfl) (by rfl) (by (try simp only [dr_heap]);first | exact fst3 _ _ _ _ | exact last3 _ _ _ _ | exact mid3 _ _ _ _ | exact heap_below (by assumption) (mid3 _ _ _ _) | exact heap_below (by assumption) (fst3 _ _ _ _)) (by rfl) (by rfl) (by rfl) ?_) | ((with_reducible show wpList _ _ _ (⟨_,.load 28 (.tmp 1),_,_,_,_⟩ :: _) _ _);refine ld_pk (w.heap.size) (by rfl) (by rfl) _ _ _ (by (try simp only [dr_heap]);first | exact fst3 _ _ _ _ | exact last3 _ _ _ _ | exact mid3 _ _ _ _ | exact heap_below (by assumption) (mid3 _ _ _ _) | exact heap_below (by assumption) (fst3 _ _ _ _)) (by rfl) ?_) | ((with_reducible show wpList _ _ _ (⟨_,.load 28 (.tmp 3),_,_,_,_⟩ :: _) _ _);refine ld_pk (w.heap.size+1+1) (by rfl) (by rfl) _ _ _ (by (try simp only [dr_heap]);first | exact fst3 _ _ _ _ | exact last3 _ _ _ _ | exact mid3 _ _ _ _ | exact heap_below (by assumption) (mid3 _ _ _ _) | exact heap_below (by assumption) (fst3 _ _ _ _)) (by rfl) ?_))
 refine wp_region_held_drew (S:=fun W=>W.heap[w.heap.size]? = some (.cells (pkC p s) 28 (0,0))) (by rfl) (fst3 _ _ _ _) ?_
 intro hS
 refine tkH 0 (.pointer (some ⟨w.heap.size,7,none⟩)) hS ?_
 refine tkH 1 (.int .i64 p.level) hS ?_ (hy:=.inl ⟨by rfl,fun W hW=>by simp [execOp,go_sem,row_cells hW]⟩)
 refine tkH 2 (.pointer (some ⟨w.heap.size,8,none⟩)) hS ?_
 refine tkH 3 (.string p.cli) hS ?_ (hy:=.inl ⟨by rfl,fun W hW=>by simp [execOp,go_sem,row_cells hW]⟩)
 refine tkH 4 (.pointer (some ⟨w.heap.size,9,none⟩)) hS ?_
 refine tkH 5 (.bool p.clean) hS ?_ (hy:=.inl ⟨by rfl,fun W hW=>by simp [execOp,go_sem,row_cells hW]⟩)
 refine tkH 6 (.pointer (some ⟨w.heap.size,10,none⟩)) hS ?_
 refine tkH 7 (.int .i64 p.keep) hS ?_ (hy:=.inl ⟨by rfl,fun W hW=>by simp [execOp,go_sem,row_cells hW]⟩)
 refine tkH 8 (.pointer (some ⟨w.heap.size,11,none⟩)) hS ?_
 refine tkH 9 (.bool p.hw) hS ?_ (hy:=.inl ⟨by rfl,fun W hW=>by simp [execOp,go_sem,row_cells hW]⟩)
 refine tkH 10 (.pointer (some ⟨w.heap.size,16,none⟩)) hS ?_
 refine tkH 11 (.bool p.hu) hS ?_ (hy:=.inl ⟨by rfl,fun W hW=>by simp [execOp,go_sem,row_cells hW]⟩)
 refine tkH 12 (.pointer (some ⟨w.heap.size,17,none⟩)) hS ?_
 refine tkH 13 (.bool p.hp) hS ?_ (hy:=.inl ⟨by rfl,fun W hW=>by simp [execOp,go_sem,row_cells hW]⟩)
 refine tkH 14 (.pointer (some ⟨w.heap.size+1+1,7,none⟩)) hS ?_
 refine wpAnyH_ready (rs:=[15]) (by kernel_rfl) (by simp) (AllReadyH.cons (by rfl) ?_ AllReadyH.nil)
 intro K' hK
 rw [if_pos (by rfl)]
 go_wp2_with fail
 refine hK.out _ _ (fst3 _ _ _ _) ?_
 clear hK K' hS
 intro hS
 refine tkH 16 (.pointer (some ⟨w.heap.size+1+1,8,none⟩)) hS ?_
 refine wpAnyH_ready (rs:=[17]) (by kernel_rfl) (by simp) (AllReadyH.cons (by rfl) ?_ AllReadyH.nil)
 intro K' hK
 rw [if_pos (by rfl)]
 go_wp2_with fail
 refine hK.out _ _ (fst3 _ _ _ _) ?_
 clear hK K' hS
 intro hS
 refine tkH 18 (.pointer (some ⟨w.heap.size+1+1,9,none⟩)) hS ?_
 refine wpAnyH_ready (rs:=[19]) (by kernel_rfl) (by simp) (AllReadyH.cons (by rfl) ?_ AllReadyH.nil)
 intro K' hK
 rw [if_pos (by rfl)]
 go_wp2_with fail
 refine hK.out _ _ (fst3 _ _ _ _) ?_
 clear hK K' hS
 intro hS
 refine tkH 20 (.pointer (some ⟨w.heap.size+1+1,10,none⟩)) hS ?_
 refine wpAnyH_ready (rs:=[21]) (by kernel_rfl) (by simp) (AllReadyH.cons (by rfl) ?_ AllReadyH.nil)
 intro K' hK
 rw [if_pos (by rfl)]
 go_wp2_with fail
 refine hK.out _ _ (fst3 _ _ _ _) ?_
 clear hK K' hS
 intro hS
 refine tkH 22 (.pointer (some ⟨w.heap.size+1+1,11,none⟩)) hS ?_
 refine wpAnyH_ready (rs:=[23]) (by kernel_rfl) (by simp) (AllReadyH.cons (by rfl) ?_ AllReadyH.nil)
 intro K' hK
 rw [if_pos (by rfl)]
 go_wp2_with fail
 refine hK.out _ _ (fst3 _ _ _ _) ?_
 clear hK K' hS
 intro hS
 refine tkH 24 (.pointer (some ⟨w.heap.size+1+1,16,none⟩)) hS ?_
 refine wpAnyH_ready (rs:=[25]) (by kernel_rfl) (by simp) (AllReadyH.cons (by rfl) ?_ AllReadyH.nil)
 intro K' hK
 rw [if_pos (by rfl)]
 go_wp2_with fail
 refine hK.out _ _ (fst3 _ _ _ _) ?_
 clear hK K' hS
 intro hS
 refine tkH 26 (.pointer (some ⟨w.heap.size+1+1,17,none⟩)) hS ?_
 refine wpAnyH_ready (rs:=[27]) (by kernel_rfl) (by simp) (AllReadyH.cons (by rfl) ?_ AllReadyH.nil)
 intro K' hK
 rw [if_pos (by rfl)]
 go_wp2_with fail
 refine hK.out _ _ (fst3 _ _ _ _) ?_
 clear hK K' hS
 intro hS
 refine wpAnyH_done (by kernel_rfl) ?_ _
 go_wp2_with (first | ((with_reducible show wpList _ _ _ (⟨_,.load 24 _,_,_,_,_⟩ :: _) _ _);refine ld_wl (w.heap.size) p s (by rfl) (by rfl) _ _ (by (first | assumption | exact heap_alloc_last _ _ | (repeat (first | assumption | exact heap_alloc_last _ _ | exact heap_last2 _ _ _ | refine heap_keep ?_ | refine heap_below (by assumption) ?_)))) ?_) | ((with_reducible show wpList _ _ _ (⟨_,.store 28 (.tmp 3) _,_,_,_,_⟩ :: _) _ _);refine st3 _ _ _ _ (by rfl) (by rfl) (by rfl) (by rfl) (by rfl) ?_) | ((with_reducible show wpList _ _ _ (⟨_,.store 28 (.tmp 2) _,_,_,_,_⟩ :: _) _ _);refine stR (w.heap.size+1) _ _ (by rfl) (by rfl) (by (try simp only [dr_heap]);first | exact fst3 _ _ _ _ | exact last3 _ _ _ _ | exact mid3 _ _ _ _ | exact heap_below (by assumption) (mid3 _ _ _ _) | exact heap_below (by assumption) (fst3 _ _ _ _)) (by rfl) (by rfl) (by rfl) ?_) | ((with_reducible show wpList _ _ _ (⟨_,.load 28 (.tmp 1),_,_,_,_⟩ :: _) _ _);refine ld_pk (w.heap.size) (by rfl) (by rfl) _ _ _ (by (try simp only [dr_heap]);first | exact fst3 _ _ _ _ | exact last3 _ _ _ _ | exact mid3 _ _ _ _ | exact heap_below (by assumption) (mid3 _ _ _ _) | exact heap_below (by assumption) (fst3 _ _ _ _)) (by rfl) ?_) | ((with_reducible show wpList _ _ _ (⟨_,.load 28 (.tmp 3),_,_,_,_⟩ :: _) _ _);refine ld_pk (w.heap.size+1+1) (by rfl) (by rfl) _ _ _ (by (try simp only [dr_heap]);first | exact fst3 _ _ _ _ | exact last3 _ _ _ _ | exact mid3 _ _ _ _ | exact heap_below (by assumption) (mid3 _ _ _ _) | exact heap_below (by assumption) (fst3 _ _ _ _)) (by rfl) ?_))
 (refine bodyPost_ret (v:=.agg _) (results_cell_row (by rfl) _ _ (w.heap.size+1) 28 _ (0,0) _ (by rfl) (setRow_heap _ _ _ _ _ _ (by (try simp only [dr_heap]);first | exact fst3 _ _ _ _ | exact last3 _ _ _ _ | exact mid3 _ _ _ _ | exact heap_below (by assumption) (mid3 _ _ _ _) | exact heap_below (by assumption) (fst3 _ _ _ _))) Try.underlying28 (by rfl) (by exact pk_sz)) (by rfl) ⟨congrArg (fun c=>Ending.returned (.agg c)) ?_,?_⟩;(· first | (simp [wrP,wrS, *];done) | (simp [wrP,wrS, *];rfl) | rfl);(· exact below_setRow (by (repeat (first | assumption | exact Below.refl _ _ | exact (Below.refl _ _).alloc (Nat.le_refl _) _ | (refine thn ?_ (by assumption)) | (refine alB ?_ _) | (refine dwN ?_ _) | (refine Below.drew ?_)))) (by omega) _))
theorem only_ttt (p:Pk)(s:Sv)(w:World)(k1:(p.kind==1)=true)(e1:p.hw=true)(e2:p.hu=true)(e3:p.hp=true) :
  Calls Try.prog 45 #[pkV p s] w fun e w'=>e=.returned (pkV (onP p) (wrS p s))∧Below w.heap.size w w':=by
 have ho:onP p=wrP p:=by
  have hk:p.kind=1:=by simpa using k1
  unfold onP
  rw [if_neg (by rw [hk];decide)]
 rw [ho]
 clear ho
 go_enter Try.func45,Try.ntmps45
 go_wp2_with (first | ((with_reducible show wpList _ _ _ (⟨_,.store 28 (.tmp 3) _,_,_,_,_⟩ :: _) _ _);refine st3 _ _ _ _ (by rfl) (by rfl) (by rfl) (by rfl) (by rfl) ?_) | ((with_reducible show wpList _ _ _ (⟨_,.store 28 (.tmp 2) _,_,_,_,_⟩ :: _) _ _);refine stR (w.heap.size+1) _ _ (by rfl) (by rfl) (by (try simp only [dr_heap]);first | exact fst3 _ _ _ _ | exact last3 _ _ _ _ | exact mid3 _ _ _ _ | exact heap_below (by assumption) (mid3 _ _ _ _) | exact heap_below (by assumption) (fst3 _ _ _ _)) (by rfl) (by rfl) (by rfl) ?_) | ((with_reducible show wpList _ _ _ (⟨_,.load 28 (.tmp 1),_,_,_,_⟩ :: _) _ _);refine ld_pk (w.heap.size) (by rfl) (by rfl) _ _ _ (by (try simp only [dr_heap]);first | exact fst3 _ _ _ _ | exact last3 _ _ _ _ | exact mid3 _ _ _ _ | exact heap_below (by assumption) (mid3 _ _ _ _) | exact heap_below (by assumption) (fst3 _ _ _ _)) (by rfl) ?_) | ((with_reducible show wpList _ _ _ (⟨_,.load 28 (.tmp 3),_,_,_,_⟩ :: _) _ _);refine ld_pk (w.heap.size+1+1) (by rfl) (by rfl) _ _ _ (by (try simp only [dr_heap]);first | exact fst3 _ _ _ _ | exact last3 _ _ _ _ | exact mid3 _ _ _ _ | exact heap_below (by assumption) (mid3 _ _ _ _) | exact heap_below (by assumption) (fst3 _ _ _ _)) (by rfl) ?_))
 refine wp_region_held_drew (S:=fun W=>W.heap[w.heap.size]? = some (.cells (pkC p s) 28 (0,0))) (by rfl) (fst3 _ _ _ _) ?_
 intro hS
 refine tkH 0 (.pointer (some ⟨w.heap.size,7,none⟩)) hS ?_
 refine tkH 1 (.int .i64 p.level) hS ?_ (hy:=.inl ⟨by rfl,fun W hW=>by simp [execOp,go_sem,row_cells hW]⟩)
 refine tkH 2 (.pointer (some ⟨w.heap.size,8,none⟩)) hS ?_
 refine tkH 3 (.string p.cli) hS ?_ (hy:=.inl ⟨by rfl,fun W hW=>by simp [execOp,go_sem,row_cells hW]⟩)
 refine tkH 4 (.pointer (some ⟨w.heap.size,9,none⟩)) hS ?_
 refine tkH 5 (.bool p.clean) hS ?_ (hy:=.inl ⟨by rfl,fun W hW=>by simp [execOp,go_sem,row_cells hW]⟩)
 refine tkH 6 (.pointer (some ⟨w.heap.size,10,none⟩)) hS ?_
 refine tkH 7 (.int .i64 p.keep) hS ?_ (hy:=.inl ⟨by rfl,fun W hW=>by simp [execOp,go_sem,row_cells hW]⟩)
 refine tkH 8 (.pointer (some ⟨w.heap.size,11,none⟩)) hS ?_
 refine tkH 9 (.bool p.hw) hS ?_ (hy:=.inl ⟨by rfl,fun W hW=>by simp [execOp,go_sem,row_cells hW]⟩)
 refine tkH 10 (.pointer (some ⟨w.heap.size,16,none⟩)) hS ?_
 refine tkH 11 (.bool p.hu) hS ?_ (hy:=.inl ⟨by rfl,fun W hW=>by simp [execOp,go_sem,row_cells hW]⟩)
 refine tkH 12 (.pointer (some ⟨w.heap.size,17,none⟩)) hS ?_
 refine tkH 13 (.bool p.hp) hS ?_ (hy:=.inl ⟨by rfl,fun W hW=>by simp [execOp,go_sem,row_cells hW]⟩)
 refine tkH 14 (.pointer (some ⟨w.heap.size+1+1,7,none⟩)) hS ?_
 refine wpAnyH_ready (rs:=[15]) (by kernel_rfl) (by simp) (AllReadyH.cons (by rfl) ?_ AllReadyH.nil)
 intro K' hK
 rw [if_pos (by rfl)]
 go_wp2_with fail
 refine hK.out _ _ (fst3 _ _ _ _) ?_
 clear hK K' hS
 intro hS
 refine tkH 16 (.pointer (some ⟨w.heap.size+1+1,8,none⟩)) hS ?_
 refine wpAnyH_ready (rs:=[17]) (by kernel_rfl) (by simp) (AllReadyH.cons (by rfl) ?_ AllReadyH.nil)
 intro K' hK
 rw [if_pos (by rfl)]
 go_wp2_with fail
 refine hK.out _ _ (fst3 _ _ _ _) ?_
 clear hK K' hS
 intro hS
 refine tkH 18 (.pointer (some ⟨w.heap.size+1+1,9,none⟩)) hS ?_
 refine wpAnyH_ready (rs:=[19]) (by kernel_rfl) (by simp) (AllReadyH.cons (by rfl) ?_ AllReadyH.nil)
 intro K' hK
 rw [if_pos (by rfl)]
 go_wp2_with fail
 refine hK.out _ _ (fst3 _ _ _ _) ?_
 clear hK K' hS
 intro hS
 refine tkH 20 (.pointer (some ⟨w.heap.size+1+1,10,none⟩)) hS ?_
 refine wpAnyH_ready (rs:=[21]) (by kernel_rfl) (by simp) (AllReadyH.cons (by rfl) ?_ AllReadyH.nil)
 intro K' hK
 rw [if_pos (by rfl)]
 go_wp2_with fail
 refine hK.out _ _ (fst3 _ _ _ _) ?_
 clear hK K' hS
 intro hS
 refine tkH 22 (.pointer (some ⟨w.heap.size+1+1,11,none⟩)) hS ?_
 refine wpAnyH_ready (rs:=[23]) (by kernel_rfl) (by simp) (AllReadyH.cons (by rfl) ?_ AllReadyH.nil)
 intro K' hK
 rw [if_pos (by rfl)]
 go_wp2_with fail
 refine hK.out _ _ (fst3 _ _ _ _) ?_
 clear hK K' hS
 intro hS
 refine tkH 24 (.pointer (some ⟨w.heap.size+1+1,16,none⟩)) hS ?_
 refine wpAnyH_ready (rs:=[25]) (by kernel_rfl) (by simp) (AllReadyH.cons (by rfl) ?_ AllReadyH.nil)
 intro K' hK
 rw [if_pos (by rfl)]
 go_wp2_with fail
 refine hK.out _ _ (fst3 _ _ _ _) ?_
 clear hK K' hS
 intro hS
 refine tkH 26 (.pointer (some ⟨w.heap.size+1+1,17,none⟩)) hS ?_
 refine wpAnyH_ready (rs:=[27]) (by kernel_rfl) (by simp) (AllReadyH.cons (by rfl) ?_ AllReadyH.nil)
 intro K' hK
 rw [if_pos (by rfl)]
 go_wp2_with fail
 refine hK.out _ _ (fst3 _ _ _ _) ?_
 clear hK K' hS
 intro hS
 refine wpAnyH_done (by kernel_rfl) ?_ _
 go_wp2_with (first | ((with_reducible show wpList _ _ _ (⟨_,.load 24 _,_,_,_,_⟩ :: _) _ _);refine ld_wl (w.heap.size) p s (by rfl) (by rfl) _ _ (by (first | assumption | exact heap_alloc_last _ _ | (repeat (first | assumption | exact heap_alloc_last _ _ | exact heap_last2 _ _ _ | refine heap_keep ?_ | refine heap_below (by assumption) ?_)))) ?_) | ((with_reducible show wpList _ _ _ (⟨_,.store 28 (.tmp 3) _,_,_,_,_⟩ :: _) _ _);refine st3 _ _ _ _ (by rfl) (by rfl) (by rfl) (by rfl) (by rfl) ?_) | ((with_reducible show wpList _ _ _ (⟨_,.store 28 (.tmp 2) _,_,_,_,_⟩ :: _) _ _);refine stR (w.heap.size+1) _ _ (by rfl) (by rfl) (by (try simp only [dr_heap]);first | exact fst3 _ _ _ _ | exact last3 _ _ _ _ | exact mid3 _ _ _ _ | exact heap_below (by assumption) (mid3 _ _ _ _) | exact heap_below (by assumption) (fst3 _ _ _ _)) (by rfl) (by rfl) (by rfl) ?_) | ((with_reducible show wpList _ _ _ (⟨_,.load 28 (.tmp 1),_,_,_,_⟩ :: _) _ _);refine ld_pk (w.heap.size) (by rfl) (by rfl) _ _ _ (by (try simp only [dr_heap]);first | exact fst3 _ _ _ _ | exact last3 _ _ _ _ | exact mid3 _ _ _ _ | exact heap_below (by assumption) (mid3 _ _ _ _) | exact heap_below (by assumption) (fst3 _ _ _ _)) (by rfl) ?_) | ((with_reducible show wpList _ _ _ (⟨_,.load 28 (.tmp 3),_,_,_,_⟩ :: _) _ _);refine ld_pk (w.heap.size+1+1) (by rfl) (by rfl) _ _ _ (by (try simp only [dr_heap]);first | exact fst3 _ _ _ _ | exact last3 _ _ _ _ | exact mid3 _ _ _ _ | exact heap_below (by assumption) (mid3 _ _ _ _) | exact heap_below (by assumption) (fst3 _ _ _ _)) (by rfl) ?_))
 (refine bodyPost_ret (v:=.agg _) (results_cell_row (by rfl) _ _ (w.heap.size+1) 28 _ (0,0) _ (by rfl) (setRow_heap _ _ _ _ _ _ (by (try simp only [dr_heap]);first | exact fst3 _ _ _ _ | exact last3 _ _ _ _ | exact mid3 _ _ _ _ | exact heap_below (by assumption) (mid3 _ _ _ _) | exact heap_below (by assumption) (fst3 _ _ _ _))) Try.underlying28 (by rfl) (by exact pk_sz)) (by rfl) ⟨congrArg (fun c=>Ending.returned (.agg c)) ?_,?_⟩;(· first | (simp [wrP,wrS, *];done) | (simp [wrP,wrS, *];rfl) | rfl);(· exact below_setRow (by (repeat (first | assumption | exact Below.refl _ _ | exact (Below.refl _ _).alloc (Nat.le_refl _) _ | (refine thn ?_ (by assumption)) | (refine alB ?_ _) | (refine dwN ?_ _) | (refine Below.drew ?_)))) (by omega) _))
theorem only_1 (p:Pk)(s:Sv)(w:World)(k1:(p.kind==1)=true) :
  Calls Try.prog 45 #[pkV p s] w fun e w'=>e=.returned (pkV (onP p) (wrS p s))∧Below w.heap.size w w':=by
 rcases e1:p.hw with _ | _ <;> rcases e2:p.hu with _ | _ <;> rcases e3:p.hp with _ | _
 ·exact only_fff p s w k1 e1 e2 e3
 ·exact only_fft p s w k1 e1 e2 e3
 ·exact only_ftf p s w k1 e1 e2 e3
 ·exact only_ftt p s w k1 e1 e2 e3
 ·exact only_tff p s w k1 e1 e2 e3
 ·exact only_tft p s w k1 e1 e2 e3
 ·exact only_ttf p s w k1 e1 e2 e3
 ·exact only_ttt p s w k1 e1 e2 e3
end Go.Proofs.Ytnhpacaoobpkhaa
