/- What a form holds: cast.unwrap, identify, claim. -/
import Derived.Test.YtpjlnienakiihaaDoorCast2
namespace Go.Proofs.YtpjlnienakiihaaDoor
open Go.RowKit Go.Lib

set_option maxRecDepth 100000 in
set_option maxHeartbeats 2000000 in
theorem unwrapGreeting (p : Pk) (s : Sv) (w : World) :
    Calls Tryd.prog 22 #[.iface 67 (pkV p s)] w fun e w' => e = .returned (.tuple #[pkV p s, .int .i64 0]) ∧ Below w.heap.size w w' := by
  have a0 : ∀ (v : Value) (W : World), _ := fun v W => as_yes 67 v W (by simp)
  go_enter Tryd.func22, Tryd.ntmps22
  go_wp2_with (first
    | ((with_reducible show wpList _ _ _ ({ dst := _, op := Op.store 67 _ _, type := _, pos := _, after := _, guard := _ } :: _) _ _); refine stL (w.heap.size + 1) (by simp) _ _ (by rfl) (by rfl) (by rfl) (by rfl) szGreeting (pk_one p s) ?_)
    | ((with_reducible show wpList _ _ _ ({ dst := _, op := Op.load 28 _, type := _, pos := _, after := _, guard := _ } :: _) _ _); refine ld_pk (w.heap.size + 1) (by rfl) (by rfl) (pkC p s) _ _ (heap_alloc2_new _ _ _) (by rfl) ?_)
    | ((with_reducible show wpList _ _ _ ({ dst := _, op := Op.store 28 _ _, type := _, pos := _, after := _, guard := _ } :: _) _ _); refine stR w.heap.size _ _ (by rfl) (by rfl) (heap_alloc2_old _ _ _) (by rfl) (by rfl) pk_sz (pk_one p s) ?_))
  exact bodyPost_ret (v := .tuple #[.agg (pkC p s), .int .i64 0]) (results_row_tmp (by rfl) _ _ w.heap.size 28 _ (0, 0) _ _ (by rfl) (by rfl) (setRow_heap _ _ _ _ _ _ (heap_alloc2_old _ _ _)) Tryd.underlying28 (by exact pk_sz)) rfl ⟨rfl, below_setRow (by (repeat (first | assumption | exact Below.refl _ _ | exact (Below.refl _ _).alloc (Nat.le_refl _) _ | (refine thn ?_ (by assumption)) | (refine alB ?_ _) | (refine dwN ?_ _) | (refine Below.drew ?_)))) (Nat.le_refl _) _⟩

set_option maxRecDepth 100000 in
set_option maxHeartbeats 2000000 in
theorem unwrapMessage (p : Pk) (s : Sv) (w : World) :
    Calls Tryd.prog 22 #[.iface 37 (pkV p s)] w fun e w' => e = .returned (.tuple #[pkV p s, .int .i64 1]) ∧ Below w.heap.size w w' := by
  have a0 : ∀ (v : Value) (W : World), _ := fun v W => as_no 67 37 v W (by simp) (by decide)
  have a1 : ∀ (v : Value) (W : World), _ := fun v W => as_yes 37 v W (by simp)
  go_enter Tryd.func22, Tryd.ntmps22
  go_wp2_with (first
    | ((with_reducible show wpList _ _ _ ({ dst := _, op := Op.store 37 _ _, type := _, pos := _, after := _, guard := _ } :: _) _ _); refine stL (w.heap.size + 1) (by simp) _ _ (by rfl) (by rfl) (by rfl) (by rfl) szMessage (pk_one p s) ?_)
    | ((with_reducible show wpList _ _ _ ({ dst := _, op := Op.load 28 _, type := _, pos := _, after := _, guard := _ } :: _) _ _); refine ld_pk (w.heap.size + 1) (by rfl) (by rfl) (pkC p s) _ _ (heap_alloc2_new _ _ _) (by rfl) ?_)
    | ((with_reducible show wpList _ _ _ ({ dst := _, op := Op.store 28 _ _, type := _, pos := _, after := _, guard := _ } :: _) _ _); refine stR w.heap.size _ _ (by rfl) (by rfl) (heap_alloc2_old _ _ _) (by rfl) (by rfl) pk_sz (pk_one p s) ?_))
  exact bodyPost_ret (v := .tuple #[.agg (pkC p s), .int .i64 1]) (results_row_tmp (by rfl) _ _ w.heap.size 28 _ (0, 0) _ _ (by rfl) (by rfl) (setRow_heap _ _ _ _ _ _ (heap_alloc2_old _ _ _)) Tryd.underlying28 (by exact pk_sz)) rfl ⟨rfl, below_setRow (by (repeat (first | assumption | exact Below.refl _ _ | exact (Below.refl _ _).alloc (Nat.le_refl _) _ | (refine thn ?_ (by assumption)) | (refine alB ?_ _) | (refine dwN ?_ _) | (refine Below.drew ?_)))) (Nat.le_refl _) _⟩

set_option maxRecDepth 100000 in
set_option maxHeartbeats 2000000 in
theorem unwrapAck (p : Pk) (s : Sv) (w : World) :
    Calls Tryd.prog 22 #[.iface 68 (pkV p s)] w fun e w' => e = .returned (.tuple #[pkV p s, .int .i64 2]) ∧ Below w.heap.size w w' := by
  have a0 : ∀ (v : Value) (W : World), _ := fun v W => as_no 67 68 v W (by simp) (by decide)
  have a1 : ∀ (v : Value) (W : World), _ := fun v W => as_no 37 68 v W (by simp) (by decide)
  have a2 : ∀ (v : Value) (W : World), _ := fun v W => as_yes 68 v W (by simp)
  go_enter Tryd.func22, Tryd.ntmps22
  go_wp2_with (first
    | ((with_reducible show wpList _ _ _ ({ dst := _, op := Op.store 68 _ _, type := _, pos := _, after := _, guard := _ } :: _) _ _); refine stL (w.heap.size + 1) (by simp) _ _ (by rfl) (by rfl) (by rfl) (by rfl) szAck (pk_one p s) ?_)
    | ((with_reducible show wpList _ _ _ ({ dst := _, op := Op.load 28 _, type := _, pos := _, after := _, guard := _ } :: _) _ _); refine ld_pk (w.heap.size + 1) (by rfl) (by rfl) (pkC p s) _ _ (heap_alloc2_new _ _ _) (by rfl) ?_)
    | ((with_reducible show wpList _ _ _ ({ dst := _, op := Op.store 28 _ _, type := _, pos := _, after := _, guard := _ } :: _) _ _); refine stR w.heap.size _ _ (by rfl) (by rfl) (heap_alloc2_old _ _ _) (by rfl) (by rfl) pk_sz (pk_one p s) ?_))
  exact bodyPost_ret (v := .tuple #[.agg (pkC p s), .int .i64 2]) (results_row_tmp (by rfl) _ _ w.heap.size 28 _ (0, 0) _ _ (by rfl) (by rfl) (setRow_heap _ _ _ _ _ _ (heap_alloc2_old _ _ _)) Tryd.underlying28 (by exact pk_sz)) rfl ⟨rfl, below_setRow (by (repeat (first | assumption | exact Below.refl _ _ | exact (Below.refl _ _).alloc (Nat.le_refl _) _ | (refine thn ?_ (by assumption)) | (refine alB ?_ _) | (refine dwN ?_ _) | (refine Below.drew ?_)))) (Nat.le_refl _) _⟩

set_option maxRecDepth 100000 in
set_option maxHeartbeats 2000000 in
theorem unwrapAsk (p : Pk) (s : Sv) (w : World) :
    Calls Tryd.prog 22 #[.iface 55 (pkV p s)] w fun e w' => e = .returned (.tuple #[pkV p s, .int .i64 3]) ∧ Below w.heap.size w w' := by
  have a0 : ∀ (v : Value) (W : World), _ := fun v W => as_no 67 55 v W (by simp) (by decide)
  have a1 : ∀ (v : Value) (W : World), _ := fun v W => as_no 37 55 v W (by simp) (by decide)
  have a2 : ∀ (v : Value) (W : World), _ := fun v W => as_no 68 55 v W (by simp) (by decide)
  have a3 : ∀ (v : Value) (W : World), _ := fun v W => as_yes 55 v W (by simp)
  go_enter Tryd.func22, Tryd.ntmps22
  go_wp2_with (first
    | ((with_reducible show wpList _ _ _ ({ dst := _, op := Op.store 55 _ _, type := _, pos := _, after := _, guard := _ } :: _) _ _); refine stL (w.heap.size + 1) (by simp) _ _ (by rfl) (by rfl) (by rfl) (by rfl) szAsk (pk_one p s) ?_)
    | ((with_reducible show wpList _ _ _ ({ dst := _, op := Op.load 28 _, type := _, pos := _, after := _, guard := _ } :: _) _ _); refine ld_pk (w.heap.size + 1) (by rfl) (by rfl) (pkC p s) _ _ (heap_alloc2_new _ _ _) (by rfl) ?_)
    | ((with_reducible show wpList _ _ _ ({ dst := _, op := Op.store 28 _ _, type := _, pos := _, after := _, guard := _ } :: _) _ _); refine stR w.heap.size _ _ (by rfl) (by rfl) (heap_alloc2_old _ _ _) (by rfl) (by rfl) pk_sz (pk_one p s) ?_))
  exact bodyPost_ret (v := .tuple #[.agg (pkC p s), .int .i64 3]) (results_row_tmp (by rfl) _ _ w.heap.size 28 _ (0, 0) _ _ (by rfl) (by rfl) (setRow_heap _ _ _ _ _ _ (heap_alloc2_old _ _ _)) Tryd.underlying28 (by exact pk_sz)) rfl ⟨rfl, below_setRow (by (repeat (first | assumption | exact Below.refl _ _ | exact (Below.refl _ _).alloc (Nat.le_refl _) _ | (refine thn ?_ (by assumption)) | (refine alB ?_ _) | (refine dwN ?_ _) | (refine Below.drew ?_)))) (Nat.le_refl _) _⟩

set_option maxRecDepth 100000 in
set_option maxHeartbeats 2000000 in
theorem unwrapSignal (p : Pk) (s : Sv) (w : World) :
    Calls Tryd.prog 22 #[.iface 56 (pkV p s)] w fun e w' => e = .returned (.tuple #[pkV p s, .int .i64 4]) ∧ Below w.heap.size w w' := by
  have a0 : ∀ (v : Value) (W : World), _ := fun v W => as_no 67 56 v W (by simp) (by decide)
  have a1 : ∀ (v : Value) (W : World), _ := fun v W => as_no 37 56 v W (by simp) (by decide)
  have a2 : ∀ (v : Value) (W : World), _ := fun v W => as_no 68 56 v W (by simp) (by decide)
  have a3 : ∀ (v : Value) (W : World), _ := fun v W => as_no 55 56 v W (by simp) (by decide)
  have a4 : ∀ (v : Value) (W : World), _ := fun v W => as_yes 56 v W (by simp)
  go_enter Tryd.func22, Tryd.ntmps22
  go_wp2_with (first
    | ((with_reducible show wpList _ _ _ ({ dst := _, op := Op.store 56 _ _, type := _, pos := _, after := _, guard := _ } :: _) _ _); refine stL (w.heap.size + 1) (by simp) _ _ (by rfl) (by rfl) (by rfl) (by rfl) szSignal (pk_one p s) ?_)
    | ((with_reducible show wpList _ _ _ ({ dst := _, op := Op.load 28 _, type := _, pos := _, after := _, guard := _ } :: _) _ _); refine ld_pk (w.heap.size + 1) (by rfl) (by rfl) (pkC p s) _ _ (heap_alloc2_new _ _ _) (by rfl) ?_)
    | ((with_reducible show wpList _ _ _ ({ dst := _, op := Op.store 28 _ _, type := _, pos := _, after := _, guard := _ } :: _) _ _); refine stR w.heap.size _ _ (by rfl) (by rfl) (heap_alloc2_old _ _ _) (by rfl) (by rfl) pk_sz (pk_one p s) ?_))
  exact bodyPost_ret (v := .tuple #[.agg (pkC p s), .int .i64 4]) (results_row_tmp (by rfl) _ _ w.heap.size 28 _ (0, 0) _ _ (by rfl) (by rfl) (setRow_heap _ _ _ _ _ _ (heap_alloc2_old _ _ _)) Tryd.underlying28 (by exact pk_sz)) rfl ⟨rfl, below_setRow (by (repeat (first | assumption | exact Below.refl _ _ | exact (Below.refl _ _).alloc (Nat.le_refl _) _ | (refine thn ?_ (by assumption)) | (refine alB ?_ _) | (refine dwN ?_ _) | (refine Below.drew ?_)))) (Nat.le_refl _) _⟩

set_option maxRecDepth 100000 in
set_option maxHeartbeats 2000000 in
theorem unwrapNil (w : World) :
    Calls Tryd.prog 22 #[.nilIface] w fun e w' => e = .returned (.tuple #[.agg pk0C, .int .i64 5]) ∧ Below w.heap.size w w' := by
  have a0 : ∀ (W : World), _ := fun W => as_nil 67 W (by simp)
  have a1 : ∀ (W : World), _ := fun W => as_nil 37 W (by simp)
  have a2 : ∀ (W : World), _ := fun W => as_nil 68 W (by simp)
  have a3 : ∀ (W : World), _ := fun W => as_nil 55 W (by simp)
  have a4 : ∀ (W : World), _ := fun W => as_nil 56 W (by simp)
  go_enter Tryd.func22, Tryd.ntmps22
  go_wp2_with (
    ((with_reducible show wpList _ _ _ ({ dst := _, op := Op.store 28 _ _, type := _, pos := _, after := _, guard := _ } :: _) _ _); refine stR w.heap.size _ pk0C (by rfl) (by rfl) (heap_alloc_new _ _) (by rfl) (by rfl) pk_sz (pk_one _ _) ?_))
  exact bodyPost_ret (v := .tuple #[.agg pk0C, .int .i64 5]) (results_row_tmp (by rfl) _ _ w.heap.size 28 _ (0, 0) _ _ (by rfl) (by rfl) (setRow_heap _ _ _ _ _ _ (heap_alloc_new _ _)) Tryd.underlying28 (by exact pk_sz)) rfl ⟨rfl, below_setRow (by (repeat (first | assumption | exact Below.refl _ _ | exact (Below.refl _ _).alloc (Nat.le_refl _) _ | (refine thn ?_ (by assumption)) | (refine alB ?_ _) | (refine dwN ?_ _) | (refine Below.drew ?_)))) (Nat.le_refl _) _⟩

set_option maxRecDepth 100000 in
set_option maxHeartbeats 2000000 in
theorem unwrapNo (u : TypeId) (v : Value) (h0 : u ≠ 67) (h1 : u ≠ 37) (h2 : u ≠ 68) (h3 : u ≠ 55) (h4 : u ≠ 56) (w : World) :
    Calls Tryd.prog 22 #[.iface u v] w fun e w' => e = .returned (.tuple #[.agg pk0C, .int .i64 5]) ∧ Below w.heap.size w w' := by
  have a0 : ∀ (W : World), _ := fun W => as_no 67 u v W (by simp) h0
  have a1 : ∀ (W : World), _ := fun W => as_no 37 u v W (by simp) h1
  have a2 : ∀ (W : World), _ := fun W => as_no 68 u v W (by simp) h2
  have a3 : ∀ (W : World), _ := fun W => as_no 55 u v W (by simp) h3
  have a4 : ∀ (W : World), _ := fun W => as_no 56 u v W (by simp) h4
  clear h0 h1 h2 h3 h4
  go_enter Tryd.func22, Tryd.ntmps22
  go_wp2_with (
    ((with_reducible show wpList _ _ _ ({ dst := _, op := Op.store 28 _ _, type := _, pos := _, after := _, guard := _ } :: _) _ _); refine stR w.heap.size _ pk0C (by rfl) (by rfl) (heap_alloc_new _ _) (by rfl) (by rfl) pk_sz (pk_one _ _) ?_))
  exact bodyPost_ret (v := .tuple #[.agg pk0C, .int .i64 5]) (results_row_tmp (by rfl) _ _ w.heap.size 28 _ (0, 0) _ _ (by rfl) (by rfl) (setRow_heap _ _ _ _ _ _ (heap_alloc_new _ _)) Tryd.underlying28 (by exact pk_sz)) rfl ⟨rfl, below_setRow (by (repeat (first | assumption | exact Below.refl _ _ | exact (Below.refl _ _).alloc (Nat.le_refl _) _ | (refine thn ?_ (by assumption)) | (refine alB ?_ _) | (refine dwN ?_ _) | (refine Below.drew ?_)))) (Nat.le_refl _) _⟩

end Go.Proofs.YtpjlnienakiihaaDoor
