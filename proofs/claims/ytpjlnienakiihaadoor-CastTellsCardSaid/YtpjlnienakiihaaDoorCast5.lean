/- Must and Try: a Message told, and the panic of all others caught. -/
import Derived.Test.YtpjlnienakiihaaDoorCopied
import Derived.Defers
import Derived.Recover
namespace Go.Proofs.YtpjlnienakiihaaDoor
open Go.RowKit Go.Lib

noncomputable def panC (T : Option TypeId) : Array Value := #[typeHandle Tryd.prog 20, match T with | some t => typeHandle Tryd.prog t | none => .pointer none, typeHandle Tryd.prog 37, strVal ""]
noncomputable def panV (w : World) : Value := .iface 15 (.pointer (some ⟨w.heap.size, 0, none⟩))
theorem pan_nil (W : World) : (Instr.typeAssert .nilIface 20 37 false).run Tryd.prog W = .halt (.panic (panV W)) (W.alloc (.cells (panC none) 78)) := by kernel_rfl
theorem pan_no (u : TypeId) (v : Value) (W : World) (h : u ≠ 37) : (Instr.typeAssert (.iface u v) 20 37 false).run Tryd.prog W = .halt (.panic (panV W)) (W.alloc (.cells (panC (some u)) 78)) := by
  have e : (Instr.typeAssert (.iface u v) 20 37 false).run Tryd.prog W = (if u = 37 then (pure v : Sem Value) else runtimePanic (.typeAssertion (some 20) (some u) 37 "")).run Tryd.prog W := by kernel_rfl
  have z : ((runtimePanic (.typeAssertion (some 20) (some u) 37 "") : Sem Value)).run Tryd.prog W = .halt (.panic (panV W)) (W.alloc (.cells (panC (some u)) 78)) := by kernel_rfl
  rw [e, if_neg h]
  exact z
theorem claim_hit (v : Value) (W : World) : (Instr.typeAssert (.iface 37 v) 20 37 false).run Tryd.prog W = .ok v W := by kernel_rfl

/-- It panics, with an interface value; nothing that was there is changed. -/
def PanicPost (w : World) (e : Ending) (w' : World) : Prop :=
  ∃ (u : TypeId) (v : Value), e = .panicked [{ v := .iface u v, recovered := false }] ∧ Below w.heap.size w w'

set_option maxRecDepth 100000 in
set_option maxHeartbeats 1000000 in
theorem claim_nil (w : World) : Calls Tryd.prog 31 #[.nilIface] w (PanicPost w) := by
  have a := pan_nil
  go_enter Tryd.func31, Tryd.ntmps31
  go_wp2
  exact ⟨rfl, _, _, rfl, by (repeat (first | assumption | exact Below.refl _ _ | exact (Below.refl _ _).alloc (Nat.le_refl _) _ | (refine thn ?_ (by assumption)) | (refine alB ?_ _) | (refine dwN ?_ _) | (refine Below.drew ?_)))⟩
set_option maxRecDepth 100000 in
set_option maxHeartbeats 1000000 in
theorem claim_no (u : TypeId) (v : Value) (h : u ≠ 37) (w : World) : Calls Tryd.prog 31 #[.iface u v] w (PanicPost w) := by
  have a := fun W => pan_no u v W h
  clear h
  go_enter Tryd.func31, Tryd.ntmps31
  go_wp2
  exact ⟨rfl, _, _, rfl, by (repeat (first | assumption | exact Below.refl _ _ | exact (Below.refl _ _).alloc (Nat.le_refl _) _ | (refine thn ?_ (by assumption)) | (refine alB ?_ _) | (refine dwN ?_ _) | (refine Below.drew ?_)))⟩
set_option maxRecDepth 100000 in
set_option maxHeartbeats 1000000 in
theorem claim_yes (p : Pk) (s : Sv) (w : World) : Calls Tryd.prog 31 #[.iface 37 (pkV p s)] w fun e w' => e = .returned (pkV p s) ∧ Below w.heap.size w w' := by
  have a := claim_hit
  go_enter Tryd.func31, Tryd.ntmps31
  go_wp2_with ((with_reducible show wpList _ _ _ ({ dst := _, op := Op.store 37 _ _, type := _, pos := _, after := _, guard := _ } :: _) _ _); refine stL w.heap.size (by rfl) _ (pkC p s) (by rfl) (by rfl) (by rfl) (by rfl) szMessage (pk_one p s) ?_)
  exact bodyPost_ret (v := .agg (pkC p s)) (results_cell_row (by rfl) _ _ w.heap.size 37 _ (0, 0) _ (by rfl) (heap_alloc_new _ _) Tryd.underlying37 (by rfl) (by exact szMessage)) (by rfl) ⟨rfl, by (repeat (first | assumption | exact Below.refl _ _ | exact (Below.refl _ _).alloc (Nat.le_refl _) _ | (refine thn ?_ (by assumption)) | (refine alB ?_ _) | (refine dwN ?_ _) | (refine Below.drew ?_)))⟩

end Go.Proofs.YtpjlnienakiihaaDoor
