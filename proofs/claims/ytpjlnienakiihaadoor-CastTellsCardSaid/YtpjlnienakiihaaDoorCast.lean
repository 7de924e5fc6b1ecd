/- What a packet is: cast.wrap, unwrap, identify, claim, Must, Try, Name, Id, Packet. -/
import Derived.Test.YtpjlnienakiihaaDoorPkt
namespace Go.Proofs.YtpjlnienakiihaaDoor
open Go.RowKit Go.Lib

theorem kf (k : Int) : ((k == 1) = true ∧ (k == 2) = false ∧ (k == 3) = false ∧ (k == 4) = false ∧ (k == 5) = false ∧ (k == 6) = false ∧ (k == 7) = false ∧ (k == 8) = false ∧ (k == 9) = false ∧ (k == 10) = false ∧ (k == 11) = false ∧ (k == 12) = false ∧ (k == 13) = false ∧ (k == 14) = false) ∨ ((k == 1) = false ∧ (k == 2) = true ∧ (k == 3) = false ∧ (k == 4) = false ∧ (k == 5) = false ∧ (k == 6) = false ∧ (k == 7) = false ∧ (k == 8) = false ∧ (k == 9) = false ∧ (k == 10) = false ∧ (k == 11) = false ∧ (k == 12) = false ∧ (k == 13) = false ∧ (k == 14) = false) ∨ ((k == 1) = false ∧ (k == 2) = false ∧ (k == 3) = true ∧ (k == 4) = false ∧ (k == 5) = false ∧ (k == 6) = false ∧ (k == 7) = false ∧ (k == 8) = false ∧ (k == 9) = false ∧ (k == 10) = false ∧ (k == 11) = false ∧ (k == 12) = false ∧ (k == 13) = false ∧ (k == 14) = false) ∨ ((k == 1) = false ∧ (k == 2) = false ∧ (k == 3) = false ∧ (k == 4) = true ∧ (k == 5) = false ∧ (k == 6) = false ∧ (k == 7) = false ∧ (k == 8) = false ∧ (k == 9) = false ∧ (k == 10) = false ∧ (k == 11) = false ∧ (k == 12) = false ∧ (k == 13) = false ∧ (k == 14) = false) ∨ ((k == 1) = false ∧ (k == 2) = false ∧ (k == 3) = false ∧ (k == 4) = false ∧ (k == 5) = true ∧ (k == 6) = false ∧ (k == 7) = false ∧ (k == 8) = false ∧ (k == 9) = false ∧ (k == 10) = false ∧ (k == 11) = false ∧ (k == 12) = false ∧ (k == 13) = false ∧ (k == 14) = false) ∨ ((k == 1) = false ∧ (k == 2) = false ∧ (k == 3) = false ∧ (k == 4) = false ∧ (k == 5) = false ∧ (k == 6) = true ∧ (k == 7) = false ∧ (k == 8) = false ∧ (k == 9) = false ∧ (k == 10) = false ∧ (k == 11) = false ∧ (k == 12) = false ∧ (k == 13) = false ∧ (k == 14) = false) ∨ ((k == 1) = false ∧ (k == 2) = false ∧ (k == 3) = false ∧ (k == 4) = false ∧ (k == 5) = false ∧ (k == 6) = false ∧ (k == 7) = true ∧ (k == 8) = false ∧ (k == 9) = false ∧ (k == 10) = false ∧ (k == 11) = false ∧ (k == 12) = false ∧ (k == 13) = false ∧ (k == 14) = false) ∨ ((k == 1) = false ∧ (k == 2) = false ∧ (k == 3) = false ∧ (k == 4) = false ∧ (k == 5) = false ∧ (k == 6) = false ∧ (k == 7) = false ∧ (k == 8) = true ∧ (k == 9) = false ∧ (k == 10) = false ∧ (k == 11) = false ∧ (k == 12) = false ∧ (k == 13) = false ∧ (k == 14) = false) ∨ ((k == 1) = false ∧ (k == 2) = false ∧ (k == 3) = false ∧ (k == 4) = false ∧ (k == 5) = false ∧ (k == 6) = false ∧ (k == 7) = false ∧ (k == 8) = false ∧ (k == 9) = true ∧ (k == 10) = false ∧ (k == 11) = false ∧ (k == 12) = false ∧ (k == 13) = false ∧ (k == 14) = false) ∨ ((k == 1) = false ∧ (k == 2) = false ∧ (k == 3) = false ∧ (k == 4) = false ∧ (k == 5) = false ∧ (k == 6) = false ∧ (k == 7) = false ∧ (k == 8) = false ∧ (k == 9) = false ∧ (k == 10) = true ∧ (k == 11) = false ∧ (k == 12) = false ∧ (k == 13) = false ∧ (k == 14) = false) ∨ ((k == 1) = false ∧ (k == 2) = false ∧ (k == 3) = false ∧ (k == 4) = false ∧ (k == 5) = false ∧ (k == 6) = false ∧ (k == 7) = false ∧ (k == 8) = false ∧ (k == 9) = false ∧ (k == 10) = false ∧ (k == 11) = true ∧ (k == 12) = false ∧ (k == 13) = false ∧ (k == 14) = false) ∨ ((k == 1) = false ∧ (k == 2) = false ∧ (k == 3) = false ∧ (k == 4) = false ∧ (k == 5) = false ∧ (k == 6) = false ∧ (k == 7) = false ∧ (k == 8) = false ∧ (k == 9) = false ∧ (k == 10) = false ∧ (k == 11) = false ∧ (k == 12) = true ∧ (k == 13) = false ∧ (k == 14) = false) ∨ ((k == 1) = false ∧ (k == 2) = false ∧ (k == 3) = false ∧ (k == 4) = false ∧ (k == 5) = false ∧ (k == 6) = false ∧ (k == 7) = false ∧ (k == 8) = false ∧ (k == 9) = false ∧ (k == 10) = false ∧ (k == 11) = false ∧ (k == 12) = false ∧ (k == 13) = true ∧ (k == 14) = false) ∨ ((k == 1) = false ∧ (k == 2) = false ∧ (k == 3) = false ∧ (k == 4) = false ∧ (k == 5) = false ∧ (k == 6) = false ∧ (k == 7) = false ∧ (k == 8) = false ∧ (k == 9) = false ∧ (k == 10) = false ∧ (k == 11) = false ∧ (k == 12) = false ∧ (k == 13) = false ∧ (k == 14) = true) ∨ ((k == 1) = false ∧ (k == 2) = false ∧ (k == 3) = false ∧ (k == 4) = false ∧ (k == 5) = false ∧ (k == 6) = false ∧ (k == 7) = false ∧ (k == 8) = false ∧ (k == 9) = false ∧ (k == 10) = false ∧ (k == 11) = false ∧ (k == 12) = false ∧ (k == 13) = false ∧ (k == 14) = false) := by
  by_cases h1 : 1 ≤ k ∧ k ≤ 14
  · have : k = 1 ∨ k = 2 ∨ k = 3 ∨ k = 4 ∨ k = 5 ∨ k = 6 ∨ k = 7 ∨ k = 8 ∨ k = 9 ∨ k = 10 ∨ k = 11 ∨ k = 12 ∨ k = 13 ∨ k = 14 := by omega
    rcases this with rfl | rfl | rfl | rfl | rfl | rfl | rfl | rfl | rfl | rfl | rfl | rfl | rfl | rfl <;> simp
  · have e : ∀ i : Int, 1 ≤ i → i ≤ 14 → (k == i) = false := fun i a b => beq_eq_false_iff_ne.2 (by omega)
    iterate 14 apply Or.inr
    refine ⟨?_, ?_, ?_, ?_, ?_, ?_, ?_, ?_, ?_, ?_, ?_, ?_, ?_, ?_⟩ <;> exact e _ (by omega) (by omega)

def pk0 : Pk := ⟨0, false, false, 0, 0, ByteArray.empty, [], 0, ByteArray.empty, false, 0, false, ByteArray.empty, [], 0, false, false, false, ByteArray.empty, [], false, 0, [], []⟩
def sv0 : Sv := ⟨none, 0, none, 0, none, 0, none, 0, none, 0⟩
def pk0C : Array Value := pkC pk0 sv0

/-- The form of a kind: greeting, message, ack, ask, signal, none. -/
def formK (k : Int) : Int :=
  if k == 1 || k == 2 then 0 else if k == 3 then 1 else if k == 4 || k == 5 || k == 6 || k == 7 || k == 9 || k == 11 then 2 else if k == 8 || k == 10 then 3 else if k == 12 || k == 13 || k == 14 then 4 else 5
/-- What holds a packet as that form. -/
def formV (f : Int) (v : Value) : Value :=
  if f == 0 then .iface 67 v else if f == 1 then .iface 37 v else if f == 2 then .iface 68 v else if f == 3 then .iface 55 v else if f == 4 then .iface 56 v else .nilIface
def wrapV (p : Pk) (s : Sv) : Value := formV (formK p.kind) (pkV p s)

@[go_sem] theorem mkGreeting (x : Value) (w : World) : (Instr.makeInterface 67 x).run Tryd.prog w = .ok (.iface 67 x) w := by kernel_rfl
@[go_sem] theorem mkMessage (x : Value) (w : World) : (Instr.makeInterface 37 x).run Tryd.prog w = .ok (.iface 37 x) w := by kernel_rfl
@[go_sem] theorem mkAck (x : Value) (w : World) : (Instr.makeInterface 68 x).run Tryd.prog w = .ok (.iface 68 x) w := by kernel_rfl
@[go_sem] theorem mkAsk (x : Value) (w : World) : (Instr.makeInterface 55 x).run Tryd.prog w = .ok (.iface 55 x) w := by kernel_rfl
@[go_sem] theorem mkSignal (x : Value) (w : World) : (Instr.makeInterface 56 x).run Tryd.prog w = .ok (.iface 56 x) w := by kernel_rfl

/-- A packet as a part of what is built of it alone. -/
theorem bl_pk {ops : Array Oper} {rest : List Oper} {Q : Exit → Act → World → Prop} {a : Act} {w : World} {T : TypeId} {x : Operand} {d : Tmp} {ty : TypeId} {ps : String} {af : Array Edge} {gd : Option (Nat × Bool)}
    (p : Pk) (s : Sv) (hx : a.eval x = .agg (pkC p s)) (hw : Region.wanted { dst := some d, op := .build T #[(0, x)], type := ty, pos := ps, after := af, guard := gd } (yielded ops a.tmps) = true)
    (hf : Tryd.prog.built T [(0, .agg (pkC p s))] = some (pkC p s))
    (h : wpList Tryd.prog ops Q rest (a.put (some d) (.agg (pkC p s))) w) :
    wpList Tryd.prog ops Q ({ dst := some d, op := .build T #[(0, x)], type := ty, pos := ps, after := af, guard := gd } :: rest) a w :=
  BigFrame.wpList_want hw fun K hK => by
    refine wp_build T #[(0, x)] rfl (by simp only [List.map_toArray, List.map_cons, List.map_nil, hx, hf]; rfl) ?_
    simp only [List.map_toArray, List.map_cons, List.map_nil, hx, hf]
    exact hK _ _ h

theorem bGreeting (p : Pk) (s : Sv) : Tryd.prog.built 67 [(0, .agg (pkC p s))] = some (pkC p s) := by kernel_rfl
theorem bMessage (p : Pk) (s : Sv) : Tryd.prog.built 37 [(0, .agg (pkC p s))] = some (pkC p s) := by kernel_rfl
theorem bAck (p : Pk) (s : Sv) : Tryd.prog.built 68 [(0, .agg (pkC p s))] = some (pkC p s) := by kernel_rfl
theorem bAsk (p : Pk) (s : Sv) : Tryd.prog.built 55 [(0, .agg (pkC p s))] = some (pkC p s) := by kernel_rfl
theorem bSignal (p : Pk) (s : Sv) : Tryd.prog.built 56 [(0, .agg (pkC p s))] = some (pkC p s) := by kernel_rfl

set_option maxRecDepth 100000 in
set_option maxHeartbeats 2000000 in
theorem wrap_any (p : Pk) (s : Sv) (w : World) :
    Calls Tryd.prog 20 #[pkV p s] w fun e w' => e = .returned (wrapV p s) ∧ Below w.heap.size w w' := by
  rcases kf p.kind with ⟨k1, k2, k3, k4, k5, k6, k7, k8, k9, k10, k11, k12, k13, k14⟩ | ⟨k1, k2, k3, k4, k5, k6, k7, k8, k9, k10, k11, k12, k13, k14⟩ | ⟨k1, k2, k3, k4, k5, k6, k7, k8, k9, k10, k11, k12, k13, k14⟩ | ⟨k1, k2, k3, k4, k5, k6, k7, k8, k9, k10, k11, k12, k13, k14⟩ | ⟨k1, k2, k3, k4, k5, k6, k7, k8, k9, k10, k11, k12, k13, k14⟩ | ⟨k1, k2, k3, k4, k5, k6, k7, k8, k9, k10, k11, k12, k13, k14⟩ | ⟨k1, k2, k3, k4, k5, k6, k7, k8, k9, k10, k11, k12, k13, k14⟩ | ⟨k1, k2, k3, k4, k5, k6, k7, k8, k9, k10, k11, k12, k13, k14⟩ | ⟨k1, k2, k3, k4, k5, k6, k7, k8, k9, k10, k11, k12, k13, k14⟩ | ⟨k1, k2, k3, k4, k5, k6, k7, k8, k9, k10, k11, k12, k13, k14⟩ | ⟨k1, k2, k3, k4, k5, k6, k7, k8, k9, k10, k11, k12, k13, k14⟩ | ⟨k1, k2, k3, k4, k5, k6, k7, k8, k9, k10, k11, k12, k13, k14⟩ | ⟨k1, k2, k3, k4, k5, k6, k7, k8, k9, k10, k11, k12, k13, k14⟩ | ⟨k1, k2, k3, k4, k5, k6, k7, k8, k9, k10, k11, k12, k13, k14⟩ | ⟨k1, k2, k3, k4, k5, k6, k7, k8, k9, k10, k11, k12, k13, k14⟩ <;>
  (go_enter Tryd.func20, Tryd.ntmps20
   go_wp2_with (first
     | ((with_reducible show wpList _ _ _ ({ dst := _, op := Op.load 28 _, type := _, pos := _, after := _, guard := _ } :: _) _ _); refine ld_pk (w.heap.size) (by rfl) (by rfl) _ _ _ (by (first | assumption | exact heap_alloc_last _ _ | (repeat (first | assumption | exact heap_alloc_last _ _ | exact heap_last2 _ _ _ | refine heap_keep ?_ | refine heap_below (by assumption) ?_)))) (by rfl) ?_)
     | (refine bl_pk p s (by rfl) (by rfl) (by first | exact bGreeting p s | exact bMessage p s | exact bAck p s | exact bAsk p s | exact bSignal p s) ?_))
   go_ret
   exact ⟨congrArg Ending.returned (by unfold wrapV formV formK; simp only [k1, k2, k3, k4, k5, k6, k7, k8, k9, k10, k11, k12, k13, k14]; rfl), by (repeat (first | assumption | exact Below.refl _ _ | exact (Below.refl _ _).alloc (Nat.le_refl _) _ | (refine thn ?_ (by assumption)) | (refine alB ?_ _) | (refine dwN ?_ _) | (refine Below.drew ?_)))⟩)

end Go.Proofs.YtpjlnienakiihaaDoor
