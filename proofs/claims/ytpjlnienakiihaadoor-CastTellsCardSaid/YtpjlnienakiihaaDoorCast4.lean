/- What a form's Id is: cast.identify; what a packet's form holds. -/
import Derived.Test.YtpjlnienakiihaaDoorCast3
namespace Go.Proofs.YtpjlnienakiihaaDoor
open Go.RowKit Go.Lib

def uwP (p : Pk) : Pk := if formK p.kind == 5 then pk0 else p
def uwS (p : Pk) (s : Sv) : Sv := if formK p.kind == 5 then sv0 else s
theorem form_cases (k : Int) : formK k = 0 ∨ formK k = 1 ∨ formK k = 2 ∨ formK k = 3 ∨ formK k = 4 ∨ formK k = 5 := by
  unfold formK; repeat (split; · simp)
  simp
theorem unwrap_any (p : Pk) (s : Sv) (w : World) :
    Calls Tryd.prog 22 #[wrapV p s] w fun e w' => e = .returned (.tuple #[pkV (uwP p) (uwS p s), .int .i64 (formK p.kind)]) ∧ Below w.heap.size w w' := by
  unfold wrapV uwP uwS
  rcases form_cases p.kind with h | h | h | h | h | h <;> rw [h]
  · exact unwrapGreeting p s w
  · exact unwrapMessage p s w
  · exact unwrapAck p s w
  · exact unwrapAsk p s w
  · exact unwrapSignal p s w
  · exact unwrapNil w

set_option maxRecDepth 100000 in
set_option maxHeartbeats 2000000 in
theorem idMessage (p : Pk) (s : Sv) (w : World) :
    Calls Tryd.prog 26 #[.iface 37 (pkV p s)] w fun e w' => e = .returned (.int .i64 p.id) ∧ Below w.heap.size w w' := by
  have a0 : ∀ (v : Value) (W : World), _ := fun v W => as_yes 37 v W (by simp)
  go_enter Tryd.func26, Tryd.ntmps26
  go_wp2_with (first
    | ((with_reducible show wpList _ _ _ ({ dst := _, op := Op.store 37 _ _, type := _, pos := _, after := _, guard := _ } :: _) _ _); refine stL w.heap.size (by first | rfl | simp) _ (pkC p s) (by rfl) (by rfl) (by rfl) (by rfl) szMessage (pk_one p s) ?_))
  go_ret
  exact ⟨rfl, by (repeat (first | assumption | exact Below.refl _ _ | exact (Below.refl _ _).alloc (Nat.le_refl _) _ | (refine thn ?_ (by assumption)) | (refine alB ?_ _) | (refine dwN ?_ _) | (refine Below.drew ?_)))⟩

set_option maxRecDepth 100000 in
set_option maxHeartbeats 2000000 in
theorem idAck (p : Pk) (s : Sv) (w : World) :
    Calls Tryd.prog 26 #[.iface 68 (pkV p s)] w fun e w' => e = .returned (.int .i64 p.id) ∧ Below w.heap.size w w' := by
  have a0 : ∀ (v : Value) (W : World), _ := fun v W => as_no 37 68 v W (by simp) (by decide)
  have a1 : ∀ (v : Value) (W : World), _ := fun v W => as_yes 68 v W (by simp)
  go_enter Tryd.func26, Tryd.ntmps26
  go_wp2_with (first
    | ((with_reducible show wpList _ _ _ ({ dst := _, op := Op.store 37 _ _, type := _, pos := _, after := _, guard := _ } :: _) _ _); refine stL w.heap.size (by first | rfl | simp) _ pk0C (by rfl) (by rfl) (by rfl) (by rfl) szMessage (pk_one _ _) ?_)
    | ((with_reducible show wpList _ _ _ ({ dst := _, op := Op.store 68 _ _, type := _, pos := _, after := _, guard := _ } :: _) _ _); refine stL (w.heap.size + 1) (by first | rfl | simp) _ (pkC p s) (by rfl) (by rfl) (by rfl) (by rfl) szAck (pk_one p s) ?_))
  go_ret
  exact ⟨rfl, by (repeat (first | assumption | exact Below.refl _ _ | exact (Below.refl _ _).alloc (Nat.le_refl _) _ | (refine thn ?_ (by assumption)) | (refine alB ?_ _) | (refine dwN ?_ _) | (refine Below.drew ?_)))⟩

set_option maxRecDepth 100000 in
set_option maxHeartbeats 2000000 in
theorem idAsk (p : Pk) (s : Sv) (w : World) :
    Calls Tryd.prog 26 #[.iface 55 (pkV p s)] w fun e w' => e = .returned (.int .i64 p.id) ∧ Below w.heap.size w w' := by
  have a0 : ∀ (v : Value) (W : World), _ := fun v W => as_no 37 55 v W (by simp) (by decide)
  have a1 : ∀ (v : Value) (W : World), _ := fun v W => as_no 68 55 v W (by simp) (by decide)
  have a2 : ∀ (v : Value) (W : World), _ := fun v W => as_yes 55 v W (by simp)
  go_enter Tryd.func26, Tryd.ntmps26
  go_wp2_with (first
    | ((with_reducible show wpList _ _ _ ({ dst := _, op := Op.store 37 _ _, type := _, pos := _, after := _, guard := _ } :: _) _ _); refine stL w.heap.size (by first | rfl | simp) _ pk0C (by rfl) (by rfl) (by rfl) (by rfl) szMessage (pk_one _ _) ?_)
    | ((with_reducible show wpList _ _ _ ({ dst := _, op := Op.store 68 _ _, type := _, pos := _, after := _, guard := _ } :: _) _ _); refine stL (w.heap.size + 1) (by first | rfl | simp) _ pk0C (by rfl) (by rfl) (by rfl) (by rfl) szAck (pk_one _ _) ?_)
    | ((with_reducible show wpList _ _ _ ({ dst := _, op := Op.store 55 _ _, type := _, pos := _, after := _, guard := _ } :: _) _ _); refine stL (w.heap.size + 1 + 1) (by first | rfl | simp) _ (pkC p s) (by rfl) (by rfl) (by rfl) (by rfl) szAsk (pk_one p s) ?_))
  go_ret
  exact ⟨rfl, by (repeat (first | assumption | exact Below.refl _ _ | exact (Below.refl _ _).alloc (Nat.le_refl _) _ | (refine thn ?_ (by assumption)) | (refine alB ?_ _) | (refine dwN ?_ _) | (refine Below.drew ?_)))⟩

set_option maxRecDepth 100000 in
set_option maxHeartbeats 2000000 in
theorem idNil (w : World) :
    Calls Tryd.prog 26 #[.nilIface] w fun e w' => e = .returned (.int .i64 0) ∧ Below w.heap.size w w' := by
  have a0 : ∀ (W : World), _ := fun W => as_nil 37 W (by simp)
  have a1 : ∀ (W : World), _ := fun W => as_nil 68 W (by simp)
  have a2 : ∀ (W : World), _ := fun W => as_nil 55 W (by simp)
  go_enter Tryd.func26, Tryd.ntmps26
  go_wp2_with (first
    | ((with_reducible show wpList _ _ _ ({ dst := _, op := Op.store 37 _ _, type := _, pos := _, after := _, guard := _ } :: _) _ _); refine stL w.heap.size (by first | rfl | simp) _ pk0C (by rfl) (by rfl) (by rfl) (by rfl) szMessage (pk_one _ _) ?_)
    | ((with_reducible show wpList _ _ _ ({ dst := _, op := Op.store 68 _ _, type := _, pos := _, after := _, guard := _ } :: _) _ _); refine stL (w.heap.size + 1) (by first | rfl | simp) _ pk0C (by rfl) (by rfl) (by rfl) (by rfl) szAck (pk_one _ _) ?_)
    | ((with_reducible show wpList _ _ _ ({ dst := _, op := Op.store 55 _ _, type := _, pos := _, after := _, guard := _ } :: _) _ _); refine stL (w.heap.size + 1 + 1) (by first | rfl | simp) _ pk0C (by rfl) (by rfl) (by rfl) (by rfl) szAsk (pk_one _ _) ?_))
  go_ret
  exact ⟨rfl, by (repeat (first | assumption | exact Below.refl _ _ | exact (Below.refl _ _).alloc (Nat.le_refl _) _ | (refine thn ?_ (by assumption)) | (refine alB ?_ _) | (refine dwN ?_ _) | (refine Below.drew ?_)))⟩

set_option maxRecDepth 100000 in
set_option maxHeartbeats 2000000 in
theorem idNo (u : TypeId) (v : Value) (h0 : u ≠ 37) (h1 : u ≠ 68) (h2 : u ≠ 55) (w : World) :
    Calls Tryd.prog 26 #[.iface u v] w fun e w' => e = .returned (.int .i64 0) ∧ Below w.heap.size w w' := by
  have a0 : ∀ (W : World), _ := fun W => as_no 37 u v W (by simp) h0
  have a1 : ∀ (W : World), _ := fun W => as_no 68 u v W (by simp) h1
  have a2 : ∀ (W : World), _ := fun W => as_no 55 u v W (by simp) h2
  clear h0 h1 h2
  go_enter Tryd.func26, Tryd.ntmps26
  go_wp2_with (first
    | ((with_reducible show wpList _ _ _ ({ dst := _, op := Op.store 37 _ _, type := _, pos := _, after := _, guard := _ } :: _) _ _); refine stL w.heap.size (by first | rfl | simp) _ pk0C (by rfl) (by rfl) (by rfl) (by rfl) szMessage (pk_one _ _) ?_)
    | ((with_reducible show wpList _ _ _ ({ dst := _, op := Op.store 68 _ _, type := _, pos := _, after := _, guard := _ } :: _) _ _); refine stL (w.heap.size + 1) (by first | rfl | simp) _ pk0C (by rfl) (by rfl) (by rfl) (by rfl) szAck (pk_one _ _) ?_)
    | ((with_reducible show wpList _ _ _ ({ dst := _, op := Op.store 55 _ _, type := _, pos := _, after := _, guard := _ } :: _) _ _); refine stL (w.heap.size + 1 + 1) (by first | rfl | simp) _ pk0C (by rfl) (by rfl) (by rfl) (by rfl) szAsk (pk_one _ _) ?_))
  go_ret
  exact ⟨rfl, by (repeat (first | assumption | exact Below.refl _ _ | exact (Below.refl _ _).alloc (Nat.le_refl _) _ | (refine thn ?_ (by assumption)) | (refine alB ?_ _) | (refine dwN ?_ _) | (refine Below.drew ?_)))⟩

/-- The Id that a form tells. -/
def idP (p : Pk) : Int := if formK p.kind == 1 || formK p.kind == 2 || formK p.kind == 3 then p.id else 0
theorem identify_any (p : Pk) (s : Sv) (w : World) :
    Calls Tryd.prog 26 #[wrapV p s] w fun e w' => e = .returned (.int .i64 (idP p)) ∧ Below w.heap.size w w' := by
  unfold wrapV idP
  rcases form_cases p.kind with h | h | h | h | h | h <;> rw [h]
  · exact idNo _ _ (by decide) (by decide) (by decide) w
  · exact idMessage p s w
  · exact idAck p s w
  · exact idAsk p s w
  · exact idNo _ _ (by decide) (by decide) (by decide) w
  · exact idNil w

def castId (f : Int) (w : World) (v : Value) : Prop := Calls Tryd.prog 26 #[v] w fun e w' => e = .returned (.int .i64 f) ∧ Below w.heap.size w w'
set_option maxHeartbeats 400000 in
theorem Id_of (v : Value) (n : Int) (w : World) (h : ∀ W, Calls Tryd.prog 26 #[v] W fun e w' => e = .returned (.int .i64 n) ∧ Below W.heap.size W w') :
    Calls Tryd.prog 15 #[v] w fun e w' => e = .returned (.int .i64 n) ∧ Below w.heap.size w w' := by
  have H := Lib.hid h
  clear h
  go_enter Tryd.func15, Tryd.ntmps15
  go_wp2_with (go_at_call 26; refine (H.out _).mono ?_; rintro e w' ⟨rfl, hb⟩)
  go_ret
  exact ⟨rfl, by (repeat (first | assumption | exact Below.refl _ _ | exact (Below.refl _ _).alloc (Nat.le_refl _) _ | (refine thn ?_ (by assumption)) | (refine alB ?_ _) | (refine dwN ?_ _) | (refine Below.drew ?_)))⟩
theorem Id_any (p : Pk) (s : Sv) (w : World) :
    Calls Tryd.prog 15 #[wrapV p s] w fun e w' => e = .returned (.int .i64 (idP p)) ∧ Below w.heap.size w w' := Id_of _ _ w fun W => identify_any p s W

end Go.Proofs.YtpjlnienakiihaaDoor
