/- Must and Try, whole. -/
import Derived.Test.YtpjlnienakiihaaDoorCast5
namespace Go.Proofs.YtpjlnienakiihaaDoor
open Go.RowKit Go.Lib

theorem fieldMessage (p : Pk) (s : Sv) (W : World) : (Instr.field 37 (.agg (pkC p s)) 0).run Tryd.prog W = .ok (.agg (pkC p s)) W := by kernel_rfl

set_option maxRecDepth 100000 in
set_option maxHeartbeats 1000000 in
theorem must_of (x : Value) (w : World) (h : ∀ W, Calls Tryd.prog 31 #[x] W (PanicPost W)) : Calls Tryd.prog 24 #[x] w (PanicPost w) := by
  have H := Lib.hid h
  clear h
  go_enter Tryd.func24, Tryd.ntmps24
  go_wp2_with fail
  refine (H.out _).mono ?_
  rintro e w' ⟨u, v, rfl, hb⟩
  go_wp2_with fail
  exact ⟨rfl, _, _, rfl, by (repeat (first | assumption | exact Below.refl _ _ | exact (Below.refl _ _).alloc (Nat.le_refl _) _ | (refine thn ?_ (by assumption)) | (refine alB ?_ _) | (refine dwN ?_ _) | (refine Below.drew ?_)))⟩

set_option maxRecDepth 100000 in
set_option maxHeartbeats 1000000 in
theorem must_yes (p : Pk) (s : Sv) (B : Nat) (w : World) (hp : PkAt w B p s) (hB : B ≤ w.heap.size) (ok : PkOk p) (hn : NilOk s) :
    Calls Tryd.prog 24 #[.iface 37 (pkV p s)] w (CopyPost w p) := by
  have HP := Lib.hid hp
  have HN := Lib.hid hn
  have OK := Lib.hid ok
  have a := fieldMessage p s
  clear hp hn ok
  go_enter Tryd.func24, Tryd.ntmps24
  go_wp2_with fail
  refine (claim_yes p s _).mono ?_
  rintro e w1 ⟨rfl, hb1⟩
  have r1 := heap_below hb1 (heap_alloc_new w _)
  have b1 : Below w.heap.size w w1 := by (repeat (first | assumption | exact Below.refl _ _ | exact (Below.refl _ _).alloc (Nat.le_refl _) _ | (refine thn ?_ (by assumption)) | (refine alB ?_ _) | (refine dwN ?_ _) | (refine Below.drew ?_)))
  clear hb1
  go_wp2_with fail
  refine (copied_any p s B w1 (HP.out.to hB b1) (Nat.le_trans hB b1.size) OK.out HN.out).mono ?_
  rintro e w2 ⟨s', rfl, hp2, hb2⟩
  have r2 := heap_below hb2 r1
  have P2 := Lib.hid hp2
  have b2 : Below w.heap.size w w2 := thn b1 hb2
  have g1 : w.heap.size < w1.heap.size := (Array.getElem?_eq_some_iff.1 r1).1
  clear hp2 hb2 r1
  go_wp2_with (first
    | (refine bl_pk p s' (by rfl) (by rfl) (bMessage p s') ?_)
    | ((with_reducible show wpList _ _ _ ({ dst := _, op := Op.store 37 _ _, type := _, pos := _, after := _, guard := _ } :: _) _ _); refine stR w.heap.size _ (pkC p s') (by rfl) (by rfl) r2 (by rfl) (by rfl) szMessage (pk_one p s') ?_))
  exact bodyPost_ret (v := .agg (pkC p s')) (results_cell_row (by rfl) _ _ w.heap.size 37 _ (0, 0) _ (by rfl) (setRow_heap _ _ _ _ _ _ r2) Tryd.underlying37 (by rfl) (by exact szMessage)) (by rfl) ⟨s', rfl, (P2.out.setRow g1).mono (by omega), below_setRow b2 (Nat.le_refl _) _⟩

theorem nil_neq (W : World) : (binOp .neq 20 .nilIface .nilIface).run Tryd.prog W = .ok (.bool false) W := by kernel_rfl
theorem iface_neq (u : TypeId) (v : Value) (W : World) : (binOp .neq 20 (.iface u v) .nilIface).run Tryd.prog W = .ok (.bool true) W := by kernel_rfl

theorem catch_idle (a b : Value) (w : World) :
    CallsD Tryd.prog 23 #[a, b] .returning w fun e u' w' => e = .returned (.tuple #[]) ∧ u' = .returning ∧ w' = w := by
  refine callsD_of_wpS Tryd.func23 rfl fun c₀ cs hu => ?_
  apply wpS_seq
  apply wpS_region
  simp [wpOpsS, go_sem, recoverD, hu, Tryd.ntmps23, Exit.thenS, nil_neq]
  refine wpS_cond (t := false) (by simp [Act.eval, Array.replicate]) ?_
  simp only [Bool.false_eq_true, if_false]
  refine wpS_of_wp (wp_skip ?_)
  cases c₀
  simp_all [bodyPostS, results, Tryd.results23]

/-- A whole value of 24 cells out of nothing. -/
theorem bMessage0 : Tryd.prog.built 37 [] = some pk0C := by kernel_rfl

set_option maxRecDepth 100000 in
set_option maxHeartbeats 1000000 in
theorem catch_pan (g : Nat) (old : Array Value) (x : Bool) (u : TypeId) (pv : Value) (older : List PanicEntry) (w : World) (hg : w.heap[g]? = some (.cells old 37 (0, 0))) (ho : old.size = 24) (hx : w.heap[g + 1]? = some (.cells #[.bool x] 4 (0, 0))) :
    CallsD Tryd.prog 23 #[.pointer (some ⟨g, 0, none⟩), .pointer (some ⟨g + 1, 0, none⟩)] (.panicking ({ v := .iface u pv, recovered := false } :: older)) w fun e u' w' =>
      e = .returned (.tuple #[]) ∧ u' = .panicking ({ v := .iface u pv, recovered := true } :: older) ∧ w' = (w.setRow g pk0C).setCell ⟨g + 1, 0, none⟩ (.bool false) := by
  refine callsD_of_wpS Tryd.func23 rfl fun c₀ cs hu => ?_
  apply wpS_seq
  apply wpS_region
  simp [wpOpsS, go_sem, recoverD, hu, Tryd.ntmps23, Exit.thenS, iface_neq]
  refine wpS_cond (t := true) (by simp [Act.eval, Array.replicate]) ?_
  simp only [if_true]
  refine wpS_of_wp ?_
  have C := row_cells hx
  have F : ∀ k, w.frozen? ⟨g + 1, k, none⟩ = false := fun k => frozen_of_row w _ k _ _ hx
  have c1 : (w.setRow g pk0C).cell? ⟨g + 1, 0, none⟩ = some (.bool x) := by
    rw [cell_of_row _ (g + 1) 0 #[.bool x] _ _ (by unfold World.setRow; rw [Array.getElem?_modify, if_neg (by omega)]; exact hx)]; rfl
  have c2 : (w.setRow g pk0C).frozen? ⟨g + 1, 0, none⟩ = false := 
    frozen_of_row _ (g + 1) 0 #[.bool x] _ (by unfold World.setRow; rw [Array.getElem?_modify, if_neg (by omega)]; exact hx)
  clear C F hx
  change Code.wp _ _ _ { tmps := #[.pointer (some ⟨g, 0, none⟩), .pointer (some ⟨g + 1, 0, none⟩), .iface u pv, .bool true, undef], defers := [] } w
  go_wp2_with ((with_reducible show wpList _ _ _ ({ dst := _, op := Op.store 37 _ _, type := _, pos := _, after := _, guard := _ } :: _) _ _); refine stR g _ pk0C (by rfl) (by rfl) hg ho (by rfl) szMessage (pk_one _ _) ?_)
  simp [bodyPostS, results, Tryd.results23, go_sem]

/-- What Try hands back of a Message. -/
def TryPost (w : World) (p : Pk) (e : Ending) (w' : World) : Prop :=
  ∃ s' : Sv, e = .returned (.tuple #[pkV p s', .bool true]) ∧ PkOwn w' w.heap.size p s' ∧ Below w.heap.size w w'

theorem results_try (tmps : Array Value) (w : World) (g : Nat) (cs : Array Value) (x : Bool) (hp : tmps.getD 2 undef = .pointer (some ⟨g, 0, none⟩)) (hq : tmps.getD 3 undef = .pointer (some ⟨g + 1, 0, none⟩))
    (hg : w.heap[g]? = some (.cells cs 37 (0, 0))) (hc : cs.size = 24) (hx : w.cell? ⟨g + 1, 0, none⟩ = some (.bool x)) :
    (results Tryd.f11 tmps).run Tryd.prog w = .ok (.tuple #[.agg cs, .bool x]) w := by
  have h : Tryd.f11.results = #[.cell 2 37, .cell 3 4] := by kernel_rfl
  have hp' : tmps[2]?.getD undef = .pointer (some ⟨g, 0, none⟩) := by simpa using hp
  have hq' : tmps[3]?.getD undef = .pointer (some ⟨g + 1, 0, none⟩) := by simpa using hq
  have hl := run_loadVar_row w g 37 37 cs (0, 0) _ hg Tryd.underlying37 rfl (by rw [hc]; exact szMessage)
  have hl2 : (loadVar 4 ⟨g + 1, 0, none⟩).run Tryd.prog w = .ok (.bool x) w := by simp [go_sem, hx]
  unfold results
  rw [h]
  simp [hp', hq', asAddr, hl, hl2]

set_option maxRecDepth 100000 in
set_option maxHeartbeats 2000000 in
theorem try_no (x : Value) (w : World) (h : ∀ W, Calls Tryd.prog 31 #[x] W (PanicPost W)) :
    Calls Tryd.prog 11 #[x] w fun e w' => e = .returned (.tuple #[.agg pk0C, .bool false]) ∧ Below w.heap.size w w' := by
  have H := Lib.hid h
  clear h
  have hmf : ∀ (fn : Fn) (first cap : Array Value) (w : World), (Instr.makeFunc fn first cap).run Tryd.prog w = .ok (.func fn first cap) w := fun _ _ _ _ => rfl
  go_enter_defers Tryd.func11, Tryd.ntmps11
  go_wp2_with fail
  refine (must_of x _ H.out).mono ?_
  rintro e w' ⟨u, v, rfl, hb⟩
  go_wp2_with fail
  have r1 := heap_below hb (heap_alloc2_old w _ _)
  have r2 := heap_below hb (heap_alloc2_new w _ _)
  have b1 : Below w.heap.size w w' := by (repeat (first | assumption | exact Below.refl _ _ | exact (Below.refl _ _).alloc (Nat.le_refl _) _ | (refine thn ?_ (by assumption)) | (refine alB ?_ _) | (refine dwN ?_ _) | (refine Below.drew ?_)))
  refine leaves_cons (f := 23) (args := #[.pointer (some ⟨w.heap.size, 0, none⟩), .pointer (some ⟨w.heap.size + 1, 0, none⟩)]) (by simp) (by simp [go_sem]) ?_
  refine (catch_pan w.heap.size _ false _ _ [] _ r1 (by rfl) r2).mono ?_
  rintro e u' w'' ⟨rfl, rfl, rfl⟩
  have r3 : (w'.setRow w.heap.size pk0C).heap[w.heap.size + 1]? = some (.cells #[.bool false] 4 (0, 0)) := by unfold World.setRow; rw [Array.getElem?_modify, if_neg (by omega)]; exact r2
  have r4 : ((w'.setRow w.heap.size pk0C).setCell ⟨w.heap.size + 1, 0, none⟩ (.bool false)).heap[w.heap.size]? = some (.cells pk0C 37 (0, 0)) := by
    rw [heap_setCell_other _ _ _ _ (by simp)]; exact setRow_heap _ _ _ _ _ _ r1
  have r5 : ((w'.setRow w.heap.size pk0C).setCell ⟨w.heap.size + 1, 0, none⟩ (.bool false)).cell? ⟨w.heap.size + 1, 0, none⟩ = some (.bool false) := by
    rw [cell_of_row _ _ 0 _ _ _ (heap_setCell_same _ _ 0 _ _ _ r3)]; rfl
  exact ⟨_, results_try _ _ w.heap.size pk0C false (by rfl) (by rfl) r4 (by rfl) r5, rfl, (below_setRow b1 (Nat.le_refl _) _).setCell (by simp) _⟩

set_option maxRecDepth 100000 in
set_option maxHeartbeats 2000000 in
theorem try_yes (p : Pk) (s : Sv) (B : Nat) (w : World) (hp : PkAt w B p s) (hB : B ≤ w.heap.size) (ok : PkOk p) (hn : NilOk s) :
    Calls Tryd.prog 11 #[.iface 37 (pkV p s)] w (TryPost w p) := by
  have HP := Lib.hid hp
  have HN := Lib.hid hn
  have OK := Lib.hid ok
  clear hp hn ok
  have hmf : ∀ (fn : Fn) (first cap : Array Value) (w : World), (Instr.makeFunc fn first cap).run Tryd.prog w = .ok (.func fn first cap) w := fun _ _ _ _ => rfl
  go_enter_defers Tryd.func11, Tryd.ntmps11
  go_wp2_with fail
  refine (must_yes p s B _ (HP.out.to hB (by (repeat (first | assumption | exact Below.refl _ _ | exact (Below.refl _ _).alloc (Nat.le_refl _) _ | (refine thn ?_ (by assumption)) | (refine alB ?_ _) | (refine dwN ?_ _) | (refine Below.drew ?_))))) (by simp; omega) OK.out HN.out).mono ?_
  rintro e w' ⟨s', rfl, ho, hb⟩
  have r1 := heap_below hb (heap_alloc2_old w _ _)
  have r2 := heap_below hb (heap_alloc2_new w _ _)
  have b1 : Below w.heap.size w w' := by (repeat (first | assumption | exact Below.refl _ _ | exact (Below.refl _ _).alloc (Nat.le_refl _) _ | (refine thn ?_ (by assumption)) | (refine alB ?_ _) | (refine dwN ?_ _) | (refine Below.drew ?_)))
  have r3 : (w'.setRow w.heap.size (pkC p s')).heap[w.heap.size + 1]? = some (.cells #[.bool false] 4 (0, 0)) := by unfold World.setRow; rw [Array.getElem?_modify, if_neg (by omega)]; exact r2
  have c1 : (w'.setRow w.heap.size (pkC p s')).cell? ⟨w.heap.size + 1, 0, none⟩ = some (.bool false) := by rw [cell_of_row _ _ 0 _ _ _ r3]; rfl
  have c2 : (w'.setRow w.heap.size (pkC p s')).frozen? ⟨w.heap.size + 1, 0, none⟩ = false := frozen_of_row _ _ 0 _ _ r3
  have R1 := Lib.hid r1
  have R3 := Lib.hid r3
  have hs : w.heap.size + 2 ≤ w'.heap.size := (Array.getElem?_eq_some_iff.1 r2).1
  clear r1 r2 r3
  go_wp2_with ((with_reducible show wpList _ _ _ ({ dst := _, op := Op.store 37 _ _, type := _, pos := _, after := _, guard := _ } :: _) _ _); refine stR w.heap.size _ (pkC p s') (by rfl) (by rfl) R1.out (by rfl) (by rfl) szMessage (pk_one p s') ?_)
  have r4 : ((w'.setRow w.heap.size (pkC p s')).setCell ⟨w.heap.size + 1, 0, none⟩ (.bool true)).heap[w.heap.size]? = some (.cells (pkC p s') 37 (0, 0)) := by
    rw [heap_setCell_other _ _ _ _ (by simp)]; exact setRow_heap _ _ _ _ _ _ R1.out
  have r5 : ((w'.setRow w.heap.size (pkC p s')).setCell ⟨w.heap.size + 1, 0, none⟩ (.bool true)).cell? ⟨w.heap.size + 1, 0, none⟩ = some (.bool true) := by
    rw [cell_of_row _ _ 0 _ _ _ (heap_setCell_same _ _ 0 _ _ _ R3.out)]; rfl
  refine leaves_cons (f := 23) (args := #[.pointer (some ⟨w.heap.size, 0, none⟩), .pointer (some ⟨w.heap.size + 1, 0, none⟩)]) (by simp) (by simp [go_sem]) ?_
  refine (catch_idle _ _ _).mono ?_
  rintro e u' w'' ⟨rfl, rfl, rfl⟩
  have ho2 := (ho.setRow (g := w.heap.size) (cs := pkC p s') (by first | (simp; done) | (simp; omega))).setCell (a := ⟨w.heap.size + 1, 0, none⟩) (v := .bool true) (by first | (simp; done) | (simp; omega))
  exact ⟨_, results_try _ _ w.heap.size (pkC p s') true (by rfl) (by rfl) r4 (by rfl) r5, s', rfl, ho2.mono (by first | (simp; done) | (simp; omega)), (below_setRow b1 (Nat.le_refl _) _).setCell (by simp) _⟩

end Go.Proofs.YtpjlnienakiihaaDoor
