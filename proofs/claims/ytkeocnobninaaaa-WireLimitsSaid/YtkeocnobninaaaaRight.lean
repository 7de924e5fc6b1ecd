/- wire.Right: which packets may be. -/
import Derived.Test.YtkeocnobninaaaaWr3
import Derived.Test.YtkeocnobninaaaaFits2
import Derived.Test.YtkeocnobninaaaaLen3
import Derived.Test.YtkeocnobninaaaaSame2
import Derived.Deep.RegionHeld3
namespace Go.Proofs.Ytkeocnobninaaaa
open Go.RowKit Go.Lib

theorem bytes_nil (w : World) (B : Nat) : BytesAt w B (.slice none 0 0) [] := ⟨none, 0, rfl, by simp, by decide, fun _ => rfl, by simp, by simp⟩
theorem subs_nil (w : World) (B : Nat) : SubsAt w B (.slice none 0 0) [] := ⟨none, 0, rfl, by simp, by decide, fun _ => rfl, by simp, by simp⟩
theorem ints_nil (w : World) (B : Nat) : IntsAt w B (.slice none 0 0) [] := ⟨none, 0, rfl, by simp, by decide, fun _ => rfl, by simp, by simp⟩
theorem wr_at {w : World} {B : Nat} {p : Pk} {s : Sv} (h : PkAt w B p s) : PkAt w B (wrP p) (wrS p s) := by
  obtain ⟨h1, h2, h3, h4, h5⟩ := h
  rcases e1 : p.hw with _ | _ <;> rcases e3 : p.hp with _ | _ <;> rcases kf p.kind with ⟨k1, k2, k3, k4, k5, k6, k7, k8, k9, k10, k11, k12, k13, k14⟩ | ⟨k1, k2, k3, k4, k5, k6, k7, k8, k9, k10, k11, k12, k13, k14⟩ | ⟨k1, k2, k3, k4, k5, k6, k7, k8, k9, k10, k11, k12, k13, k14⟩ | ⟨k1, k2, k3, k4, k5, k6, k7, k8, k9, k10, k11, k12, k13, k14⟩ | ⟨k1, k2, k3, k4, k5, k6, k7, k8, k9, k10, k11, k12, k13, k14⟩ | ⟨k1, k2, k3, k4, k5, k6, k7, k8, k9, k10, k11, k12, k13, k14⟩ | ⟨k1, k2, k3, k4, k5, k6, k7, k8, k9, k10, k11, k12, k13, k14⟩ | ⟨k1, k2, k3, k4, k5, k6, k7, k8, k9, k10, k11, k12, k13, k14⟩ | ⟨k1, k2, k3, k4, k5, k6, k7, k8, k9, k10, k11, k12, k13, k14⟩ | ⟨k1, k2, k3, k4, k5, k6, k7, k8, k9, k10, k11, k12, k13, k14⟩ | ⟨k1, k2, k3, k4, k5, k6, k7, k8, k9, k10, k11, k12, k13, k14⟩ | ⟨k1, k2, k3, k4, k5, k6, k7, k8, k9, k10, k11, k12, k13, k14⟩ | ⟨k1, k2, k3, k4, k5, k6, k7, k8, k9, k10, k11, k12, k13, k14⟩ | ⟨k1, k2, k3, k4, k5, k6, k7, k8, k9, k10, k11, k12, k13, k14⟩ | ⟨k1, k2, k3, k4, k5, k6, k7, k8, k9, k10, k11, k12, k13, k14⟩
  all_goals
    simp only [wrP, wrS, pk0, sv0, k1, k2, k3, k4, k5, k6, k7, k8, k9, k10, k11, e1, e3]
    refine ⟨?_, ?_, ?_, ?_, ?_⟩ <;> first | exact bytes_nil _ _ | exact subs_nil _ _ | exact ints_nil _ _ | assumption

/-- A whole packet's load, run. -/
theorem ld_run {g : Nat} {W : World} {cs : Array Value} (h : W.heap[g]? = some (.cells cs 28 (0, 0))) (hs : cs.size = 24) : (Instr.loadAt 28 (.pointer (some ⟨g, 0, none⟩))).run Try.prog W = .ok (.agg cs) W := by
  simp only [Instr.loadAt, Instr.sureAddr, Sem.run_bind, Sem.run_pure, Result.andThen_ok, run_loadVar_row W g _ 28 cs (0, 0) _ h Try.underlying28 rfl (by rw [hs]; exact pk_sz)]
theorem ld_exec {a : Act} {o : Oper} {x : Operand} {g : Nat} {W : World} {cs : Array Value} (ho : o.op = .load 28 x) (hx : a.eval x = .pointer (some ⟨g, 0, none⟩)) (h : W.heap[g]? = some (.cells cs 28 (0, 0))) (hs : cs.size = 24) :
    (execOp a.eval o).run Try.prog W = .ok (.value (.agg cs)) W := by
  unfold execOp
  simp only [ho, hx, Sem.run_bind, Sem.run_pure, ld_run h hs, Result.andThen_ok]

def rightP (p : Pk) : Bool := decide (p = wrP p) && decide (lenP p ≤ 8192) && fitsP p

set_option maxRecDepth 100000 in
set_option maxHeartbeats 4000000 in
theorem right_any (p : Pk) (s : Sv) (B : Nat) (w : World) (hp : PkAt w B p s) (hB : B ≤ w.heap.size) (ok : PkOk p) :
    Calls Try.prog 19 #[pkV p s] w fun e w' => e = .returned (.bool (rightP p)) ∧ Below w.heap.size w w' := by
  have HP := Lib.hid hp
  have HQ := Lib.hid (wr_at hp)
  have OK := Lib.hid ok
  have c8 := ok.subs
  have c9 := ok.codes
  clear hp ok
  rcases e1 : decide (p = wrP p) with _ | _
  · go_enter Try.func19, Try.ntmps19
    go_wp2_with fail
    refine wp_region_held_drew (S := fun W => W.heap[w.heap.size]? = some (.cells (pkC p s) 28 (0, 0))) (by rfl) (heap_alloc_last _ _) ?_
    intro hS
    apply wpAnyH_take (i := 0) (v := pkV p s)
    case hi => rfl
    case hs => kernel_rfl
    case hf => kernel_rfl
    case hr => kernel_rfl
    case hQ => exact fun _ _ _ h => h
    case hS => exact hS
    case hy => exact .inl ⟨by rfl, fun W hW => ld_exec rfl rfl hW rfl⟩
    apply wpAnyH_take (i := 1) (v := pkV p s)
    case hi => rfl
    case hs => kernel_rfl
    case hf => kernel_rfl
    case hr => kernel_rfl
    case hQ => exact fun _ _ _ h => h
    case hS => exact hS
    case hy => exact .inl ⟨by rfl, fun W hW => ld_exec rfl rfl hW rfl⟩
    refine wpAnyH_ready (rs := [2]) (by kernel_rfl) (by simp) (AllReadyH.cons (by rfl) ?_ AllReadyH.nil)
    intro K' hK
    rw [if_pos (by rfl)]
    go_wp2_with fail
    refine (wr_any p s _).mono ?_
    rintro e w1 ⟨rfl, hb1⟩
    go_wp2_with fail
    refine hK.out _ _ (heap_below hb1 hS) ?_
    clear hK K' hS
    intro hS
    refine wpAnyH_ready (rs := [3]) (by kernel_rfl) (by simp) (AllReadyH.cons (by rfl) ?_ AllReadyH.nil)
    intro K' hK
    rw [if_pos (by rfl)]
    go_wp2_with fail
    refine (same_any p (wrP p) s (wrS p s) B _ (HP.out.to hB (by (repeat (first | assumption | exact Below.refl _ _ | exact (Below.refl _ _).alloc (Nat.le_refl _) _ | (refine thn ?_ (by assumption)) | (refine alB ?_ _) | (refine dwN ?_ _) | (refine Below.drew ?_))))) (HQ.out.to hB (by (repeat (first | assumption | exact Below.refl _ _ | exact (Below.refl _ _).alloc (Nat.le_refl _) _ | (refine thn ?_ (by assumption)) | (refine alB ?_ _) | (refine dwN ?_ _) | (refine Below.drew ?_))))) (by have := hb1.size; simp at this; omega) c8 c9).mono ?_
    rintro e w2 ⟨rfl, hb2⟩
    go_wp2_with fail
    refine hK.out _ _ (heap_below hb2 hS) ?_
    clear hK K' hS
    intro hS
    refine wpAnyH_ready (rs := [4]) (by kernel_rfl) (by simp) (AllReadyH.cons (by rfl) ?_ AllReadyH.nil)
    intro K' hK
    rw [if_pos (by rfl)]
    go_wp2_with fail
    refine hK.out _ _ hS ?_
    clear hK K' hS
    intro hS
    refine wpAnyH_ready (rs := [5]) (by kernel_rfl) (by simp) (AllReadyH.cons (by rfl) ?_ AllReadyH.nil)
    intro K' hK
    rw [if_neg (Bool.eq_false_iff.1 (by rfl))]
    refine hK.out _ _ hS ?_
    clear hK K' hS
    intro hS
    refine wpAnyH_ready (rs := [6]) (by kernel_rfl) (by simp) (AllReadyH.cons (by rfl) ?_ AllReadyH.nil)
    intro K' hK
    rw [if_neg (Bool.eq_false_iff.1 (by rfl))]
    refine hK.out _ _ hS ?_
    clear hK K' hS
    intro hS
    refine wpAnyH_ready (rs := [7]) (by kernel_rfl) (by simp) (AllReadyH.cons (by rfl) ?_ AllReadyH.nil)
    intro K' hK
    rw [if_neg (Bool.eq_false_iff.1 (by rfl))]
    refine hK.out _ _ hS ?_
    clear hK K' hS
    intro hS
    refine wpAnyH_ready (rs := [8]) (by kernel_rfl) (by simp) (AllReadyH.cons (by rfl) ?_ AllReadyH.nil)
    intro K' hK
    rw [if_pos (by rfl)]
    go_wp2_with fail
    refine hK.out _ _ hS ?_
    clear hK K' hS
    intro hS
    refine wpAnyH_ready (rs := [9]) (by kernel_rfl) (by simp) (AllReadyH.cons (by rfl) ?_ AllReadyH.nil)
    intro K' hK
    rw [if_pos (by rfl)]
    go_wp2_with fail
    refine hK.out _ _ hS ?_
    clear hK K' hS
    intro hS
    refine wpAnyH_ready (rs := [10]) (by kernel_rfl) (by simp) (AllReadyH.cons (by rfl) ?_ AllReadyH.nil)
    intro K' hK
    rw [if_neg (Bool.eq_false_iff.1 (by rfl))]
    refine hK.out _ _ hS ?_
    clear hK K' hS
    intro hS
    refine wpAnyH_ready (rs := [11]) (by kernel_rfl) (by simp) (AllReadyH.cons (by rfl) ?_ AllReadyH.nil)
    intro K' hK
    rw [if_neg (Bool.eq_false_iff.1 (by rfl))]
    refine hK.out _ _ hS ?_
    clear hK K' hS
    intro hS
    refine wpAnyH_ready (rs := [12]) (by kernel_rfl) (by simp) (AllReadyH.cons (by rfl) ?_ AllReadyH.nil)
    intro K' hK
    rw [if_pos (by rfl)]
    go_wp2_with fail
    refine hK.out _ _ hS ?_
    clear hK K' hS
    intro hS
    refine wpAnyH_ready (rs := [13]) (by kernel_rfl) (by simp) (AllReadyH.cons (by rfl) ?_ AllReadyH.nil)
    intro K' hK
    rw [if_pos (by rfl)]
    go_wp2_with fail
    refine hK.out _ _ hS ?_
    clear hK K' hS
    intro hS
    refine wpAnyH_done (by kernel_rfl) ?_ _
    go_wp2_with fail
    go_ret
    exact ⟨ret_bool (by unfold rightP; simp [*]), by (repeat (first | assumption | exact Below.refl _ _ | exact (Below.refl _ _).alloc (Nat.le_refl _) _ | (refine thn ?_ (by assumption)) | (refine alB ?_ _) | (refine dwN ?_ _) | (refine Below.drew ?_)))⟩
  rcases e2 : decide (lenP p ≤ 8192) with _ | _
  · go_enter Try.func19, Try.ntmps19
    go_wp2_with fail
    refine wp_region_held_drew (S := fun W => W.heap[w.heap.size]? = some (.cells (pkC p s) 28 (0, 0))) (by rfl) (heap_alloc_last _ _) ?_
    intro hS
    apply wpAnyH_take (i := 0) (v := pkV p s)
    case hi => rfl
    case hs => kernel_rfl
    case hf => kernel_rfl
    case hr => kernel_rfl
    case hQ => exact fun _ _ _ h => h
    case hS => exact hS
    case hy => exact .inl ⟨by rfl, fun W hW => ld_exec rfl rfl hW rfl⟩
    apply wpAnyH_take (i := 1) (v := pkV p s)
    case hi => rfl
    case hs => kernel_rfl
    case hf => kernel_rfl
    case hr => kernel_rfl
    case hQ => exact fun _ _ _ h => h
    case hS => exact hS
    case hy => exact .inl ⟨by rfl, fun W hW => ld_exec rfl rfl hW rfl⟩
    refine wpAnyH_ready (rs := [2]) (by kernel_rfl) (by simp) (AllReadyH.cons (by rfl) ?_ AllReadyH.nil)
    intro K' hK
    rw [if_pos (by rfl)]
    go_wp2_with fail
    refine (wr_any p s _).mono ?_
    rintro e w1 ⟨rfl, hb1⟩
    go_wp2_with fail
    refine hK.out _ _ (heap_below hb1 hS) ?_
    clear hK K' hS
    intro hS
    refine wpAnyH_ready (rs := [3]) (by kernel_rfl) (by simp) (AllReadyH.cons (by rfl) ?_ AllReadyH.nil)
    intro K' hK
    rw [if_pos (by rfl)]
    go_wp2_with fail
    refine (same_any p (wrP p) s (wrS p s) B _ (HP.out.to hB (by (repeat (first | assumption | exact Below.refl _ _ | exact (Below.refl _ _).alloc (Nat.le_refl _) _ | (refine thn ?_ (by assumption)) | (refine alB ?_ _) | (refine dwN ?_ _) | (refine Below.drew ?_))))) (HQ.out.to hB (by (repeat (first | assumption | exact Below.refl _ _ | exact (Below.refl _ _).alloc (Nat.le_refl _) _ | (refine thn ?_ (by assumption)) | (refine alB ?_ _) | (refine dwN ?_ _) | (refine Below.drew ?_))))) (by have := hb1.size; simp at this; omega) c8 c9).mono ?_
    rintro e w2 ⟨rfl, hb2⟩
    go_wp2_with fail
    refine hK.out _ _ (heap_below hb2 hS) ?_
    clear hK K' hS
    intro hS
    refine wpAnyH_ready (rs := [4]) (by kernel_rfl) (by simp) (AllReadyH.cons (by rfl) ?_ AllReadyH.nil)
    intro K' hK
    rw [if_pos (by rfl)]
    go_wp2_with fail
    refine hK.out _ _ hS ?_
    clear hK K' hS
    intro hS
    refine wpAnyH_ready (rs := [5]) (by kernel_rfl) (by simp) (AllReadyH.cons (by rfl) ?_ AllReadyH.nil)
    intro K' hK
    rw [if_pos (by rfl)]
    refine wp_load_row 28 _ (by rfl) w.heap.size (by rfl) _ _ _ _ hS Try.underlying28 (by rfl) (by exact pk_sz) ?_
    refine hK.out _ _ hS ?_
    clear hK K' hS
    intro hS
    refine wpAnyH_ready (rs := [6]) (by kernel_rfl) (by simp) (AllReadyH.cons (by rfl) ?_ AllReadyH.nil)
    intro K' hK
    rw [if_pos (by rfl)]
    go_wp2_with fail
    refine (len_any p s B _ (HP.out.to hB (by (repeat (first | assumption | exact Below.refl _ _ | exact (Below.refl _ _).alloc (Nat.le_refl _) _ | (refine thn ?_ (by assumption)) | (refine alB ?_ _) | (refine dwN ?_ _) | (refine Below.drew ?_))))) (by have := hb1.size; have := hb2.size; simp at *; omega) OK.out).mono ?_
    rintro e w3 ⟨rfl, hb3⟩
    go_wp2_with fail
    refine hK.out _ _ (heap_below hb3 hS) ?_
    clear hK K' hS
    intro hS
    refine wpAnyH_ready (rs := [7]) (by kernel_rfl) (by simp) (AllReadyH.cons (by rfl) ?_ AllReadyH.nil)
    intro K' hK
    rw [if_pos (by rfl)]
    go_wp2_with fail
    refine hK.out _ _ hS ?_
    clear hK K' hS
    intro hS
    refine wpAnyH_ready (rs := [8]) (by kernel_rfl) (by simp) (AllReadyH.cons (by rfl) ?_ AllReadyH.nil)
    intro K' hK
    rw [if_pos (by rfl)]
    go_wp2_with fail
    refine hK.out _ _ hS ?_
    clear hK K' hS
    intro hS
    refine wpAnyH_ready (rs := [9]) (by kernel_rfl) (by simp) (AllReadyH.cons (by rfl) ?_ AllReadyH.nil)
    intro K' hK
    rw [if_pos (by rfl)]
    go_wp2_with fail
    refine hK.out _ _ hS ?_
    clear hK K' hS
    intro hS
    refine wpAnyH_ready (rs := [10]) (by kernel_rfl) (by simp) (AllReadyH.cons (by rfl) ?_ AllReadyH.nil)
    intro K' hK
    rw [if_neg (Bool.eq_false_iff.1 (by rfl))]
    refine hK.out _ _ hS ?_
    clear hK K' hS
    intro hS
    refine wpAnyH_ready (rs := [11]) (by kernel_rfl) (by simp) (AllReadyH.cons (by rfl) ?_ AllReadyH.nil)
    intro K' hK
    rw [if_neg (Bool.eq_false_iff.1 (by rfl))]
    refine hK.out _ _ hS ?_
    clear hK K' hS
    intro hS
    refine wpAnyH_ready (rs := [12]) (by kernel_rfl) (by simp) (AllReadyH.cons (by rfl) ?_ AllReadyH.nil)
    intro K' hK
    rw [if_pos (by rfl)]
    go_wp2_with fail
    refine hK.out _ _ hS ?_
    clear hK K' hS
    intro hS
    refine wpAnyH_ready (rs := [13]) (by kernel_rfl) (by simp) (AllReadyH.cons (by rfl) ?_ AllReadyH.nil)
    intro K' hK
    rw [if_pos (by rfl)]
    go_wp2_with fail
    refine hK.out _ _ hS ?_
    clear hK K' hS
    intro hS
    refine wpAnyH_done (by kernel_rfl) ?_ _
    go_wp2_with fail
    go_ret
    exact ⟨ret_bool (by unfold rightP; simp [*]), by (repeat (first | assumption | exact Below.refl _ _ | exact (Below.refl _ _).alloc (Nat.le_refl _) _ | (refine thn ?_ (by assumption)) | (refine alB ?_ _) | (refine dwN ?_ _) | (refine Below.drew ?_)))⟩
  go_enter Try.func19, Try.ntmps19
  go_wp2_with fail
  refine wp_region_held_drew (S := fun W => W.heap[w.heap.size]? = some (.cells (pkC p s) 28 (0, 0))) (by rfl) (heap_alloc_last _ _) ?_
  intro hS
  apply wpAnyH_take (i := 0) (v := pkV p s)
  case hi => rfl
  case hs => kernel_rfl
  case hf => kernel_rfl
  case hr => kernel_rfl
  case hQ => exact fun _ _ _ h => h
  case hS => exact hS
  case hy => exact .inl ⟨by rfl, fun W hW => ld_exec rfl rfl hW rfl⟩
  apply wpAnyH_take (i := 1) (v := pkV p s)
  case hi => rfl
  case hs => kernel_rfl
  case hf => kernel_rfl
  case hr => kernel_rfl
  case hQ => exact fun _ _ _ h => h
  case hS => exact hS
  case hy => exact .inl ⟨by rfl, fun W hW => ld_exec rfl rfl hW rfl⟩
  refine wpAnyH_ready (rs := [2]) (by kernel_rfl) (by simp) (AllReadyH.cons (by rfl) ?_ AllReadyH.nil)
  intro K' hK
  rw [if_pos (by rfl)]
  go_wp2_with fail
  refine (wr_any p s _).mono ?_
  rintro e w1 ⟨rfl, hb1⟩
  go_wp2_with fail
  refine hK.out _ _ (heap_below hb1 hS) ?_
  clear hK K' hS
  intro hS
  refine wpAnyH_ready (rs := [3]) (by kernel_rfl) (by simp) (AllReadyH.cons (by rfl) ?_ AllReadyH.nil)
  intro K' hK
  rw [if_pos (by rfl)]
  go_wp2_with fail
  refine (same_any p (wrP p) s (wrS p s) B _ (HP.out.to hB (by (repeat (first | assumption | exact Below.refl _ _ | exact (Below.refl _ _).alloc (Nat.le_refl _) _ | (refine thn ?_ (by assumption)) | (refine alB ?_ _) | (refine dwN ?_ _) | (refine Below.drew ?_))))) (HQ.out.to hB (by (repeat (first | assumption | exact Below.refl _ _ | exact (Below.refl _ _).alloc (Nat.le_refl _) _ | (refine thn ?_ (by assumption)) | (refine alB ?_ _) | (refine dwN ?_ _) | (refine Below.drew ?_))))) (by have := hb1.size; simp at this; omega) c8 c9).mono ?_
  rintro e w2 ⟨rfl, hb2⟩
  go_wp2_with fail
  refine hK.out _ _ (heap_below hb2 hS) ?_
  clear hK K' hS
  intro hS
  refine wpAnyH_ready (rs := [4]) (by kernel_rfl) (by simp) (AllReadyH.cons (by rfl) ?_ AllReadyH.nil)
  intro K' hK
  rw [if_pos (by rfl)]
  go_wp2_with fail
  refine hK.out _ _ hS ?_
  clear hK K' hS
  intro hS
  refine wpAnyH_ready (rs := [5]) (by kernel_rfl) (by simp) (AllReadyH.cons (by rfl) ?_ AllReadyH.nil)
  intro K' hK
  rw [if_pos (by rfl)]
  refine wp_load_row 28 _ (by rfl) w.heap.size (by rfl) _ _ _ _ hS Try.underlying28 (by rfl) (by exact pk_sz) ?_
  refine hK.out _ _ hS ?_
  clear hK K' hS
  intro hS
  refine wpAnyH_ready (rs := [6]) (by kernel_rfl) (by simp) (AllReadyH.cons (by rfl) ?_ AllReadyH.nil)
  intro K' hK
  rw [if_pos (by rfl)]
  go_wp2_with fail
  refine (len_any p s B _ (HP.out.to hB (by (repeat (first | assumption | exact Below.refl _ _ | exact (Below.refl _ _).alloc (Nat.le_refl _) _ | (refine thn ?_ (by assumption)) | (refine alB ?_ _) | (refine dwN ?_ _) | (refine Below.drew ?_))))) (by have := hb1.size; have := hb2.size; simp at *; omega) OK.out).mono ?_
  rintro e w3 ⟨rfl, hb3⟩
  go_wp2_with fail
  refine hK.out _ _ (heap_below hb3 hS) ?_
  clear hK K' hS
  intro hS
  refine wpAnyH_ready (rs := [7]) (by kernel_rfl) (by simp) (AllReadyH.cons (by rfl) ?_ AllReadyH.nil)
  intro K' hK
  rw [if_pos (by rfl)]
  go_wp2_with fail
  refine hK.out _ _ hS ?_
  clear hK K' hS
  intro hS
  refine wpAnyH_ready (rs := [8]) (by kernel_rfl) (by simp) (AllReadyH.cons (by rfl) ?_ AllReadyH.nil)
  intro K' hK
  rw [if_pos (by rfl)]
  go_wp2_with fail
  refine hK.out _ _ hS ?_
  clear hK K' hS
  intro hS
  refine wpAnyH_ready (rs := [9]) (by kernel_rfl) (by simp) (AllReadyH.cons (by rfl) ?_ AllReadyH.nil)
  intro K' hK
  rw [if_pos (by rfl)]
  go_wp2_with fail
  refine hK.out _ _ hS ?_
  clear hK K' hS
  intro hS
  refine wpAnyH_ready (rs := [10]) (by kernel_rfl) (by simp) (AllReadyH.cons (by rfl) ?_ AllReadyH.nil)
  intro K' hK
  rw [if_pos (by rfl)]
  refine wp_load_row 28 _ (by rfl) w.heap.size (by rfl) _ _ _ _ hS Try.underlying28 (by rfl) (by exact pk_sz) ?_
  refine hK.out _ _ hS ?_
  clear hK K' hS
  intro hS
  refine wpAnyH_ready (rs := [11]) (by kernel_rfl) (by simp) (AllReadyH.cons (by rfl) ?_ AllReadyH.nil)
  intro K' hK
  rw [if_pos (by rfl)]
  go_wp2_with fail
  refine (fits_any p s B _ (HP.out.to hB (by (repeat (first | assumption | exact Below.refl _ _ | exact (Below.refl _ _).alloc (Nat.le_refl _) _ | (refine thn ?_ (by assumption)) | (refine alB ?_ _) | (refine dwN ?_ _) | (refine Below.drew ?_))))) (by have := hb1.size; have := hb2.size; have := hb3.size; simp at *; omega) OK.out).mono ?_
  rintro e w4 ⟨rfl, hb4⟩
  go_wp2_with fail
  refine hK.out _ _ (heap_below hb4 hS) ?_
  clear hK K' hS
  intro hS
  refine wpAnyH_ready (rs := [12]) (by kernel_rfl) (by simp) (AllReadyH.cons (by rfl) ?_ AllReadyH.nil)
  intro K' hK
  rw [if_pos (by rfl)]
  go_wp2_with fail
  refine hK.out _ _ hS ?_
  clear hK K' hS
  intro hS
  refine wpAnyH_ready (rs := [13]) (by kernel_rfl) (by simp) (AllReadyH.cons (by rfl) ?_ AllReadyH.nil)
  intro K' hK
  rw [if_pos (by rfl)]
  go_wp2_with fail
  refine hK.out _ _ hS ?_
  clear hK K' hS
  intro hS
  refine wpAnyH_done (by kernel_rfl) ?_ _
  go_wp2_with fail
  go_ret
  exact ⟨ret_bool (by unfold rightP; simp [*]), by (repeat (first | assumption | exact Below.refl _ _ | exact (Below.refl _ _).alloc (Nat.le_refl _) _ | (refine thn ?_ (by assumption)) | (refine alB ?_ _) | (refine dwN ?_ _) | (refine Below.drew ?_)))⟩
end Go.Proofs.Ytkeocnobninaaaa
