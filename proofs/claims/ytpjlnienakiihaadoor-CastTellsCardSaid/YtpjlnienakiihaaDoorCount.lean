/- How many of each form: cast.Count. -/
import Derived.Test.YtpjlnienakiihaaDoorKnown4
namespace Go.Proofs.YtpjlnienakiihaaDoor
open Go.RowKit Go.Lib

/-- How many kinds of a list are of that form. -/
def cnt (f : Int) (l : List Int) : Nat := (l.filter fun k => formK k == f).length
def cntC (l : List Int) : Array Value := #[.int .i64 (cnt 0 l), .int .i64 (cnt 1 l), .int .i64 (cnt 2 l), .int .i64 (cnt 3 l), .int .i64 (cnt 4 l)]
theorem cnt_le (f : Int) (l : List Int) : cnt f l ≤ l.length := List.length_filter_le _ _
theorem cnt_snoc (f : Int) (l : List Int) (k : Int) : cnt f (l ++ [k]) = cnt f l + if formK k == f then 1 else 0 := by
  unfold cnt; rw [List.filter_append]
  by_cases h : formK k == f <;> simp [h]
theorem cntC_step_0 (l : List Int) (y : Int) (h : formK y = 0) : (cntC l).setIfInBounds 0 (.int .i64 (↑(cnt 0 l) + 1)) = cntC (l ++ [y]) := by
  simp only [cntC, cnt_snoc, h]; rfl
@[simp, go_sem] theorem cntC_0 (l : List Int) : (cntC l)[0]? = some (.int .i64 (cnt 0 l)) := rfl
theorem cntC_step_1 (l : List Int) (y : Int) (h : formK y = 1) : (cntC l).setIfInBounds 1 (.int .i64 (↑(cnt 1 l) + 1)) = cntC (l ++ [y]) := by
  simp only [cntC, cnt_snoc, h]; rfl
@[simp, go_sem] theorem cntC_1 (l : List Int) : (cntC l)[1]? = some (.int .i64 (cnt 1 l)) := rfl
theorem cntC_step_2 (l : List Int) (y : Int) (h : formK y = 2) : (cntC l).setIfInBounds 2 (.int .i64 (↑(cnt 2 l) + 1)) = cntC (l ++ [y]) := by
  simp only [cntC, cnt_snoc, h]; rfl
@[simp, go_sem] theorem cntC_2 (l : List Int) : (cntC l)[2]? = some (.int .i64 (cnt 2 l)) := rfl
theorem cntC_step_3 (l : List Int) (y : Int) (h : formK y = 3) : (cntC l).setIfInBounds 3 (.int .i64 (↑(cnt 3 l) + 1)) = cntC (l ++ [y]) := by
  simp only [cntC, cnt_snoc, h]; rfl
@[simp, go_sem] theorem cntC_3 (l : List Int) : (cntC l)[3]? = some (.int .i64 (cnt 3 l)) := rfl
theorem cntC_step_4 (l : List Int) (y : Int) (h : formK y = 4) : (cntC l).setIfInBounds 4 (.int .i64 (↑(cnt 4 l) + 1)) = cntC (l ++ [y]) := by
  simp only [cntC, cnt_snoc, h]; rfl
@[simp, go_sem] theorem cntC_4 (l : List Int) : (cntC l)[4]? = some (.int .i64 (cnt 4 l)) := rfl
theorem cntC_step_5 (l : List Int) (y : Int) (h : formK y = 5) : cntC l = cntC (l ++ [y]) := by
  simp only [cntC, cnt_snoc, h]; rfl
theorem cntC_one (l : List Int) : (cntC l).all (·.oneCell') = true := by rw [← Array.all_toList]; rfl
theorem cnt_sz : (Tryd.prog.info? 51).map (·.size) = some 5 := by kernel_rfl
/-- A packet of that kind, and nothing else. -/
def pkK (k : Int) : Pk := { pk0 with kind := k }
def pksC (l : List Int) : List Value := l.flatMap fun k => (pkC (pkK k) sv0).toList
theorem pksC_len (l : List Int) : (pksC l).length = l.length * 24 := by
  unfold pksC
  induction l with
  | nil => rfl
  | cons x l ih => rw [List.flatMap_cons, List.length_append, ih]; simp [pkC]; omega
theorem pksC_at (l : List Int) : ∀ (j : Nat) (k : Int), l[j]? = some k → ∀ (i : Nat) (v : Value), (pkC (pkK k) sv0)[i]? = some v → (pksC l)[j * 24 + i]? = some v := by
  induction l with
  | nil => intro j k h; simp at h
  | cons x l ih =>
    intro j k h i v hv
    have hi : i < 24 := by have := (Array.getElem?_eq_some_iff.1 hv).1; simpa using this
    unfold pksC
    rw [List.flatMap_cons]
    cases j with
    | zero =>
      simp at h; subst h
      rw [List.getElem?_append_left (by simp [pkC]; omega)]
      simpa using hv
    | succ j =>
      have := ih j k (by simpa using h) i v hv
      rw [List.getElem?_append_right (by simp [pkC]; omega)]
      rw [show (j + 1) * 24 + i - (pkC (pkK x) sv0).toList.length = j * 24 + i by simp [pkC]; omega]
      exact this
theorem pks_range {w : World} {base g c n : Nat} {l : List Int} (h : w.ownsRow base 28 24 (.slice (some ⟨g, 0, none⟩) n c) n (pksC l)) (j : Nat) (k : Int) (hj : l[j]? = some k) :
    w.rangeAt g (j * 24) (pkC (pkK k) sv0).toList := by
  intro i v hv
  have e := h.cells rfl _ _ (pksC_at l j k hj i v (by simpa using hv))
  rw [show ((⟨g, 0, none⟩ : Addr).add (j * 24 + i)) = ⟨g, j * 24 + i, none⟩ by unfold Addr.add; split <;> simp_all] at e
  exact e
/-- A whole packet out of the midst of a row. -/
theorem ld_mid {ops : Array Oper} {rest : List Oper} {Q : Exit → Act → World → Prop} {a : Act} {w : World} {d : Option Tmp} {x : Operand} {ty : TypeId} {ps : String} {af : Array Edge} {gd : Option (Nat × Bool)}
    (g o : Nat) (cs : Array Value) (hx : a.eval x = .pointer (some ⟨g, o, none⟩)) (hw : Region.wanted { dst := d, op := .load 28 x, type := ty, pos := ps, after := af, guard := gd } (yielded ops a.tmps) = true)
    (hr : w.rangeAt g o cs.toList) (hi : cs.size = 24)
    (h : wpList Tryd.prog ops Q rest (a.put d (.agg cs)) w) : wpList Tryd.prog ops Q ({ dst := d, op := .load 28 x, type := ty, pos := ps, after := af, guard := gd } :: rest) a w :=
  BigFrame.wpList_want hw fun _ hK => wp_load_mid 28 _ rfl g o hx _ _ hr Tryd.underlying28 rfl (by simpa [hi] using pk_sz) (hK _ _ (by simpa using h))

set_option maxRecDepth 100000 in
set_option maxHeartbeats 4000000 in
theorem Count_any (A : Option Addr) (c n base : Nat) (ks : List Int) (w : World) (hv : w.ownsRow base 28 24 (.slice A n c) n (pksC ks)) (hn : n = ks.length) (hl : ks.length ≤ 1000) :
    Calls Tryd.prog 16 #[.slice A n c] w fun e w' => e = .returned (.agg (cntC ks)) ∧ Below w.heap.size w w' := by
  subst hn
  have HV := Lib.hid hv
  clear hv
  go_enter Tryd.func16, Tryd.ntmps16
  go_wp2
  go_loopw [10] (fun i wr => ∃ k : Nat, k ≤ ks.length ∧ i = .int .i64 k ∧ Below w.heap.size w wr ∧ wr.heap[w.heap.size + 1]? = some (.cells (cntC (ks.take k)) 51 (0, 0)) ∧ wr.heap[w.heap.size]? = some (.cells (cntC []) 51 (0, 0))) (fun i _ => ks.length - (intOf i).toNat)
  case atStart => exact ⟨0, Nat.zero_le _, rfl, by (repeat (first | assumption | exact Below.refl _ _ | exact (Below.refl _ _).alloc (Nat.le_refl _) _ | (refine thn ?_ (by assumption)) | (refine alB ?_ _) | (refine dwN ?_ _) | (refine Below.drew ?_))), heap_alloc2_new w _ _, heap_alloc2_old w _ _⟩
  case round =>
    obtain ⟨k, hk, rfl, hb, hr, hr0⟩ := hrel
    by_cases hlt : k < ks.length
    · have ho := own_below HV.out hb
      rcases ho.2 with ⟨q, h0⟩ | ⟨g, cap, cur, q, h1, h2, h3⟩
      · omega
      injection q with q1 q2 q3
      subst q1; subst q3
      have hrg := pks_range ho k ks[k] (List.getElem?_eq_getElem hlt)
      have hts : ks.take (k + 1) = ks.take k ++ [ks[k]] := List.take_succ_eq_append_getElem hlt
      have hcn : cntC (ks.take (k + 1)) = cntC (ks.take k ++ [ks[k]]) := by rw [hts]
      have HCN := Lib.hid hcn
      have hle := fun f => Nat.le_trans (cnt_le f (ks.take k)) (Nat.le_trans (List.length_take_le _ _) hk)
      generalize ks[k] = y at *
      have HR := Lib.hid hr
      have HR0 := Lib.hid hr0
      have RG := Lib.hid hrg
      clear hr hr0 hrg hts hcn ho h1 h2 h3
      have U := Lib.hid (fun W => unwrap_any (pkK y) sv0 W)
      rw [show (pkK y).kind = y from rfl] at U
      rcases form_cases y with h | h | h | h | h | h
      · rw [h] at U
        go_wp2_with (first
          | ((with_reducible show wpList _ _ _ ({ dst := _, op := Op.load 28 (Operand.tmp 12), type := _, pos := _, after := _, guard := _ } :: _) _ _); refine ld_mid g (k * 24) (pkC (pkK y) sv0) (by rfl) (by rfl) RG.out (by rfl) ?_)
          | ((with_reducible show wpList _ _ _ ({ dst := _, op := Op.store 28 (Operand.tmp 5) _, type := _, pos := _, after := _, guard := _ } :: _) _ _); refine stL wr.heap.size (by rfl) _ (pkC (pkK y) sv0) (by rfl) (by rfl) (by rfl) (by rfl) pk_sz (pk_one _ _) ?_)
          | ((with_reducible show wpList _ _ _ ({ dst := _, op := Op.load 28 (Operand.tmp 5), type := _, pos := _, after := _, guard := _ } :: _) _ _); refine ld_pk wr.heap.size (by rfl) (by rfl) (pkC (pkK y) sv0) _ _ (heap_alloc_new _ _) (by rfl) ?_))
        refine (wrap_any (pkK y) sv0 _).mono ?_
        rintro e w1 ⟨rfl, hb1⟩
        have r1 := heap_below hb1 (heap_keep HR.out)
        have q1 := heap_below hb1 (heap_keep HR0.out)
        have b1 : Below w.heap.size w w1 := by (repeat (first | assumption | exact Below.refl _ _ | exact (Below.refl _ _).alloc (Nat.le_refl _) _ | (refine thn ?_ (by assumption)) | (refine alB ?_ _) | (refine dwN ?_ _) | (refine Below.drew ?_)))
        clear hb1
        go_wp2_with fail
        refine (U.out _).mono ?_
        rintro e w2 ⟨rfl, hb2⟩
        have r2 := heap_keep (o' := .cells (pkC (uwP (pkK y)) (uwS (pkK y) sv0)) 28) (heap_below hb2 r1)
        have q2 := heap_keep (o' := .cells (pkC (uwP (pkK y)) (uwS (pkK y) sv0)) 28) (heap_below hb2 q1)
        have b2 : Below w.heap.size w w2 := by (repeat (first | assumption | exact Below.refl _ _ | exact (Below.refl _ _).alloc (Nat.le_refl _) _ | (refine thn ?_ (by assumption)) | (refine alB ?_ _) | (refine dwN ?_ _) | (refine Below.drew ?_)))
        clear hb2 r1 q1 b1
        have C := row_cells r2
        have F := fun j => frozen_of_row _ _ j _ _ r2
        have R2 := Lib.hid r2
        have Q2 := Lib.hid q2
        have l0 := hle 0
        have l1 := hlt
        clear r2 q2 hle
        go_wp2_with ((with_reducible show wpList _ _ _ ({ dst := _, op := Op.store 28 (Operand.tmp 6) _, type := _, pos := _, after := _, guard := _ } :: _) _ _); refine stL w2.heap.size (by rfl) _ (pkC (uwP (pkK y)) (uwS (pkK y) sv0)) (by rfl) (by rfl) (by rfl) (by rfl) pk_sz (pk_one _ _) ?_)
        go_roundw
        case rel => exact ⟨k + 1, hlt, by go_num, (alB b2 _).setCell (by simp) _, by rw [HCN.out, ← cntC_step_0 _ _ h]; exact heap_setCell_same _ _ 0 _ _ _ R2.out, by rw [heap_setCell_other _ _ _ _ (by simp)]; exact Q2.out⟩
        case measure => simp [intOf]; omega
      · rw [h] at U
        go_wp2_with (first
          | ((with_reducible show wpList _ _ _ ({ dst := _, op := Op.load 28 (Operand.tmp 12), type := _, pos := _, after := _, guard := _ } :: _) _ _); refine ld_mid g (k * 24) (pkC (pkK y) sv0) (by rfl) (by rfl) RG.out (by rfl) ?_)
          | ((with_reducible show wpList _ _ _ ({ dst := _, op := Op.store 28 (Operand.tmp 5) _, type := _, pos := _, after := _, guard := _ } :: _) _ _); refine stL wr.heap.size (by rfl) _ (pkC (pkK y) sv0) (by rfl) (by rfl) (by rfl) (by rfl) pk_sz (pk_one _ _) ?_)
          | ((with_reducible show wpList _ _ _ ({ dst := _, op := Op.load 28 (Operand.tmp 5), type := _, pos := _, after := _, guard := _ } :: _) _ _); refine ld_pk wr.heap.size (by rfl) (by rfl) (pkC (pkK y) sv0) _ _ (heap_alloc_new _ _) (by rfl) ?_))
        refine (wrap_any (pkK y) sv0 _).mono ?_
        rintro e w1 ⟨rfl, hb1⟩
        have r1 := heap_below hb1 (heap_keep HR.out)
        have q1 := heap_below hb1 (heap_keep HR0.out)
        have b1 : Below w.heap.size w w1 := by (repeat (first | assumption | exact Below.refl _ _ | exact (Below.refl _ _).alloc (Nat.le_refl _) _ | (refine thn ?_ (by assumption)) | (refine alB ?_ _) | (refine dwN ?_ _) | (refine Below.drew ?_)))
        clear hb1
        go_wp2_with fail
        refine (U.out _).mono ?_
        rintro e w2 ⟨rfl, hb2⟩
        have r2 := heap_keep (o' := .cells (pkC (uwP (pkK y)) (uwS (pkK y) sv0)) 28) (heap_below hb2 r1)
        have q2 := heap_keep (o' := .cells (pkC (uwP (pkK y)) (uwS (pkK y) sv0)) 28) (heap_below hb2 q1)
        have b2 : Below w.heap.size w w2 := by (repeat (first | assumption | exact Below.refl _ _ | exact (Below.refl _ _).alloc (Nat.le_refl _) _ | (refine thn ?_ (by assumption)) | (refine alB ?_ _) | (refine dwN ?_ _) | (refine Below.drew ?_)))
        clear hb2 r1 q1 b1
        have C := row_cells r2
        have F := fun j => frozen_of_row _ _ j _ _ r2
        have R2 := Lib.hid r2
        have Q2 := Lib.hid q2
        have l0 := hle 1
        have l1 := hlt
        clear r2 q2 hle
        go_wp2_with ((with_reducible show wpList _ _ _ ({ dst := _, op := Op.store 28 (Operand.tmp 6) _, type := _, pos := _, after := _, guard := _ } :: _) _ _); refine stL w2.heap.size (by rfl) _ (pkC (uwP (pkK y)) (uwS (pkK y) sv0)) (by rfl) (by rfl) (by rfl) (by rfl) pk_sz (pk_one _ _) ?_)
        go_roundw
        case rel => exact ⟨k + 1, hlt, by go_num, (alB b2 _).setCell (by simp) _, by rw [HCN.out, ← cntC_step_1 _ _ h]; exact heap_setCell_same _ _ 1 _ _ _ R2.out, by rw [heap_setCell_other _ _ _ _ (by simp)]; exact Q2.out⟩
        case measure => simp [intOf]; omega
      · rw [h] at U
        go_wp2_with (first
          | ((with_reducible show wpList _ _ _ ({ dst := _, op := Op.load 28 (Operand.tmp 12), type := _, pos := _, after := _, guard := _ } :: _) _ _); refine ld_mid g (k * 24) (pkC (pkK y) sv0) (by rfl) (by rfl) RG.out (by rfl) ?_)
          | ((with_reducible show wpList _ _ _ ({ dst := _, op := Op.store 28 (Operand.tmp 5) _, type := _, pos := _, after := _, guard := _ } :: _) _ _); refine stL wr.heap.size (by rfl) _ (pkC (pkK y) sv0) (by rfl) (by rfl) (by rfl) (by rfl) pk_sz (pk_one _ _) ?_)
          | ((with_reducible show wpList _ _ _ ({ dst := _, op := Op.load 28 (Operand.tmp 5), type := _, pos := _, after := _, guard := _ } :: _) _ _); refine ld_pk wr.heap.size (by rfl) (by rfl) (pkC (pkK y) sv0) _ _ (heap_alloc_new _ _) (by rfl) ?_))
        refine (wrap_any (pkK y) sv0 _).mono ?_
        rintro e w1 ⟨rfl, hb1⟩
        have r1 := heap_below hb1 (heap_keep HR.out)
        have q1 := heap_below hb1 (heap_keep HR0.out)
        have b1 : Below w.heap.size w w1 := by (repeat (first | assumption | exact Below.refl _ _ | exact (Below.refl _ _).alloc (Nat.le_refl _) _ | (refine thn ?_ (by assumption)) | (refine alB ?_ _) | (refine dwN ?_ _) | (refine Below.drew ?_)))
        clear hb1
        go_wp2_with fail
        refine (U.out _).mono ?_
        rintro e w2 ⟨rfl, hb2⟩
        have r2 := heap_keep (o' := .cells (pkC (uwP (pkK y)) (uwS (pkK y) sv0)) 28) (heap_below hb2 r1)
        have q2 := heap_keep (o' := .cells (pkC (uwP (pkK y)) (uwS (pkK y) sv0)) 28) (heap_below hb2 q1)
        have b2 : Below w.heap.size w w2 := by (repeat (first | assumption | exact Below.refl _ _ | exact (Below.refl _ _).alloc (Nat.le_refl _) _ | (refine thn ?_ (by assumption)) | (refine alB ?_ _) | (refine dwN ?_ _) | (refine Below.drew ?_)))
        clear hb2 r1 q1 b1
        have C := row_cells r2
        have F := fun j => frozen_of_row _ _ j _ _ r2
        have R2 := Lib.hid r2
        have Q2 := Lib.hid q2
        have l0 := hle 2
        have l1 := hlt
        clear r2 q2 hle
        go_wp2_with ((with_reducible show wpList _ _ _ ({ dst := _, op := Op.store 28 (Operand.tmp 6) _, type := _, pos := _, after := _, guard := _ } :: _) _ _); refine stL w2.heap.size (by rfl) _ (pkC (uwP (pkK y)) (uwS (pkK y) sv0)) (by rfl) (by rfl) (by rfl) (by rfl) pk_sz (pk_one _ _) ?_)
        go_roundw
        case rel => exact ⟨k + 1, hlt, by go_num, (alB b2 _).setCell (by simp) _, by rw [HCN.out, ← cntC_step_2 _ _ h]; exact heap_setCell_same _ _ 2 _ _ _ R2.out, by rw [heap_setCell_other _ _ _ _ (by simp)]; exact Q2.out⟩
        case measure => simp [intOf]; omega
      · rw [h] at U
        go_wp2_with (first
          | ((with_reducible show wpList _ _ _ ({ dst := _, op := Op.load 28 (Operand.tmp 12), type := _, pos := _, after := _, guard := _ } :: _) _ _); refine ld_mid g (k * 24) (pkC (pkK y) sv0) (by rfl) (by rfl) RG.out (by rfl) ?_)
          | ((with_reducible show wpList _ _ _ ({ dst := _, op := Op.store 28 (Operand.tmp 5) _, type := _, pos := _, after := _, guard := _ } :: _) _ _); refine stL wr.heap.size (by rfl) _ (pkC (pkK y) sv0) (by rfl) (by rfl) (by rfl) (by rfl) pk_sz (pk_one _ _) ?_)
          | ((with_reducible show wpList _ _ _ ({ dst := _, op := Op.load 28 (Operand.tmp 5), type := _, pos := _, after := _, guard := _ } :: _) _ _); refine ld_pk wr.heap.size (by rfl) (by rfl) (pkC (pkK y) sv0) _ _ (heap_alloc_new _ _) (by rfl) ?_))
        refine (wrap_any (pkK y) sv0 _).mono ?_
        rintro e w1 ⟨rfl, hb1⟩
        have r1 := heap_below hb1 (heap_keep HR.out)
        have q1 := heap_below hb1 (heap_keep HR0.out)
        have b1 : Below w.heap.size w w1 := by (repeat (first | assumption | exact Below.refl _ _ | exact (Below.refl _ _).alloc (Nat.le_refl _) _ | (refine thn ?_ (by assumption)) | (refine alB ?_ _) | (refine dwN ?_ _) | (refine Below.drew ?_)))
        clear hb1
        go_wp2_with fail
        refine (U.out _).mono ?_
        rintro e w2 ⟨rfl, hb2⟩
        have r2 := heap_keep (o' := .cells (pkC (uwP (pkK y)) (uwS (pkK y) sv0)) 28) (heap_below hb2 r1)
        have q2 := heap_keep (o' := .cells (pkC (uwP (pkK y)) (uwS (pkK y) sv0)) 28) (heap_below hb2 q1)
        have b2 : Below w.heap.size w w2 := by (repeat (first | assumption | exact Below.refl _ _ | exact (Below.refl _ _).alloc (Nat.le_refl _) _ | (refine thn ?_ (by assumption)) | (refine alB ?_ _) | (refine dwN ?_ _) | (refine Below.drew ?_)))
        clear hb2 r1 q1 b1
        have C := row_cells r2
        have F := fun j => frozen_of_row _ _ j _ _ r2
        have R2 := Lib.hid r2
        have Q2 := Lib.hid q2
        have l0 := hle 3
        have l1 := hlt
        clear r2 q2 hle
        go_wp2_with ((with_reducible show wpList _ _ _ ({ dst := _, op := Op.store 28 (Operand.tmp 6) _, type := _, pos := _, after := _, guard := _ } :: _) _ _); refine stL w2.heap.size (by rfl) _ (pkC (uwP (pkK y)) (uwS (pkK y) sv0)) (by rfl) (by rfl) (by rfl) (by rfl) pk_sz (pk_one _ _) ?_)
        go_roundw
        case rel => exact ⟨k + 1, hlt, by go_num, (alB b2 _).setCell (by simp) _, by rw [HCN.out, ← cntC_step_3 _ _ h]; exact heap_setCell_same _ _ 3 _ _ _ R2.out, by rw [heap_setCell_other _ _ _ _ (by simp)]; exact Q2.out⟩
        case measure => simp [intOf]; omega
      · rw [h] at U
        go_wp2_with (first
          | ((with_reducible show wpList _ _ _ ({ dst := _, op := Op.load 28 (Operand.tmp 12), type := _, pos := _, after := _, guard := _ } :: _) _ _); refine ld_mid g (k * 24) (pkC (pkK y) sv0) (by rfl) (by rfl) RG.out (by rfl) ?_)
          | ((with_reducible show wpList _ _ _ ({ dst := _, op := Op.store 28 (Operand.tmp 5) _, type := _, pos := _, after := _, guard := _ } :: _) _ _); refine stL wr.heap.size (by rfl) _ (pkC (pkK y) sv0) (by rfl) (by rfl) (by rfl) (by rfl) pk_sz (pk_one _ _) ?_)
          | ((with_reducible show wpList _ _ _ ({ dst := _, op := Op.load 28 (Operand.tmp 5), type := _, pos := _, after := _, guard := _ } :: _) _ _); refine ld_pk wr.heap.size (by rfl) (by rfl) (pkC (pkK y) sv0) _ _ (heap_alloc_new _ _) (by rfl) ?_))
        refine (wrap_any (pkK y) sv0 _).mono ?_
        rintro e w1 ⟨rfl, hb1⟩
        have r1 := heap_below hb1 (heap_keep HR.out)
        have q1 := heap_below hb1 (heap_keep HR0.out)
        have b1 : Below w.heap.size w w1 := by (repeat (first | assumption | exact Below.refl _ _ | exact (Below.refl _ _).alloc (Nat.le_refl _) _ | (refine thn ?_ (by assumption)) | (refine alB ?_ _) | (refine dwN ?_ _) | (refine Below.drew ?_)))
        clear hb1
        go_wp2_with fail
        refine (U.out _).mono ?_
        rintro e w2 ⟨rfl, hb2⟩
        have r2 := heap_keep (o' := .cells (pkC (uwP (pkK y)) (uwS (pkK y) sv0)) 28) (heap_below hb2 r1)
        have q2 := heap_keep (o' := .cells (pkC (uwP (pkK y)) (uwS (pkK y) sv0)) 28) (heap_below hb2 q1)
        have b2 : Below w.heap.size w w2 := by (repeat (first | assumption | exact Below.refl _ _ | exact (Below.refl _ _).alloc (Nat.le_refl _) _ | (refine thn ?_ (by assumption)) | (refine alB ?_ _) | (refine dwN ?_ _) | (refine Below.drew ?_)))
        clear hb2 r1 q1 b1
        have C := row_cells r2
        have F := fun j => frozen_of_row _ _ j _ _ r2
        have R2 := Lib.hid r2
        have Q2 := Lib.hid q2
        have l0 := hle 4
        have l1 := hlt
        clear r2 q2 hle
        go_wp2_with ((with_reducible show wpList _ _ _ ({ dst := _, op := Op.store 28 (Operand.tmp 6) _, type := _, pos := _, after := _, guard := _ } :: _) _ _); refine stL w2.heap.size (by rfl) _ (pkC (uwP (pkK y)) (uwS (pkK y) sv0)) (by rfl) (by rfl) (by rfl) (by rfl) pk_sz (pk_one _ _) ?_)
        go_roundw
        case rel => exact ⟨k + 1, hlt, by go_num, (alB b2 _).setCell (by simp) _, by rw [HCN.out, ← cntC_step_4 _ _ h]; exact heap_setCell_same _ _ 4 _ _ _ R2.out, by rw [heap_setCell_other _ _ _ _ (by simp)]; exact Q2.out⟩
        case measure => simp [intOf]; omega
      · rw [h] at U
        go_wp2_with (first
          | ((with_reducible show wpList _ _ _ ({ dst := _, op := Op.load 28 (Operand.tmp 12), type := _, pos := _, after := _, guard := _ } :: _) _ _); refine ld_mid g (k * 24) (pkC (pkK y) sv0) (by rfl) (by rfl) RG.out (by rfl) ?_)
          | ((with_reducible show wpList _ _ _ ({ dst := _, op := Op.store 28 (Operand.tmp 5) _, type := _, pos := _, after := _, guard := _ } :: _) _ _); refine stL wr.heap.size (by rfl) _ (pkC (pkK y) sv0) (by rfl) (by rfl) (by rfl) (by rfl) pk_sz (pk_one _ _) ?_)
          | ((with_reducible show wpList _ _ _ ({ dst := _, op := Op.load 28 (Operand.tmp 5), type := _, pos := _, after := _, guard := _ } :: _) _ _); refine ld_pk wr.heap.size (by rfl) (by rfl) (pkC (pkK y) sv0) _ _ (heap_alloc_new _ _) (by rfl) ?_))
        refine (wrap_any (pkK y) sv0 _).mono ?_
        rintro e w1 ⟨rfl, hb1⟩
        have r1 := heap_below hb1 (heap_keep HR.out)
        have q1 := heap_below hb1 (heap_keep HR0.out)
        have b1 : Below w.heap.size w w1 := by (repeat (first | assumption | exact Below.refl _ _ | exact (Below.refl _ _).alloc (Nat.le_refl _) _ | (refine thn ?_ (by assumption)) | (refine alB ?_ _) | (refine dwN ?_ _) | (refine Below.drew ?_)))
        clear hb1
        go_wp2_with fail
        refine (U.out _).mono ?_
        rintro e w2 ⟨rfl, hb2⟩
        have r2 := heap_keep (o' := .cells (pkC (uwP (pkK y)) (uwS (pkK y) sv0)) 28) (heap_below hb2 r1)
        have q2 := heap_keep (o' := .cells (pkC (uwP (pkK y)) (uwS (pkK y) sv0)) 28) (heap_below hb2 q1)
        have b2 : Below w.heap.size w w2 := by (repeat (first | assumption | exact Below.refl _ _ | exact (Below.refl _ _).alloc (Nat.le_refl _) _ | (refine thn ?_ (by assumption)) | (refine alB ?_ _) | (refine dwN ?_ _) | (refine Below.drew ?_)))
        clear hb2 r1 q1 b1 hle
        go_wp2_with ((with_reducible show wpList _ _ _ ({ dst := _, op := Op.store 28 (Operand.tmp 6) _, type := _, pos := _, after := _, guard := _ } :: _) _ _); refine stL w2.heap.size (by rfl) _ (pkC (uwP (pkK y)) (uwS (pkK y) sv0)) (by rfl) (by rfl) (by rfl) (by rfl) pk_sz (pk_one _ _) ?_)
        go_roundw
        case rel => exact ⟨k + 1, hlt, by go_num, alB b2 _, by rw [HCN.out, ← cntC_step_5 _ _ h]; exact r2, q2⟩
        case measure => simp [intOf]; omega
    · have HR := Lib.hid hr
      have HR0 := Lib.hid hr0
      have et : ks.take k = ks := List.take_of_length_le (by omega)
      rw [et] at HR
      have g0 : w.heap.size + 2 ≤ wr.heap.size := (Array.getElem?_eq_some_iff.1 hr).1
      clear hr hr0 et
      go_wp2_with (first
        | ((with_reducible show wpList _ _ _ ({ dst := _, op := Op.load 51 _, type := _, pos := _, after := _, guard := _ } :: _) _ _); refine wpList_load_row rfl 51 _ rfl (w.heap.size + 1) (by rfl) _ (cntC ks) _ _ HR.out Tryd.underlying51 rfl (by exact cnt_sz) ?_)
        | ((with_reducible show wpList _ _ _ ({ dst := _, op := Op.store 51 _ _, type := _, pos := _, after := _, guard := _ } :: _) _ _); refine wpList_store_rowTo rfl 51 _ _ rfl rfl w.heap.size (cntC ks) (by rfl) (by rfl) 51 (cntC []) HR0.out (by exact cnt_sz) (by rfl) (cntC_one ks) ?_))
      exact bodyPost_ret (v := .agg (cntC ks)) (results_cell_row (by rfl) _ _ w.heap.size 51 _ (0, 0) _ (by rfl) (setRow_heap _ _ _ _ _ _ HR0.out) Tryd.underlying51 (by rfl) (by exact cnt_sz)) (by rfl) ⟨rfl, below_setRow hb (Nat.le_refl _) _⟩

end Go.Proofs.YtpjlnienakiihaaDoor
