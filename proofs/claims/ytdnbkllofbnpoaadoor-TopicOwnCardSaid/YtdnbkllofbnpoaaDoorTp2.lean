/- package topic: names, filters, what covers what. -/
import Derived.Test.YtdnbkllofbnpoaaDoorTp1
namespace Go.Proofs.YtdnbkllofbnpoaaDoor
open Go.RowKit Go.Lib
set_option linter.unusedVariables false

set_option maxRecDepth 100000 in
set_option maxHeartbeats 400000 in
theorem name_any (s : ByteArray) (w : World) (hs : s.size ≤ 1000000) :
    Calls Tryd.prog 12 #[.string s] w fun e w' => e = .returned (.bool (nameP s.data.toList)) ∧ Below w.heap.size w w' := by
  have c1 := fun W => isText_any s W hs
  have c2 := fun W => hasWild_any s W hs
  have R := Lib.hid (show nameP s.data.toList = (textP s.data.toList && !wildP s.data.toList) from rfl)
  generalize textP s.data.toList = a at *
  generalize wildP s.data.toList = b at *
  cases a <;> cases b
  all_goals
    go_enter Tryd.func12, Tryd.ntmps12
    go_wp2_with (first
      | (go_at_call 23; refine (c1 _).mono ?_; rintro e w1 ⟨rfl, hb1⟩)
      | (go_at_call 24; refine (c2 _).mono ?_; rintro e w2 ⟨rfl, hb2⟩))
    go_ret
    first
      | exact ⟨ret_bool (by rw [R.out]; rfl), thn hb1 hb2⟩
      | exact ⟨ret_bool (by rw [R.out]; rfl), hb1⟩

theorem fitsAll_drop (L : List (List UInt8)) (k : Nat) (h : k < L.length) : fitsAll (L.drop k) = (fitsP L[k] ((k : Int) == (L.length : Int) - 1) && fitsAll (L.drop (k + 1))) := by
  rw [List.drop_eq_getElem_cons h]
  have : (L.drop (k + 1)).isEmpty = ((k : Int) == (L.length : Int) - 1) := by
    rw [Bool.eq_iff_iff, List.isEmpty_iff, List.drop_eq_nil_iff, beq_iff_eq]
    omega
  show (fitsP _ (L.drop (k + 1)).isEmpty && _) = _
  rw [this]
theorem lev_elem_le (l : List UInt8) : ∀ x ∈ lev l, x.length ≤ l.length := by
  induction l with
  | nil => intro x hx; simp [lev] at hx; subst hx; simp
  | cons c l ih =>
    intro x hx
    unfold lev at hx
    split at hx
    · rcases List.mem_cons.1 hx with rfl | hx
      · simp
      · have := ih x hx; simp; omega
    · rcases List.mem_cons.1 hx with rfl | hx
      · have := ih ((lev l).headD []) (by rw [lev_ht l]; simp)
        simp at this ⊢
        omega
      · have := ih x (List.mem_of_mem_tail hx); simp; omega

set_option maxRecDepth 100000 in
set_option maxHeartbeats 1000000 in
theorem filter_any (s : ByteArray) (w : World) (hM : MaxAt w) (hs : s.size ≤ 1000000) :
    Calls Tryd.prog 14 #[.string s] w fun e w' => e = .returned (.bool (filtP s.data.toList)) ∧ Below w.heap.size w w' := by
  have c1 := fun W => isText_any s W hs
  rcases ht : textP s.data.toList with _ | _
  · have R := Lib.hid (show filtP s.data.toList = false by unfold filtP; rw [ht]; rfl)
    rw [ht] at c1
    clear ht
    go_enter Tryd.func14, Tryd.ntmps14
    go_wp2_with (go_at_call 23; refine (c1 _).mono ?_; rintro e w1 ⟨rfl, hb1⟩)
    go_ret
    exact ⟨ret_bool R.out.symm, hb1⟩
  · have R := Lib.hid (show filtP s.data.toList = fitsAll (lev s.data.toList) by unfold filtP; rw [ht]; rfl)
    rw [ht] at c1
    clear ht
    have hle := lev_le s.data.toList
    have hel := Lib.hid (lev_elem_le s.data.toList)
    have hpt := fun W hM => parted_any s W hM hs
    rw [size_list] at hle
    generalize lev s.data.toList = L at *
    go_enter Tryd.func14, Tryd.ntmps14
    go_wp2_with (first
      | (go_at_call 23; refine (c1 _).mono ?_; rintro e w1 ⟨rfl, hb1⟩)
      | (go_at_call 27; refine (hpt _ (hM.on hb1)).mono ?_; rintro e w2 ⟨rfl, rfl⟩))
    go_loopw [13] (fun i wr => ∃ k : Nat, k ≤ L.length ∧ i = .int .i64 k ∧ wr.heap[w1.heap.size]? = some (.cells (lvs L).toArray 9 (0, 0)) ∧ Below w1.heap.size w1 wr ∧ Hid (fitsAll (L.drop k) = fitsAll L)) (fun i _ => L.length - (RowKit.intOf i).toNat)
    case atStart => exact ⟨0, Nat.zero_le _, rfl, heap_alloc_new _ _, (Below.refl _ _).alloc (Nat.le_refl _) _, Lib.hid rfl⟩
    case round =>
      obtain ⟨k, hk, rfl, hblk, hbx, hf⟩ := hrel
      by_cases hlt : k < L.length
      · have hcell : wr.cell? ⟨w1.heap.size, k, none⟩ = some (.string (bs L[k])) := by
          rw [cell_of_row wr w1.heap.size k _ _ _ hblk, lvs_get, List.getElem?_eq_getElem hlt]; rfl
        have hst := fitsAll_drop L k hlt
        have hxl := hel.out L[k] (List.getElem_mem hlt)
        generalize L[k] = x at *
        rw [size_list] at hxl
        have cf := fun W => fits_any x ((k : Int) == (L.length : Int) - 1) W (by omega)
        have B1 := thn hb1 hbx
        clear hb1
        have hkl : (k : Int) < (L.length : Int) := by omega
        have hwr : IntKind.i64.wrap ((L.length : Int) - 1) = (L.length : Int) - 1 := IntWalk.i64_in _ (by omega)
        rcases hfp : fitsP x ((k : Int) == (L.length : Int) - 1) with _ | _
        · rw [hfp] at cf hst
          have hfin := Lib.hid (show fitsAll L = false by rw [← hf.out, hst]; rfl)
          clear hst hfp hf
          go_wp2_with (go_at_call 28; refine (cf _).mono ?_; rintro e w3 ⟨rfl, hb3⟩)
          go_ret
          exact ⟨ret_bool (by rw [R.out, hfin.out]), thn B1 hb3⟩
        · rw [hfp] at cf hst
          have hfin := Lib.hid (show fitsAll (L.drop (k + 1)) = fitsAll L by rw [← hf.out, hst]; rfl)
          clear hst hfp hf
          go_wp2_with (go_at_call 28; refine (cf _).mono ?_; rintro e w3 ⟨rfl, hb3⟩)
          go_roundw
          case rel => exact ⟨k + 1, by omega, by go_num, heap_below hb3 hblk, thn hbx hb3, hfin⟩
          case measure => simp [RowKit.intOf]; omega
      · have hkl : ¬ (k : Int) < (L.length : Int) := by omega
        go_wp2
        go_ret
        have hf := hf.out
        rw [List.drop_of_length_le (by omega)] at hf
        exact ⟨ret_bool (by rw [R.out, ← hf]; rfl), thn hb1 hbx⟩

end Go.Proofs.YtdnbkllofbnpoaaDoor
