/- package topic: what covers what. -/
import Derived.Test.YtdnbkllofbnpoaaDoorTp2
namespace Go.Proofs.YtdnbkllofbnpoaaDoor
open Go.RowKit Go.Lib
set_option linter.unusedVariables false

theorem cov_end (F S : List (List UInt8)) (k : Nat) (h : k < F.length) (hs : S.length ≤ k) : covP (F.drop k) (S.drop k) = (F[k] == [35]) := by
  rw [List.drop_eq_getElem_cons h, List.drop_of_length_le hs]
  show (_ || false) = _
  rw [Bool.or_false]
theorem cov_step (F S : List (List UInt8)) (k : Nat) (h : k < F.length) (hs : k < S.length) : covP (F.drop k) (S.drop k) = (F[k] == [35] || (covLev F[k] S[k] && covP (F.drop (k + 1)) (S.drop (k + 1)))) := by
  rw [List.drop_eq_getElem_cons h, List.drop_eq_getElem_cons hs]
  rfl
theorem cov_nil (F S : List (List UInt8)) (k : Nat) (h : F.length ≤ k) (hk : k ≤ S.length) (hk2 : k ≤ F.length) : covP (F.drop k) (S.drop k) = ((F.length : Int) == (S.length : Int)) := by
  rw [List.drop_of_length_le h]
  show (S.drop k).isEmpty = _
  rw [Bool.eq_iff_iff, List.isEmpty_iff, List.drop_eq_nil_iff, beq_iff_eq]
  omega

theorem two_last (w : World) (a b : Obj) : ((w.alloc a).alloc b).heap[w.heap.size + 1]? = some b := by
  have h := heap_alloc_new (w.alloc a) b
  rw [show (w.alloc a).heap.size = w.heap.size + 1 by simp] at h
  exact h
theorem hasPrefix_dol (l : List UInt8) : Lib.hasPrefix l [36] = dolP l := by
  unfold dolP Lib.hasPrefix
  cases l with
  | nil => rfl
  | cons b t =>
    simp only [List.isPrefixOf, List.take_succ_cons, List.take_zero, Bool.and_true]
    rw [Bool.eq_iff_iff, beq_iff_eq, beq_iff_eq]
    simp [eq_comm]

set_option maxRecDepth 100000 in
set_option maxHeartbeats 4000000 in
theorem covers_any (f s : ByteArray) (w : World) (hM : MaxAt w) (hf : f.size ≤ 1000000) (hs : s.size ≤ 1000000) :
    Calls Tryd.prog 30 #[.string f, .string s] w fun e w' => e = .returned (.bool (coversP f.data.toList s.data.toList)) ∧ Below w.heap.size w w' := by
  have hpF := fun W hM => parted_any f W hM hf
  have hpS := fun W hM => parted_any s W hM hs
  have hFl := lev_le f.data.toList
  have hSl := lev_le s.data.toList
  have hF0 := lev_pos f.data.toList
  have hFel := Lib.hid (lev_elem_le f.data.toList)
  have R := Lib.hid (show coversP f.data.toList s.data.toList = (!(dolP s.data.toList && wildP ((lev f.data.toList).headD [])) && covP (lev f.data.toList) (lev s.data.toList)) from rfl)
  have hpre := fun W => Tryd.strings_HasPrefix s ⟨#[36]⟩ W
  rw [show (⟨#[36]⟩ : ByteArray).data.toList = [36] from rfl, hasPrefix_dol] at hpre
  rw [size_list] at hFl hSl
  have hM1 := fun o => hM.on ((Below.refl _ w).alloc (Nat.le_refl _) o)
  generalize lev f.data.toList = F at *
  generalize lev s.data.toList = S at *
  generalize dolP s.data.toList = d at *
  have hrow0 : ∀ o, ((w.alloc (.cells (lvs F).toArray 9)).alloc o).cell? ⟨w.heap.size, 0, none⟩ = some (.string (bs (F.headD []))) := fun o => by
    rw [cell_of_row _ w.heap.size 0 _ _ _ (heap_keep (heap_alloc_new _ _)), lvs_get]
    cases F with
    | nil => simp at hF0
    | cons x r => rfl
  have hx0 : (F.headD []).length ≤ 1000000 := by
    cases F with
    | nil => simp at hF0
    | cons x r => have := hFel.out x (by simp); rw [size_list] at this; exact Nat.le_trans this hf
  have hwl := fun W => hasWild_any (bs (F.headD [])) W (by rw [bs_size]; exact hx0)
  rw [bs_data] at hwl
  have hF0' : (0 : Int) < (F.length : Int) := by omega
  generalize wildP (F.headD []) = q at *
  generalize F.headD [] = x0 at *
  by_cases hdq : d = true ∧ q = true
  · obtain ⟨rfl, rfl⟩ := hdq
    go_enter Tryd.func30, Tryd.ntmps30
    go_wp2_with fail
    refine (hpF _ hM).mono ?_
    rintro e w1 ⟨rfl, rfl⟩
    go_wp2_with fail
    refine (hpS _ (hM1 _)).mono ?_
    rintro e w2 ⟨rfl, rfl⟩
    have hr0 := hrow0 (.cells (lvs S).toArray 9)
    go_wp2_with (first
      | (go_at_call 37; refine (hpre _).mono ?_; rintro e w3 ⟨rfl, rfl⟩)
      | (go_at_call 24; refine (hwl _).mono ?_; rintro e w4 ⟨rfl, hb4⟩))
    go_ret
    exact ⟨ret_bool (by rw [R.out]; rfl), thn (alB (alB (Below.refl _ _) _) _) hb4⟩
  · have R2 := Lib.hid (show coversP f.data.toList s.data.toList = covP F S by rw [R.out]; cases d <;> cases q <;> simp_all)
    clear R
    go_enter Tryd.func30, Tryd.ntmps30
    go_wp2_with fail
    refine (hpF _ hM).mono ?_
    rintro e w1 ⟨rfl, rfl⟩
    go_wp2_with fail
    refine (hpS _ (hM1 _)).mono ?_
    rintro e w2 ⟨rfl, rfl⟩
    have hr0 := hrow0 (.cells (lvs S).toArray 9)
    cases d <;> cases q
    all_goals first | (exact absurd ⟨rfl, rfl⟩ hdq) | skip
    all_goals go_wp2_with (first
      | (go_at_call 37; refine (hpre _).mono ?_; rintro e w3 ⟨rfl, rfl⟩)
      | (go_at_call 24; refine (hwl _).mono ?_; rintro e w4 ⟨rfl, hb4⟩))
    all_goals go_loopw [23] (fun i wr => ∃ k : Nat, k ≤ F.length ∧ k ≤ S.length ∧ i = .int .i64 k ∧ wr.heap[w.heap.size]? = some (.cells (lvs F).toArray 9 (0, 0)) ∧ wr.heap[w.heap.size + 1]? = some (.cells (lvs S).toArray 9 (0, 0)) ∧ Below w.heap.size w wr ∧ Hid (covP (F.drop k) (S.drop k) = covP F S)) (fun i _ => F.length - (RowKit.intOf i).toNat)
    case atStart => first
      | exact ⟨0, Nat.zero_le _, Nat.zero_le _, rfl, heap_keep (heap_alloc_new _ _), two_last _ _ _, alB (alB (Below.refl _ _) _) _, Lib.hid rfl⟩
      | exact ⟨0, Nat.zero_le _, Nat.zero_le _, rfl, heap_below hb4 (heap_keep (heap_alloc_new _ _)), heap_below hb4 (two_last _ _ _), thn (alB (alB (Below.refl _ _) _) _) hb4, Lib.hid rfl⟩
    case atStart => first
      | exact ⟨0, Nat.zero_le _, Nat.zero_le _, rfl, heap_keep (heap_alloc_new _ _), two_last _ _ _, alB (alB (Below.refl _ _) _) _, Lib.hid rfl⟩
      | exact ⟨0, Nat.zero_le _, Nat.zero_le _, rfl, heap_below hb4 (heap_keep (heap_alloc_new _ _)), heap_below hb4 (two_last _ _ _), thn (alB (alB (Below.refl _ _) _) _) hb4, Lib.hid rfl⟩
    case atStart => first
      | exact ⟨0, Nat.zero_le _, Nat.zero_le _, rfl, heap_keep (heap_alloc_new _ _), two_last _ _ _, alB (alB (Below.refl _ _) _) _, Lib.hid rfl⟩
      | exact ⟨0, Nat.zero_le _, Nat.zero_le _, rfl, heap_below hb4 (heap_keep (heap_alloc_new _ _)), heap_below hb4 (two_last _ _ _), thn (alB (alB (Below.refl _ _) _) _) hb4, Lib.hid rfl⟩
    all_goals
      clear hr0 hrow0 hpre hwl hpF hpS hM1
      try clear hb4
      obtain ⟨k, hk, hk2, rfl, hF, hS, hbx, hf⟩ := hrel
      by_cases hlt : k < F.length
      · have hcF : wr.cell? ⟨w.heap.size, k, none⟩ = some (.string (bs F[k])) := by
          rw [cell_of_row wr w.heap.size k _ _ _ hF, lvs_get, List.getElem?_eq_getElem hlt]; rfl
        have hkF : (k : Int) < (F.length : Int) := by omega
        have hend := cov_end F S k hlt
        have hstp := cov_step F S k hlt
        generalize F[k] = x at *
        have ex : (bs x).toList = x := bs_toList x
        rcases hx : x == [35] with _ | _
        · by_cases hls : k < S.length
          · have hcS : wr.cell? ⟨w.heap.size + 1, k, none⟩ = some (.string (bs S[k])) := by
              rw [cell_of_row wr (w.heap.size + 1) k _ _ _ hS, lvs_get, List.getElem?_eq_getElem hls]; rfl
            have hne : ((k : Int) == (S.length : Int)) = false := beq_eq_false_iff_ne.2 (by omega)
            have hkS : (k : Int) < (S.length : Int) := by omega
            have hst := hstp hls
            generalize S[k] = y at *
            have cl := fun W => coversLevel_any x y W
            rw [hx] at hst
            rcases hc : covLev x y with _ | _
            · rw [hc] at cl hst
              have hfin := Lib.hid (show covP F S = false by rw [← hf.out, hst]; rfl)
              clear hst hc hf hstp hend
              go_wp2_with (go_at_call 38; refine (cl _).mono ?_; rintro e w5 ⟨rfl, rfl⟩)
              go_ret
              exact ⟨ret_bool (by rw [R2.out, hfin.out]), hbx⟩
            · rw [hc] at cl hst
              have hfin := Lib.hid (show covP (F.drop (k + 1)) (S.drop (k + 1)) = covP F S by rw [← hf.out, hst]; rfl)
              clear hst hc hf hstp hend
              go_wp2_with (go_at_call 38; refine (cl _).mono ?_; rintro e w5 ⟨rfl, rfl⟩)
              go_roundw
              case rel => exact ⟨k + 1, by omega, by omega, by go_num, hF, hS, hbx, hfin⟩
              case measure => simp [RowKit.intOf]; omega
          · have hne : ((k : Int) == (S.length : Int)) = true := beq_iff_eq.2 (by omega)
            have hst := hend (by omega)
            rw [hx] at hst
            have hfin := Lib.hid (show covP F S = false by rw [← hf.out, hst])
            clear hst hf hstp hend
            go_wp2_with fail
            go_ret
            exact ⟨ret_bool (by rw [R2.out, hfin.out]), hbx⟩
        · have hfin := Lib.hid (show covP F S = true by
            rw [← hf.out]
            by_cases hls : k < S.length
            · rw [hstp hls, hx]; rfl
            · rw [hend (by omega), hx])
          clear hf hstp hend
          go_wp2_with fail
          go_ret
          exact ⟨ret_bool (by rw [R2.out, hfin.out]), hbx⟩
      · have hkl : ¬ (k : Int) < (F.length : Int) := by omega
        have hfin := Lib.hid (cov_nil F S k (by omega) hk2 hk)
        go_wp2
        go_ret
        exact ⟨ret_bool (by rw [R2.out, ← hf.out, hfin.out]), hbx⟩

set_option maxRecDepth 100000 in
set_option maxHeartbeats 1000000 in
theorem match_any (f s : ByteArray) (w : World) (hM : MaxAt w) (hf : f.size ≤ 1000000) (hs : s.size ≤ 1000000) :
    Calls Tryd.prog 19 #[.string f, .string s] w fun e w' => e = .returned (.bool (matchP f.data.toList s.data.toList)) ∧ Below w.heap.size w w' := by
  have c1 := fun W hM => filter_any f W hM hf
  have c2 := fun W => name_any s W hs
  have c3 := fun W hM => covers_any f s W hM hf hs
  have R := Lib.hid (show matchP f.data.toList s.data.toList = (filtP f.data.toList && nameP s.data.toList && coversP f.data.toList s.data.toList) from rfl)
  generalize filtP f.data.toList = a at *
  generalize nameP s.data.toList = b at *
  generalize coversP f.data.toList s.data.toList = c at *
  cases a <;> cases b <;> cases c
  all_goals
    go_enter Tryd.func19, Tryd.ntmps19
    go_wp2_with (first
      | (go_at_call 14; refine (c1 _ hM).mono ?_; rintro e w1 ⟨rfl, hb1⟩)
      | (go_at_call 12; refine (c2 _).mono ?_; rintro e w2 ⟨rfl, hb2⟩)
      | (go_at_call 30; refine (c3 _ (hM.on (thn hb1 hb2))).mono ?_; rintro e w3 ⟨rfl, hb3⟩))
    go_ret
    first
      | exact ⟨ret_bool (by rw [R.out]; rfl), thn (thn hb1 hb2) hb3⟩
      | exact ⟨ret_bool (by rw [R.out]; rfl), thn hb1 hb2⟩
      | exact ⟨ret_bool (by rw [R.out]; rfl), hb1⟩

set_option maxRecDepth 100000 in
set_option maxHeartbeats 1000000 in
theorem within_any (f s : ByteArray) (w : World) (hM : MaxAt w) (hf : f.size ≤ 1000000) (hs : s.size ≤ 1000000) :
    Calls Tryd.prog 21 #[.string f, .string s] w fun e w' => e = .returned (.bool (withinP f.data.toList s.data.toList)) ∧ Below w.heap.size w w' := by
  have c1 := fun W hM => filter_any f W hM hf
  have c2 := fun W hM => filter_any s W hM hs
  have c3 := fun W hM => covers_any s f W hM hs hf
  have R := Lib.hid (show withinP f.data.toList s.data.toList = (filtP f.data.toList && filtP s.data.toList && coversP s.data.toList f.data.toList) from rfl)
  generalize filtP f.data.toList = a at *
  generalize filtP s.data.toList = b at *
  generalize coversP s.data.toList f.data.toList = c at *
  cases a <;> cases b <;> cases c
  all_goals
    go_enter Tryd.func21, Tryd.ntmps21
    go_wp2_with fail
    refine (c1 _ hM).mono ?_
    rintro e w1 ⟨rfl, hb1⟩
    go_wp2_with (first
      | (go_at_call 14; refine (c2 _ (hM.on hb1)).mono ?_; rintro e w2 ⟨rfl, hb2⟩)
      | (go_at_call 30; refine (c3 _ (hM.on (thn hb1 hb2))).mono ?_; rintro e w3 ⟨rfl, hb3⟩))
    go_ret
    first
      | exact ⟨ret_bool (by rw [R.out]; rfl), thn (thn hb1 hb2) hb3⟩
      | exact ⟨ret_bool (by rw [R.out]; rfl), thn hb1 hb2⟩
      | exact ⟨ret_bool (by rw [R.out]; rfl), hb1⟩
end Go.Proofs.YtdnbkllofbnpoaaDoor
