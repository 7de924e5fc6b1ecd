/- The document's Filter, Match, Within; that they are as the program's. Written by gen_tr4.py. -/
import Derived.Test.YtdnbkllofbnpoaaDoorTr3
namespace Go.Proofs.YtdnbkllofbnpoaaDoor
open Go.RowKit Go.Lib
set_option linter.unusedVariables false

set_option maxRecDepth 100000 in
set_option maxHeartbeats 4000000 in
theorem rfilter_any (s : ByteArray) (w : World) (hs : s.size ≤ 1000000) :
    Calls Tryd.prog 15 #[.string s] w fun e w' => e = .returned (.bool (filtP s.data.toList)) ∧ Below w.heap.size w w' := by
  have c1 := fun W => rtext_any s W hs
  rcases ht : textP s.data.toList with _ | _
  · have R := Lib.hid (show filtP s.data.toList = false by unfold filtP; rw [ht]; rfl)
    rw [ht] at c1
    clear ht
    go_enter Tryd.func15, Tryd.ntmps15
    go_wp2_with (go_at_call 25; refine (c1 _).mono ?_; rintro e w1 ⟨rfl, hb1⟩)
    go_ret
    exact ⟨ret_bool R.out.symm, hb1⟩
  · have R := Lib.hid (show filtP s.data.toList = fitsAll (lev s.data.toList) by unfold filtP; rw [ht]; rfl)
    rw [ht] at c1
    clear ht
    have hle := lev_le s.data.toList
    have hpos := lev_pos s.data.toList
    have hel := Lib.hid (lev_elem_le s.data.toList)
    have hpt := fun W => rlev_any s W hs
    rw [size_list] at hle
    generalize lev s.data.toList = L at *
    go_enter Tryd.func15, Tryd.ntmps15
    go_wp2_with (first
      | (go_at_call 25; refine (c1 _).mono ?_; rintro e w1 ⟨rfl, hb1⟩)
      | (go_at_call 18; refine (hpt _).mono ?_; rintro e w2 ⟨v2, rfl, hown, hb2⟩; obtain ⟨g, cap, rfl, hg, hcp, hmx⟩ := row_form hown (by omega)))
    have hcl : ∀ k (h : k < L.length), w2.cell? ⟨g, k, none⟩ = some (.string (bs L[k])) := fun k h => by
      rw [hown.cellAt k (by omega)]
      unfold lvs
      rw [List.getElem?_map, List.getElem?_eq_getElem h]
      rfl
    have HC := Lib.hid hcl
    clear hcl
    have B2 := thn hb1 hb2
    clear hb1 hb2 c1 hpt hown
    go_loopw [4] (fun i wr => ∃ k : Nat, k ≤ L.length ∧ i = .int .i64 k ∧ wr = w2 ∧ Hid (fitsAll (L.drop k) = fitsAll L)) (fun i _ => L.length - (RowKit.intOf i).toNat)
    case atStart => exact ⟨0, Nat.zero_le _, rfl, rfl, Lib.hid rfl⟩
    case round =>
      obtain ⟨k, hk, rfl, rfl, hf⟩ := hrel
      by_cases hlt : k < L.length
      · have hcell := HC.out k hlt
        have hst := fitsAll_drop L k hlt
        have hxl := hel.out L[k] (List.getElem_mem hlt)
        generalize L[k] = x at *
        rw [size_list] at hxl
        have ex : (bs x).toList = x := bs_toList x
        have ch43 := fun W => has_any (bs x) 43 W (by rw [bs_size]; omega)
        have ch35 := fun W => has_any (bs x) 35 W (by rw [bs_size]; omega)
        rw [bs_data] at ch43 ch35
        have hkl : (k : Int) < (L.length : Int) := by omega
        have hwr : IntKind.i64.wrap ((L.length : Int) - 1) = (L.length : Int) - 1 := IntWalk.i64_in _ (by omega)
        have hn43 : (x != [43]) = !(x == [43]) := rfl
        have hn35 : (x != [35]) = !(x == [35]) := rfl
        have hfx : Hid (fitsP x ((k : Int) == (L.length : Int) - 1) = (!(x.contains 43 && !(x == [43])) && !(x.contains 35 && (!(x == [35]) || !((k : Int) == (L.length : Int) - 1))))) := Lib.hid rfl
        generalize x.contains 43 = A at *
        generalize x.contains 35 = B at *
        cases A with
        | false =>
          cases B with
          | false =>
            have hfin := Lib.hid (show fitsAll (L.drop (k + 1)) = fitsAll L by rw [← hf.out, hst, hfx.out]; simp)
            clear hst hf hfx HC
            go_wp2_with (first
              | (go_at_call_of 26 (Value.int .u8 43); refine (ch43 _).mono ?_; rintro e w3 ⟨rfl, rfl⟩)
              | (go_at_call_of 26 (Value.int .u8 35); refine (ch35 _).mono ?_; rintro e w4 ⟨rfl, rfl⟩))
            go_roundw
            case rel => exact ⟨k + 1, by omega, by go_num, trivial, hfin⟩
            case measure => simp [RowKit.intOf]; omega
          | true =>
            rcases hQ : x == [35] with _ | _
            · rw [hQ] at hfx hn35
              have hfin := Lib.hid (show fitsAll L = false by rw [← hf.out, hst, hfx.out]; rfl)
              clear hst hf hfx HC
              go_wp2_with (first
                | (go_at_call_of 26 (Value.int .u8 43); refine (ch43 _).mono ?_; rintro e w3 ⟨rfl, rfl⟩)
                | (go_at_call_of 26 (Value.int .u8 35); refine (ch35 _).mono ?_; rintro e w4 ⟨rfl, rfl⟩))
              go_ret
              exact ⟨ret_bool (by rw [R.out, hfin.out]), B2⟩
            · rw [hQ] at hfx hn35
              by_cases hl : (k : Int) = (L.length : Int) - 1
              · have hl2 : ((k : Int) == (L.length : Int) - 1) = true := beq_iff_eq.2 hl
                have hl3 : ¬ (k : Int) < (L.length : Int) - 1 := by omega
                rw [hl2] at hfx hst
                clear hl2 hl
                have hfin := Lib.hid (show fitsAll (L.drop (k + 1)) = fitsAll L by rw [← hf.out, hst, hfx.out]; simp)
                clear hst hf hfx HC
                go_wp2_with (first
                  | (go_at_call_of 26 (Value.int .u8 43); refine (ch43 _).mono ?_; rintro e w3 ⟨rfl, rfl⟩)
                  | (go_at_call_of 26 (Value.int .u8 35); refine (ch35 _).mono ?_; rintro e w4 ⟨rfl, rfl⟩))
                go_roundw
                case rel => exact ⟨k + 1, by omega, by go_num, trivial, hfin⟩
                case measure => simp [RowKit.intOf]; omega
              · have hl2 : ((k : Int) == (L.length : Int) - 1) = false := beq_eq_false_iff_ne.2 hl
                have hl3 : (k : Int) < (L.length : Int) - 1 := by omega
                rw [hl2] at hfx hst
                clear hl2 hl
                have hfin := Lib.hid (show fitsAll L = false by rw [← hf.out, hst, hfx.out]; rfl)
                clear hst hf hfx HC
                go_wp2_with (first
                  | (go_at_call_of 26 (Value.int .u8 43); refine (ch43 _).mono ?_; rintro e w3 ⟨rfl, rfl⟩)
                  | (go_at_call_of 26 (Value.int .u8 35); refine (ch35 _).mono ?_; rintro e w4 ⟨rfl, rfl⟩))
                go_ret
                exact ⟨ret_bool (by rw [R.out, hfin.out]), B2⟩
        | true =>
          rcases hP : x == [43] with _ | _
          · rw [hP] at hfx hn43
            have hfin := Lib.hid (show fitsAll L = false by rw [← hf.out, hst, hfx.out]; rfl)
            clear hst hf hfx HC
            go_wp2_with (first
              | (go_at_call_of 26 (Value.int .u8 43); refine (ch43 _).mono ?_; rintro e w3 ⟨rfl, rfl⟩)
              | (go_at_call_of 26 (Value.int .u8 35); refine (ch35 _).mono ?_; rintro e w4 ⟨rfl, rfl⟩))
            go_ret
            exact ⟨ret_bool (by rw [R.out, hfin.out]), B2⟩
          · rw [hP] at hfx hn43
            cases B with
            | false =>
              have hfin := Lib.hid (show fitsAll (L.drop (k + 1)) = fitsAll L by rw [← hf.out, hst, hfx.out]; simp)
              clear hst hf hfx HC
              go_wp2_with (first
                | (go_at_call_of 26 (Value.int .u8 43); refine (ch43 _).mono ?_; rintro e w3 ⟨rfl, rfl⟩)
                | (go_at_call_of 26 (Value.int .u8 35); refine (ch35 _).mono ?_; rintro e w4 ⟨rfl, rfl⟩))
              go_roundw
              case rel => exact ⟨k + 1, by omega, by go_num, trivial, hfin⟩
              case measure => simp [RowKit.intOf]; omega
            | true =>
              rcases hQ : x == [35] with _ | _
              · rw [hQ] at hfx hn35
                have hfin := Lib.hid (show fitsAll L = false by rw [← hf.out, hst, hfx.out]; rfl)
                clear hst hf hfx HC
                go_wp2_with (first
                  | (go_at_call_of 26 (Value.int .u8 43); refine (ch43 _).mono ?_; rintro e w3 ⟨rfl, rfl⟩)
                  | (go_at_call_of 26 (Value.int .u8 35); refine (ch35 _).mono ?_; rintro e w4 ⟨rfl, rfl⟩))
                go_ret
                exact ⟨ret_bool (by rw [R.out, hfin.out]), B2⟩
              · rw [hQ] at hfx hn35
                by_cases hl : (k : Int) = (L.length : Int) - 1
                · have hl2 : ((k : Int) == (L.length : Int) - 1) = true := beq_iff_eq.2 hl
                  have hl3 : ¬ (k : Int) < (L.length : Int) - 1 := by omega
                  rw [hl2] at hfx hst
                  clear hl2 hl
                  have hfin := Lib.hid (show fitsAll (L.drop (k + 1)) = fitsAll L by rw [← hf.out, hst, hfx.out]; simp)
                  clear hst hf hfx HC
                  go_wp2_with (first
                    | (go_at_call_of 26 (Value.int .u8 43); refine (ch43 _).mono ?_; rintro e w3 ⟨rfl, rfl⟩)
                    | (go_at_call_of 26 (Value.int .u8 35); refine (ch35 _).mono ?_; rintro e w4 ⟨rfl, rfl⟩))
                  go_roundw
                  case rel => exact ⟨k + 1, by omega, by go_num, trivial, hfin⟩
                  case measure => simp [RowKit.intOf]; omega
                · have hl2 : ((k : Int) == (L.length : Int) - 1) = false := beq_eq_false_iff_ne.2 hl
                  have hl3 : (k : Int) < (L.length : Int) - 1 := by omega
                  rw [hl2] at hfx hst
                  clear hl2 hl
                  have hfin := Lib.hid (show fitsAll L = false by rw [← hf.out, hst, hfx.out]; rfl)
                  clear hst hf hfx HC
                  go_wp2_with (first
                    | (go_at_call_of 26 (Value.int .u8 43); refine (ch43 _).mono ?_; rintro e w3 ⟨rfl, rfl⟩)
                    | (go_at_call_of 26 (Value.int .u8 35); refine (ch35 _).mono ?_; rintro e w4 ⟨rfl, rfl⟩))
                  go_ret
                  exact ⟨ret_bool (by rw [R.out, hfin.out]), B2⟩
      · have hkl : ¬ (k : Int) < (L.length : Int) := by omega
        clear HC
        go_wp2
        go_ret
        have hf := hf.out
        rw [List.drop_of_length_le (by omega)] at hf
        exact ⟨ret_bool (by rw [R.out, ← hf]; rfl), B2⟩
end Go.Proofs.YtdnbkllofbnpoaaDoor
