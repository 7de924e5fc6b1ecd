/- The document's levels, and whether a byte stands in a text. -/
import Derived.Test.YtdnbkllofbnpoaaDoorTp3
import Derived.Deep.RegionHeld3
import Derived.Laws.OwnMore
namespace Go.Proofs.YtdnbkllofbnpoaaDoor
open Go.RowKit Go.Lib
set_option linter.unusedVariables false

theorem at_list (s : ByteArray) (k : Nat) (h : k < s.size) : s.data.toList[k]? = some s[k] := by
  rw [Array.getElem?_toList]; exact Array.getElem?_eq_getElem h
theorem take_at (s : ByteArray) (k : Nat) (h : k < s.size) : s.data.toList.take (k + 1) = s.data.toList.take k ++ [s[k]] := by
  rw [List.take_add_one, at_list s k h]; rfl
theorem drop_at (s : ByteArray) (k : Nat) (h : k < s.size) : s.data.toList.drop k = s[k] :: s.data.toList.drop (k + 1) := by
  have hl : k < s.data.toList.length := by simpa using h
  rw [List.drop_eq_getElem_cons hl]
  congr 1
theorem byte_beq (a b : UInt8) : ((a.toNat : Int) == (b.toNat : Int)) = (b == a) := by
  rw [Bool.eq_iff_iff, beq_iff_eq, beq_iff_eq]
  exact ⟨fun h => (UInt8.toNat_inj.1 (by omega)).symm, fun h => by rw [h]⟩

set_option maxRecDepth 100000 in
set_option maxHeartbeats 400000 in
theorem has_any (s : ByteArray) (c : UInt8) (w : World) (hs : s.size ≤ 1000000) : Calls Tryd.prog 26 #[.string s, .int .u8 (c.toNat : Int)] w fun e w' => e = .returned (.bool (s.data.toList.contains c)) ∧ w' = w := by
  generalize hR : s.data.toList.contains c = R
  go_enter Tryd.func26, Tryd.ntmps26
  go_wp2_with fail
  go_loopw [5] (fun i wr => ∃ k : Nat, k ≤ s.size ∧ i = .int .i64 k ∧ wr = w ∧ Hid ((s.data.toList.drop k).contains c = R)) (fun i _ => s.size - (RowKit.intOf i).toNat)
  case atStart => exact ⟨0, Nat.zero_le _, rfl, rfl, Lib.hid hR⟩
  case round =>
    obtain ⟨k, hk, rfl, rfl, hf⟩ := hrel
    by_cases hlt : k < s.size
    · have hkl : (k : Int) < (s.size : Int) := by omega
      have hst := drop_at s k hlt
      have hbb := byte_beq s[k] c
      rcases hc : c == s[k] with _ | _
      · have hfin := Lib.hid (show (s.data.toList.drop (k + 1)).contains c = R by rw [← hf.out, hst, List.contains_cons, hc]; rfl)
        rw [hc] at hbb
        clear hst hc hf hR
        go_wp2
        go_roundw
        case rel => exact ⟨k + 1, by omega, by go_num, trivial, hfin⟩
        case measure => simp [RowKit.intOf]; omega
      · have hfin := Lib.hid (show R = true by rw [← hf.out, hst, List.contains_cons, hc]; rfl)
        rw [hc] at hbb
        clear hst hc hf hR
        go_wp2
        go_ret
        exact ⟨ret_bool hfin.out.symm, rfl⟩
    · have hkl : ¬ (k : Int) < (s.size : Int) := by omega
      have hf := hf.out
      rw [List.drop_of_length_le (by simpa using hlt)] at hf
      have hfin := Lib.hid (show R = false by rw [← hf]; rfl)
      clear hf hR
      go_wp2
      go_ret
      exact ⟨ret_bool hfin.out.symm, rfl⟩

theorem lev_snoc47 : ∀ l : List UInt8, lev (l ++ [47]) = lev l ++ [[]]
  | [] => rfl
  | b :: t => by
    have ih := lev_snoc47 t
    show lev (b :: (t ++ [47])) = _
    unfold lev
    by_cases h : b = 47
    · rw [if_pos h, if_pos h, ih]; rfl
    · rw [if_neg h, if_neg h, ih]
      rcases hq : lev t with _ | ⟨q, Q⟩
      · exact absurd hq (lev_ne t)
      · rfl
theorem lev_snoc (c : UInt8) (hc : c ≠ 47) : ∀ (l : List UInt8) (P : List (List UInt8)) (x : List UInt8), lev l = P ++ [x] → lev (l ++ [c]) = P ++ [x ++ [c]]
  | [], P, x, h => by
    have h : [[]] = P ++ [x] := h
    have hl := congrArg List.length h
    simp at hl
    subst hl
    obtain rfl : [] = x := by simpa using h
    show lev [c] = _
    simp [lev, hc]
  | b :: t, P, x, h => by
    have hne := lev_ne t
    obtain ⟨Q, y, hQ⟩ : ∃ Q y, lev t = Q ++ [y] := ⟨(lev t).dropLast, (lev t).getLast hne, (List.dropLast_concat_getLast hne).symm⟩
    have ih := lev_snoc c hc t Q y hQ
    show lev (b :: (t ++ [c])) = _
    unfold lev at h ⊢
    rw [ih]
    rw [hQ] at h
    by_cases hb : b = 47
    · rw [if_pos hb] at h ⊢
      have h2 : ([] :: Q) ++ [y] = P ++ [x] := h
      have hl := List.append_inj' h2 rfl
      obtain ⟨rfl, h3⟩ := hl
      obtain rfl : y = x := by simpa using h3
      rfl
    · rw [if_neg hb] at h ⊢
      cases Q with
      | nil =>
        have h2 : [] ++ [b :: y] = P ++ [x] := h
        obtain ⟨rfl, h3⟩ := List.append_inj' h2 rfl
        obtain rfl : b :: y = x := by simpa using h3
        rfl
      | cons q Q =>
        have h2 : ((b :: q) :: Q) ++ [y] = P ++ [x] := h
        obtain ⟨rfl, h3⟩ := List.append_inj' h2 rfl
        obtain rfl : y = x := by simpa using h3
        rfl

theorem Tryd.infoStr : (Tryd.prog.info? 9).map (fun i => (i.zero, i.size, i.bytes)) = some (some (.string ByteArray.empty), 1, 16) := by kernel_rfl
theorem lvs_append (A B : List (List UInt8)) : lvs (A ++ B) = lvs A ++ lvs B := List.map_append
theorem lvs_len (A : List (List UInt8)) : (lvs A).length = A.length := List.length_map ..
theorem extract_one (s : ByteArray) (k : Nat) (h : k < s.size) : s.extract k (k + 1) = bs [s[k]] := by
  apply ByteArray.ext
  apply Array.toList_inj.1
  rw [ByteArray.data_extract, Array.toList_extract]
  show List.take (k + 1 - k) (List.drop k s.data.toList) = [s[k]]
  rw [drop_at s k h, Nat.add_sub_cancel_left]
  rfl
theorem bs_append (a b : List UInt8) : bs a ++ bs b = bs (a ++ b) := by
  apply ByteArray.ext
  apply Array.toList_inj.1
  rw [ByteArray.data_append, Array.toList_append, bs_data, bs_data, bs_data]

theorem lit_cells (w : World) (t : TypeId) (news : List Value) (C : Array Value) (hC : C = news.toArray) : ∀ j u, news[j]? = some u → (w.alloc (.cells C t)).cell? (Addr.add ⟨w.heap.size, 0, none⟩ j) = some u := by
  intro j u hj
  rw [show (Addr.add ⟨w.heap.size, 0, none⟩ j) = ⟨w.heap.size, j, none⟩ by simp [Addr.add]; exact fun h => h.symm]
  rw [cell_of_row (w.alloc (.cells C t)) w.heap.size j C t (0, 0) (heap_alloc_new w _), hC]
  simpa using hj
theorem row_form {w : World} {base n : Nat} {v : Value} {xs : List Value} (h : w.ownsRow base 9 1 v n xs) (hn : 0 < n) : ∃ g cap : Nat, v = .slice (some ⟨g, 0, none⟩) n cap ∧ base ≤ g ∧ n ≤ cap ∧ cap ≤ maxLen := by
  rcases h.2 with ⟨_, h0⟩ | ⟨g, cap, cur, hv, hg, _, hc, hm, _⟩
  · omega
  · exact ⟨g, cap, hv, hg, hc, hm⟩
theorem lvs_set (P : List (List UInt8)) (x y : List UInt8) : (lvs (P ++ [x])).set P.length (.string (bs y)) = lvs (P ++ [y]) := by
  rw [lvs_append, lvs_append, List.set_append, lvs_len, if_neg (by omega), Nat.sub_self]
  rfl

set_option maxRecDepth 100000 in
set_option maxHeartbeats 1000000 in
theorem rlev_any (s : ByteArray) (w : World) (hs : s.size ≤ 1000000) : Calls Tryd.prog 18 #[.string s] w fun e w' => ∃ v, e = .returned v ∧ w'.ownsRow w.heap.size 9 1 v (lev s.data.toList).length (lvs (lev s.data.toList)) ∧ Below w.heap.size w w' := by
  obtain ⟨i0, hi, hz0, hz1, hz2⟩ := info_parts Tryd.infoStr
  go_enter Tryd.func18, Tryd.ntmps18
  go_wp2_with fail
  have own0 := World.ownsRow_lit (base := w.heap.size) (e := 9) (size := 1) w #[.string ⟨#[]⟩] 1 (Nat.le_refl _) (by decide) rfl
  go_loopw [3, 4] (fun v i wr => ∃ (k g cap : Nat) (P : List (List UInt8)) (x : List UInt8), k ≤ s.size ∧ i = .int .i64 k ∧ Hid (lev (s.data.toList.take k) = P ++ [x]) ∧ P.length ≤ k ∧ v = .slice (some ⟨g, 0, none⟩) (P.length + 1) cap ∧ w.heap.size ≤ g ∧ P.length + 1 ≤ cap ∧ cap ≤ maxLen ∧ wr.ownsRow w.heap.size 9 1 (.slice (some ⟨g, 0, none⟩) (P.length + 1) cap) (P.length + 1) (lvs (P ++ [x])) ∧ Below w.heap.size w wr) (fun _ i _ => s.size - (RowKit.intOf i).toNat)
  case atStart => exact ⟨0, w.heap.size, 1, [], [], Nat.zero_le _, rfl, Lib.hid rfl, Nat.zero_le _, rfl, Nat.le_refl _, Nat.le_refl _, by decide, own0, alB (Below.refl _ _) _⟩
  case round =>
    obtain ⟨k, g, cap, P, x, hk, rfl, hL, hPk, rfl, hg, hcap, hmax, hown, hbx⟩ := hrel
    have hws := hbx.size
    by_cases hlt : k < s.size
    · have hkl : (k : Int) < (s.size : Int) := by omega
      have htk := Lib.hid (take_at s k hlt)
      have hxo := Lib.hid (extract_one s k hlt)
      generalize hb : s[k] = b at *
      by_cases h47 : b = 47
      · subst h47
        have hL2 := Lib.hid (show lev (s.data.toList.take (k + 1)) = (P ++ [x]) ++ [[]] by rw [htk.out, lev_snoc47, hL.out])
        have hbt : ((((47 : UInt8).toNat : Nat) : Int) == 47) = true := rfl
        clear hL htk hxo own0
        go_wp2_with (at_builtin; go_must (refine wpList_append_own _ rfl _ _ 26 rfl w.heap.size 9 i0 (.string ByteArray.empty) 1 16 Tryd.underlying26 hi hz0 hz1 hz2 rfl (by decide) _ _ _ rfl (hown.alloc _) ⟨_, 0, none⟩ 1 1 [.string ⟨#[]⟩] rfl rfl (lit_cells _ _ _ _ rfl) (by simp [Value.oneCell']) (by unfold maxLen; omega) (by omega) (by first | omega | (simp; done) | (simp; omega)) ?_))
        intro v1 w2 hown1 hgrow1 _
        have B1 := (alB hbx (.cells #[.string ⟨#[]⟩] 9)).grown hgrow1 (by simp; omega) (fun g' hg' => by simp [Value.ownBlock] at hg'; omega)
        obtain ⟨g2, cap2, rfl, hg2, hcap2, hmax2⟩ := row_form hown1 (by omega)
        have hown2 : w2.ownsRow w.heap.size 9 1 (.slice (some ⟨g2, 0, none⟩) ((P ++ [x]).length + 1) cap2) ((P ++ [x]).length + 1) (lvs ((P ++ [x]) ++ [[]])) := by
          rw [lvs_append, show lvs [[]] = [Value.string ⟨#[]⟩] from rfl]
          simpa using hown1
        clear hown1 hgrow1
        go_wp2
        go_roundw
        case rel => exact ⟨k + 1, g2, cap2, P ++ [x], [], by omega, by go_num, hL2, by simp; omega, by simp, hg2, by simpa using hcap2, hmax2, hown2, B1⟩
        case measure => simp [RowKit.intOf]; omega
      · have hbf : ((b.toNat : Int) == 47) = false := beq_eq_false_iff_ne.2 (fun e => h47 (UInt8.toNat_inj.1 (by rw [show (47 : UInt8).toNat = 47 from rfl]; omega)))
        have hL2 := Lib.hid (show lev (s.data.toList.take (k + 1)) = P ++ [x ++ [b]] by rw [htk.out, lev_snoc b h47 _ _ _ hL.out])
        have hcell : wr.cell? ⟨g, P.length, none⟩ = some (.string (bs x)) := by
          rw [hown.cellAt P.length (by omega), lvs_append, List.getElem?_append_right (by rw [lvs_len]; omega), lvs_len, Nat.sub_self]; rfl
        have hfr := hown.frozenAt P.length
        have hsz : (bs x).size + (s.extract k (k + 1)).size ≤ 9223372036854775807 := by
          have h1 := lev_elem_le (s.data.toList.take k) x (by rw [hL.out]; simp)
          have h2 : (s.extract k (k + 1)).size = 1 := by rw [hxo.out, bs_size]; rfl
          rw [List.length_take] at h1
          rw [bs_size, h2]
          omega
        obtain ⟨hst1, hst2⟩ := hown.stored P.length (.string (bs (x ++ [b])))
        rw [lvs_set] at hst1
        have hsum : bs x ++ s.extract k (k + 1) = bs (x ++ [b]) := by rw [hxo.out, bs_append]
        have B1 := hbx.grown hst2 hws (fun g' hg' => by simp at hg'; omega)
        clear hL htk hxo hown own0
        go_wp2
        go_region
        go_wp2
        go_roundw
        case rel => exact ⟨k + 1, g, cap, P, x ++ [b], by omega, by go_num, hL2, by omega, rfl, hg, hcap, hmax, hst1.drew, B1.drew⟩
        case measure => simp [RowKit.intOf]; omega
    · have hkl : ¬ (k : Int) < (s.size : Int) := by omega
      have hL := hL.out
      rw [List.take_of_length_le (by simpa using hlt)] at hL
      have HL := Lib.hid hL
      clear hL
      go_wp2
      go_ret
      refine ⟨_, rfl, ?_, hbx⟩
      rw [HL.out]
      simpa using hown
end Go.Proofs.YtdnbkllofbnpoaaDoor
