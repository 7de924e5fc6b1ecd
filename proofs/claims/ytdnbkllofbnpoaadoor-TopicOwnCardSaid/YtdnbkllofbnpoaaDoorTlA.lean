/- The law TopicAll: its walk. -/
import Derived.Test.YtdnbkllofbnpoaaDoorTh
namespace Go.Proofs.YtdnbkllofbnpoaaDoor
open Go.RowKit Go.Lib
set_option linter.unusedVariables false

theorem name_has {n : List UInt8} (h : nameP n = true) : n.contains 43 = false ∧ n.contains 35 = false := by
  unfold nameP wildP at h
  rw [Bool.and_eq_true, Bool.not_eq_true', Bool.or_eq_false_iff] at h
  exact h.2
theorem name_level {n : List UInt8} (h : nameP n = true) : ∀ y ∈ lev n, y.contains 43 = false ∧ y.contains 35 = false := by
  obtain ⟨h1, h2⟩ := name_has h
  intro y hy
  constructor
  · rcases q : y.contains 43 with _ | _
    · rfl
    · have := lev_mem 43 n y hy (by simpa using q)
      rw [show n.contains 43 = true by simpa using this] at h1
      exact absurd h1 (by simp)
  · rcases q : y.contains 35 with _ | _
    · rfl
    · have := lev_mem 35 n y hy (by simpa using q)
      rw [show n.contains 35 = true by simpa using this] at h2
      exact absurd h2 (by simp)
theorem fitsAll_plain : ∀ L : List (List UInt8), (∀ y ∈ L, y.contains 43 = false ∧ y.contains 35 = false) → fitsAll L = true
  | [], _ => rfl
  | x :: r, h => by
    obtain ⟨a, b⟩ := h x (by simp)
    unfold fitsAll fitsP
    rw [a, b, fitsAll_plain r (fun y hy => h y (List.mem_cons_of_mem _ hy))]
    rfl
/-- Each name is a filter. -/
theorem name_filt {n : List UInt8} (h : nameP n = true) : filtP n = true := by
  unfold filtP
  rw [name_text h, fitsAll_plain _ (name_level h)]
  rfl
theorem match_no {f n : List UInt8} (h : nameP n = false) : matchP f n = false := by unfold matchP; rw [h]; simp
theorem match_hash {n : List UInt8} (h : nameP n = true) : matchP [35] n = !dolP n := by
  unfold matchP coversP
  rw [h, show filtP [35] = true by decide +kernel, show lev [35] = [[35]] from rfl]
  show (!(dolP n && true) && covP [[35]] (lev n)) = _
  rw [Bool.and_true]
  show (!dolP n && true) = _
  rw [Bool.and_true]
theorem match_plus {n : List UInt8} (h : nameP n = true) : matchP [43] n = (!dolP n && decide ((lev n).length = 1)) := by
  unfold matchP coversP
  rw [h, show filtP [43] = true by decide +kernel, show lev [43] = [[43]] from rfl]
  show (!(dolP n && true) && covP [[43]] (lev n)) = _
  rw [Bool.and_true]
  congr 1
  have hl := name_lev h
  rcases q : lev n with _ | ⟨y, r⟩
  · exact absurd q (lev_ne n)
  · have hy := hl y (by rw [q]; simp)
    show (false || (covLev [43] y && r.isEmpty)) = _
    unfold covLev
    rw [hy]
    cases r <;> simp
theorem match_both {n : List UInt8} (h : nameP n = true) : matchP [43, 47, 35] n = !dolP n := by
  unfold matchP coversP
  rw [h, show filtP [43, 47, 35] = true by decide +kernel, show lev [43, 47, 35] = [[43], [35]] from rfl]
  show (!(dolP n && true) && covP [[43], [35]] (lev n)) = _
  rw [Bool.and_true]
  have hl := name_lev h
  rcases q : lev n with _ | ⟨y, r⟩
  · exact absurd q (lev_ne n)
  · have hy := hl y (by rw [q]; simp)
    show (!dolP n && (false || (covLev [43] y && true))) = _
    unfold covLev
    rw [hy]
    simp

set_option maxRecDepth 100000 in
set_option maxHeartbeats 4000000 in
theorem tall_walk (raw : ByteArray) (A : Option Addr) (c : Nat) (l : List UInt8) (w : World) (hM : MaxAt w) (hs : raw.size ≤ maxLen) (hv : BytesAt w w.heap.size (.slice A l.length c) l) :
    Calls Tryd.prog 7 #[.string raw, .slice A l.length c] w fun e w' => e = .returned (.bool true) ∧ Below w.heap.size w w' := by
  have HV := Lib.hid hv
  clear hv
  by_cases h1 : 60 < raw.size
  · go_enter Tryd.func7, Tryd.ntmps7
    go_wp2_with fail
    refine (known6_any _ hM).mono ?_
    rintro e w1 ⟨rfl, hb1⟩
    go_wp2_with fail
    go_ret
    exact ⟨rfl, hb1⟩
  by_cases h2 : 20 < l.length
  · go_enter Tryd.func7, Tryd.ntmps7
    go_wp2_with fail
    refine (known6_any _ hM).mono ?_
    rintro e w1 ⟨rfl, hb1⟩
    go_wp2_with fail
    go_ret
    exact ⟨rfl, hb1⟩
  obtain ⟨r, rfl⟩ : ∃ r : List UInt8, raw = bs r := ⟨raw.data.toList, (bs_list raw).symm⟩
  have h1' : r.length ≤ 60 := by rw [bs_size] at h1; omega
  have hpl := Lib.hid (pieceL_len l)
  go_enter Tryd.func7, Tryd.ntmps7
  go_wp2_with fail
  refine (known6_any _ hM).mono ?_
  rintro e w1 ⟨rfl, hb1⟩
  go_wp2_with fail
  refine (pieces_any _ l _ (HV.out.on hb1) (by omega)).mono ?_
  rintro e w2 ⟨rfl, hb2⟩
  have B2 := thn hb1 hb2
  clear hb1 hb2
  go_wp2_with fail
  go_loopw [24] (fun i wr => ∃ k : Nat, k ≤ 2 ∧ i = .int .i64 k ∧ wr.heap[w2.heap.size]? = some (.cells #[.string (bs r), .string (bs (pieceL l))] 9 (0, 0)) ∧ Below w2.heap.size w2 wr) (fun i _ => 2 - (RowKit.intOf i).toNat)
  case atStart => exact ⟨0, by omega, rfl, heap_alloc_new _ _, alB (Below.refl _ _) _⟩
  case round =>
    obtain ⟨k, hk, rfl, hblk, hbx⟩ := hrel
    by_cases hlt : k < 2
    · obtain ⟨x, hX, hx⟩ : ∃ x : List UInt8, wr.cell? ⟨w2.heap.size, k, none⟩ = some (.string (bs x)) ∧ x.length ≤ 100 := by
        rw [cell_of_row wr w2.heap.size k _ _ _ hblk]
        match k, hlt with
        | 0, _ => exact ⟨r, rfl, by omega⟩
        | 1, _ => exact ⟨pieceL l, rfl, by have := hpl.out; omega⟩
      have HBK := Lib.hid hblk
      clear hblk
      have hM2 := hM.on (thn B2 hbx)
      have hsx : (bs x).size ≤ 1000000 := by rw [bs_size]; omega
      have cN := fun W => rname_any (bs x) W hsx
      have cN2 := fun W => name_any (bs x) W hsx
      have cF := fun W hM => filter_any (bs x) W hM hsx
      have cL := fun W => rlev_any (bs x) W hsx
      have cM1 := fun W hM => match_any ⟨#[35]⟩ (bs x) W hM (by decide) hsx
      have cM2 := fun W hM => match_any ⟨#[43]⟩ (bs x) W hM (by decide) hsx
      have cM3 := fun W hM => match_any ⟨#[43, 47, 35]⟩ (bs x) W hM (by decide) hsx
      rw [bs_data] at cN cN2 cF cL cM1 cM2 cM3
      rw [show (⟨#[35]⟩ : ByteArray).data.toList = [35] from rfl] at cM1
      rw [show (⟨#[43]⟩ : ByteArray).data.toList = [43] from rfl] at cM2
      rw [show (⟨#[43, 47, 35]⟩ : ByteArray).data.toList = [43, 47, 35] from rfl] at cM3
      have hpos := lev_pos x
      rcases hn : nameP x with _ | _
      · rw [hn] at cN cN2
        rw [match_no hn] at cM1 cM2 cM3
        clear hn cL cF
        go_wp2_with (first
          | (go_at_call 13; refine (cN _).mono ?_; rintro e w3 ⟨rfl, hb3⟩)
          | (go_at_call_of 19 (Value.string ⟨#[35]⟩); refine (cM1 _ (hM2.on hb3)).mono ?_; rintro e w4 ⟨rfl, hb4⟩)
          | (go_at_call_of 19 (Value.string ⟨#[43]⟩); refine (cM2 _ (hM2.on (thn hb3 hb4))).mono ?_; rintro e w5 ⟨rfl, hb5⟩)
          | (go_at_call_of 19 (Value.string ⟨#[43, 47, 35]⟩); refine (cM3 _ (hM2.on (thn (thn hb3 hb4) hb5))).mono ?_; rintro e w6 ⟨rfl, hb6⟩)
          | (go_at_call 12; refine (cN2 _).mono ?_; rintro e w7 ⟨rfl, hb7⟩))
        have BB := thn (thn (thn (thn hb3 hb4) hb5) hb6) hb7
        go_roundw
        case rel => exact ⟨k + 1, by omega, by go_num, heap_below BB HBK.out, thn hbx BB⟩
        case measure => (simp [RowKit.intOf]; try omega)
      · have hfl := name_filt hn
        obtain ⟨s0, st, hst⟩ := first_of (bs x) (by rw [bs_data]; exact name_text hn)
        rw [bs_data] at hst
        have hd' : ∀ b0 : UInt8, x = b0 :: st → dolP x = (b0 == 36) := fun b0 h => by rw [h, dol_cons]
        have hd := hd' _ hst
        clear hd'
        rw [match_hash hn] at cM1
        rw [match_plus hn] at cM2
        rw [match_both hn] at cM3
        rw [hn] at cN cN2
        rw [hfl] at cF
        have b36 := byte_eqL (bs x)[0] 36 (by decide)
        rw [show UInt8.ofNat 36 = 36 from rfl, ← hd] at b36
        have b36 : (((bs x)[0].toNat : Int) == 36) = dolP x := b36
        have b36n : (((bs x)[0].toNat : Int) != 36) = !dolP x := by unfold bne; rw [b36]
        clear hn hfl hst hd
        have s0' : (0 : Int) < ((bs x).size : Int) := by omega
        have hone : (((lev x).length : Int) == 1) = decide ((lev x).length = 1) := by rw [Bool.eq_iff_iff, beq_iff_eq, decide_eq_true_eq]; omega
        generalize decide ((lev x).length = 1) = o at *
        generalize lev x = L at *
        generalize dolP x = d at *
        cases d
        · cases o
          all_goals
            go_wp2_with (first
              | (go_at_call 13; refine (cN _).mono ?_; rintro e w3 ⟨rfl, hb3⟩)
              | (go_at_call_of 19 (Value.string ⟨#[35]⟩); refine (cM1 _ (hM2.on hb3)).mono ?_; rintro e w4 ⟨rfl, hb4⟩)
              | (go_at_call_of 19 (Value.string ⟨#[43]⟩); refine (cM2 _ (hM2.on (thn hb3 hb4))).mono ?_; rintro e w5 ⟨rfl, hb5⟩)
              | (go_at_call 18; refine (cL _).mono ?_; rintro e w5' ⟨v, rfl, hown, hb5'⟩; obtain ⟨g, cap, rfl, _⟩ := row_form hown (by omega))
              | (go_at_call_of 19 (Value.string ⟨#[43, 47, 35]⟩); refine (cM3 _ (hM2.on (thn (thn (thn hb3 hb4) hb5) hb5'))).mono ?_; rintro e w6 ⟨rfl, hb6⟩)
              | (go_at_call 12; refine (cN2 _).mono ?_; rintro e w7 ⟨rfl, hb7⟩)
              | (go_at_call 14; refine (cF _ (hM2.on (thn (thn (thn (thn (thn hb3 hb4) hb5) hb5') hb6) hb7))).mono ?_; rintro e w8 ⟨rfl, hb8⟩))
            have BB := thn (thn (thn (thn (thn (thn hb3 hb4) hb5) hb5') hb6) hb7) hb8
            go_roundw
            case rel => exact ⟨k + 1, by omega, by go_num, heap_below BB HBK.out, thn hbx BB⟩
            case measure => (simp [RowKit.intOf]; try omega)
        · go_wp2_with (first
            | (go_at_call 13; refine (cN _).mono ?_; rintro e w3 ⟨rfl, hb3⟩)
            | (go_at_call_of 19 (Value.string ⟨#[35]⟩); refine (cM1 _ (hM2.on hb3)).mono ?_; rintro e w4 ⟨rfl, hb4⟩)
            | (go_at_call_of 19 (Value.string ⟨#[43]⟩); refine (cM2 _ (hM2.on (thn hb3 hb4))).mono ?_; rintro e w5 ⟨rfl, hb5⟩)
            | (go_at_call_of 19 (Value.string ⟨#[43, 47, 35]⟩); refine (cM3 _ (hM2.on (thn (thn hb3 hb4) hb5))).mono ?_; rintro e w6 ⟨rfl, hb6⟩)
            | (go_at_call 12; refine (cN2 _).mono ?_; rintro e w7 ⟨rfl, hb7⟩)
            | (go_at_call 14; refine (cF _ (hM2.on (thn (thn (thn (thn hb3 hb4) hb5) hb6) hb7))).mono ?_; rintro e w8 ⟨rfl, hb8⟩))
          have BB := thn (thn (thn (thn (thn hb3 hb4) hb5) hb6) hb7) hb8
          go_roundw
          case rel => exact ⟨k + 1, by omega, by go_num, heap_below BB HBK.out, thn hbx BB⟩
          case measure => (simp [RowKit.intOf]; try omega)
    · have hkl : ¬ (k : Int) < 2 := by omega
      go_wp2
      go_ret
      exact ⟨rfl, thn B2 hbx⟩
end Go.Proofs.YtdnbkllofbnpoaaDoor
