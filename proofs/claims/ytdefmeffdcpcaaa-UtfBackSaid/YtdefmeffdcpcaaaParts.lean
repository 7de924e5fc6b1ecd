/- The law UtfParts: its walk. -/
import Derived.Test.YtdefmeffdcpcaaaCuts
import Derived.Test.YtdefmeffdcpcaaaEnc
namespace Go.Proofs.Ytdefmeffdcpcaaa
open Go.RowKit Go.Lib

attribute [local go_sem ↓] Go.wp_at_zero Go.wp_at_succ

theorem mixed_sl (v : Value) (l : List UInt8) (w : World) (hv : BytesAt w w.heap.size v l) (hl : l.length ≤ 100) :
    Calls Try.prog 10 #[v] w fun e w' => ∃ A c, e = .returned (.slice A (mixedL l).length c) ∧ BytesAt w' w'.heap.size (.slice A (mixedL l).length c) (mixedL l) ∧ Below w.heap.size w w' :=
  (mixed_any v l w hv hl).mono fun _ _ ⟨_, he, hb, hw⟩ => by
    obtain ⟨A, c, hv, _⟩ := id hb
    exact ⟨A, c, by rw [he, hv], by rw [← hv]; exact hb, hw⟩

theorem und {a b : World} (h : Below a.drew.heap.size a.drew b) : Below a.heap.size a b := (Below.refl _ _).drew.trans h

/-- What one text gives in this law. -/
theorem parts_facts (X : ByteArray) (k : Nat) (hX : X.size ≤ 1000) : ∃ (C D : ByteArray) (p r : Nat), p = C.size ∧ r ≤ 1000 ∧ C.size ≤ X.size ∧ X.extract 0 p = C ∧ X.extract p X.size = D ∧
    (∀ W, Calls Try.prog 14 #[.string X] W fun e w' => e = .returned (.int .i64 r) ∧ Below W.heap.size W w') ∧
    (∀ W, Calls Try.prog 17 #[.string X, .int .i64 (k % (r + 1) : Nat)] W fun e w' => e = .returned (.int .i64 p) ∧ Below W.heap.size W w') ∧
    (∀ W, Calls Try.prog 19 #[.string X, .int .i64 (k % (r + 1) : Nat)] W fun e w' => e = .returned (.string C) ∧ Below W.heap.size W w') ∧
    (∀ W, Calls Try.prog 14 #[.string C] W fun e w' => e = .returned (.int .i64 (k % (r + 1) : Nat)) ∧ Below W.heap.size W w') ∧
    ∀ W, Calls Try.prog 14 #[.string D] W fun e w' => e = .returned (.int .i64 ((r : Int) - (k % (r + 1) : Nat))) ∧ Below W.heap.size W w' := by
  have hr := cnt_le X.data.toList
  rw [size_list] at hr
  have hn : k % (cnt X.data.toList + 1) ≤ cnt X.data.toList := by have := Nat.mod_lt k (show 0 < cnt X.data.toList + 1 by omega); omega
  have hp := place_le (k % (cnt X.data.toList + 1)) X.data.toList
  rw [size_list] at hp
  refine ⟨⟨(cutL (k % (cnt X.data.toList + 1)) X.data.toList).toArray⟩, X.extract (placeL (k % (cnt X.data.toList + 1)) X.data.toList) X.size, placeL (k % (cnt X.data.toList + 1)) X.data.toList, cnt X.data.toList, rfl, by omega, ?_, ?_, rfl, fun W => count_any X W (by omega), ?_, ?_, ?_, ?_⟩
  all_goals generalize k % (cnt X.data.toList + 1) = n at *
  all_goals have hcs : (⟨(cutL n X.data.toList).toArray⟩ : ByteArray).size = placeL n X.data.toList := rfl
  · rw [hcs]; exact hp
  · apply ByteArray.ext
    apply Array.toList_inj.1
    rw [ByteArray.data_extract, Array.toList_extract]
    show List.take (placeL n X.data.toList - 0) (List.drop 0 X.data.toList) = cutL n X.data.toList
    rw [List.drop_zero, Nat.sub_zero, ← cut_take]
  · intro W
    have h := place_any X n W (by omega)
    rw [show placeI (n : Int) X.data.toList = (placeL n X.data.toList : Int) by unfold placeI; rw [if_pos ⟨by omega, by omega⟩]; rfl] at h
    exact h
  · intro W
    have h := cutF_any X n W (by omega)
    rw [cutI_nat] at h
    exact h
  · intro W
    have h := count_any ⟨(cutL n X.data.toList).toArray⟩ W (by rw [hcs]; omega)
    rw [show (⟨(cutL n X.data.toList).toArray⟩ : ByteArray).data.toList = cutL n X.data.toList from rfl, cnt_cut, Nat.min_eq_left hn] at h
    exact h
  · intro W
    have h := count_any (X.extract (placeL n X.data.toList) X.size) W (by rw [ByteArray.size_extract]; omega)
    rw [ext_from] at h
    unfold from_ at h
    rw [cnt_rest, show ((cnt X.data.toList - n : Nat) : Int) = (cnt X.data.toList : Int) - (n : Int) by omega] at h
    exact h

set_option maxRecDepth 100000 in
set_option maxHeartbeats 1000000 in
theorem parts_walk (A0 A1 : Option Addr) (c0 c1 : Nat) (l0 l1 : List UInt8) (kk : Nat) (hkk : kk < 256) (w : World) (h0 : BytesAt w w.heap.size (.slice A0 l0.length c0) l0) (h1 : BytesAt w w.heap.size (.slice A1 l1.length c1) l1) :
    Calls Try.prog 5 #[.slice A0 l0.length c0, .slice A1 l1.length c1, .int .u8 kk] w fun e w' => e = .returned (.bool true) ∧ Below w.heap.size w w' := by
  have H0 := Lib.hid h0
  have H1 := Lib.hid h1
  clear h0 h1
  by_cases hl0 : 200 < l0.length
  · go_enter Try.func5, Try.ntmps5
    go_wp2_with fail
    refine (known_any _).mono ?_
    rintro e w1 ⟨rfl, hb1⟩
    go_wp2_with fail
    go_ret
    exact ⟨rfl, hb1⟩
  by_cases hl1 : 60 < l1.length
  · go_enter Try.func5, Try.ntmps5
    go_wp2_with fail
    refine (known_any _).mono ?_
    rintro e w1 ⟨rfl, hb1⟩
    go_wp2_with fail
    go_ret
    exact ⟨rfl, hb1⟩
  go_enter Try.func5, Try.ntmps5
  go_wp2_with fail
  refine (known_any _).mono ?_
  rintro e w1 ⟨rfl, hb1⟩
  go_wp2_with fail
  refine (mixed_sl _ l1 _ (H1.out.on hb1) (by omega)).mono ?_
  rintro e w2 ⟨A2, c2, rfl, hv2, hb2⟩
  have V0 := Lib.hid ((H0.out.on hb1).on hb2)
  have V2 := Lib.hid hv2
  have hsz := Lib.hid (mixedL_le l1)
  clear hv2
  have B2 := thn hb1 hb2
  have hw2 := B2.size
  clear hb1 hb2
  go_wp2_with fail
  go_loopw [27] (fun i wr => ∃ k : Nat, k ≤ 2 ∧ i = .int .i64 k ∧ wr.heap[w2.heap.size]? = some (.cells #[.slice A0 l0.length c0, .slice A2 (mixedL l1).length c2] 22 (0, 0)) ∧ Below w2.heap.size w2 wr) (fun i _ => 2 - (intOf i).toNat)
  case atStart => exact ⟨0, by omega, rfl, heap_alloc_new _ _, (Below.refl _ _).alloc (Nat.le_refl _) _⟩
  case round =>
    obtain ⟨k, hk, rfl, hblk, hbx⟩ := hrel
    by_cases hlt : k < 2
    · obtain ⟨A3, n3, c3, l3, hX, hV, hl3, hn3⟩ : ∃ (A3 : Option Addr) (n3 c3 : Nat) (l3 : List UInt8), wr.cell? ⟨w2.heap.size, k, none⟩ = some (.slice A3 n3 c3) ∧ Hid (BytesAt wr wr.heap.size (.slice A3 n3 c3) l3) ∧ l3.length ≤ 1000 ∧ True := by
        rw [cell_of_row wr w2.heap.size k _ _ _ hblk]
        match k, hlt with
        | 0, _ => exact ⟨_, _, _, l0, rfl, V0.out.on hbx, by omega, trivial⟩
        | 1, _ => exact ⟨_, _, _, mixedL l1, rfl, V2.out.on hbx, by have := hsz.out; omega, trivial⟩
      have hcv := hV.out.conv
      obtain ⟨X, hXe⟩ : ∃ X : ByteArray, X = ⟨l3.toArray⟩ := ⟨_, rfl⟩
      rw [← hXe] at hcv
      have hXl : X.data.toList = l3 := by rw [hXe]
      obtain ⟨C, D, p, r, hpC, hr, hCX, he1, he2, fX, fP, fC, gC, gD⟩ := parts_facts X kk (by rw [← size_list, hXl]; exact hl3)
      have HX := Lib.hid hXl
      clear hXe hXl
      have hn : kk % (r + 1) ≤ r := by have := Nat.mod_lt kk (show 0 < r + 1 by omega); omega
      have en : (kk : Int) % ((r : Int) + 1) = ((kk % (r + 1) : Nat) : Int) := by simp
      generalize kk % (r + 1) = n at *
      have hps : (p : Int) ≤ (X.size : Int) := by omega
      have hp0 : (0 : Int) ≤ (p : Int) := by omega
      have hpX : p ≤ X.size := by omega
      have hd0 : decide ((p : Int) < 0) = false := decide_eq_false (by omega)
      have hd1 : decide (X.size < p) = false := decide_eq_false (by omega)
      have HpC := Lib.hid hpC
      clear hpC
      go_wp2_with fail
      refine (fX _).mono ?_
      rintro e w3 ⟨rfl, hb3⟩
      go_wp2_with fail
      refine (fP _).mono ?_
      rintro e w4 ⟨rfl, hb4⟩
      have hwr : IntKind.i64.wrap ((r : Int) - (n : Int)) = (r : Int) - (n : Int) := IntWalk.i64_in _ (by omega)
      go_upto_region 11 with fail
      go_cut [77] (fun s77 wx => s77 = .bool false ∧ Below w4.heap.size w4 wx)
      case first =>
        go_region_held3 (fun _ => True) (trivial) (first
          | (go_at_call 19; refine (fC _).mono ?_; rintro e w5 ⟨rfl, hb5⟩)
          | (go_at_call_of 14 (Value.string C); refine (gC _).mono ?_; rintro e w5 ⟨rfl, hb6⟩)
          | (go_at_call_of 14 (Value.string D); refine (gD _).mono ?_; rintro e w5 ⟨rfl, hb7⟩)
          | (go_at_call_of 14 (Value.string X); refine (fX _).mono ?_; rintro e w5 ⟨rfl, hb8⟩))
        go_wp2_with fail
        go_meet
        exact ⟨rfl, und (thn hb5 (thn hb6 (thn hb7 hb8)))⟩
      case rest =>
        obtain ⟨rfl, hb5⟩ := hcut
        clear fX fP fC gC gD hwr hd0 hd1 he1 he2
        have B5 := thn hb3 (thn hb4 hb5)
        have V5 := Lib.hid (hV.out.on B5)
        have hck := check_any _ l3 wc V5.out (by omega)
        have hbk := back_runes X
        rw [HX.out] at hbk
        have hXs : X.size ≤ 1000 := by rw [← size_list, HX.out]; exact hl3
        generalize chkL l3 = q at *
        clear hb3 hb4 hb5
        by_cases hq : q < 0
        · have hbk := Lib.hid (hbk hq)
          go_wp2_with fail
          refine hck.mono ?_
          rintro e w6 ⟨rfl, hb6⟩
          go_wp2_with fail
          refine (runes_any X _ (by omega)).mono ?_
          rintro e w7 ⟨g, c, rfl, hR, hb7, _⟩
          have fB := back_any _ _ w7 _ hR
          rw [HX.out, hbk.out, ← HX.out] at fB
          clear hR
          go_wp2_with fail
          refine fB.mono ?_
          rintro e w8 ⟨rfl, rfl⟩
          go_wp2_with fail
          go_roundw
          case rel => exact cuts_rel hk hlt hblk hbx (thn B5 (thn hb6 hb7))
          case measure => simp [intOf]; omega
        · clear hbk
          go_wp2_with fail
          refine hck.mono ?_
          rintro e w6 ⟨rfl, hb6⟩
          go_wp2_with fail
          go_roundw
          case rel => exact cuts_rel hk hlt hblk hbx (thn B5 hb6)
          case measure => simp [intOf]; omega
    · go_wp2_with fail
      go_ret
      exact ⟨rfl, B2.trans (hbx.mono hw2)⟩
end Go.Proofs.Ytdefmeffdcpcaaa
