/- The law UtfTells: its walk. -/
import Derived.Test.YtdefmeffdcpcaaaRefPlace
import Derived.Test.YtdefmeffdcpcaaaParts
namespace Go.Proofs.Ytdefmeffdcpcaaa
open Go.RowKit Go.Lib

/-- What one text gives in this law. -/
theorem tells_facts (X : ByteArray) (hX : X.size ≤ 1000) : ∃ (L : List Int), L.length ≤ 1000 ∧
    (∀ W, Calls Try.prog 11 #[.string X] W fun e w' => ∃ A c, e = .returned (.slice A L.length c) ∧ RunesAt w' w'.heap.size (.slice A L.length c) L ∧ Below W.heap.size W w') ∧
    (∀ W, Calls Try.prog 16 #[.string X] W fun e w' => ∃ g c : Nat, e = .returned (.slice (some ⟨g, 0, none⟩) L.length c) ∧ RunesAt w' w'.heap.size (.slice (some ⟨g, 0, none⟩) L.length c) L ∧ Below W.heap.size W w') ∧
    (∀ W, Calls Try.prog 14 #[.string X] W fun e w' => e = .returned (.int .i64 L.length) ∧ Below W.heap.size W w') := by
  have hr := cnt_le X.data.toList
  rw [size_list] at hr
  have hlen : (rnsL X.data.toList).length = cnt X.data.toList := by unfold rnsL; rw [List.length_map]; rfl
  refine ⟨rnsL X.data.toList, by omega, fun W => ?_, fun W => ?_, fun W => ?_⟩
  · refine (rrunes_any X W (by omega)).mono fun _ _ ⟨v, he, hv, hb⟩ => ?_
    obtain ⟨A, c, hvv, _⟩ := id hv
    exact ⟨A, c, by rw [he, hvv], by rw [← hvv]; exact hv, hb⟩
  · exact (runes_any X W (by omega)).mono fun _ _ ⟨g, c, h1, h2, h3, _⟩ => ⟨g, c, h1, h2, h3⟩
  · rw [hlen]
    exact count_any X W (by omega)

/-- What one place in one text gives. -/
theorem tells_at (X : ByteArray) (x : Int) (hX : X.size ≤ 1000) (hx : x ≤ 9223372036854775807) : ∃ (p : Int) (C : ByteArray),
    (∀ W, Calls Try.prog 17 #[.string X, .int .i64 x] W fun e w' => e = .returned (.int .i64 p) ∧ Below W.heap.size W w') ∧
    (∀ W, Calls Try.prog 18 #[.string X, .int .i64 x] W fun e w' => e = .returned (.int .i64 p) ∧ Below W.heap.size W w') ∧
    (∀ W, Calls Try.prog 19 #[.string X, .int .i64 x] W fun e w' => e = .returned (.string C) ∧ Below W.heap.size W w') ∧
    (∀ W, Calls Try.prog 20 #[.string X, .int .i64 x] W fun e w' => e = .returned (.string C) ∧ Below W.heap.size W w') :=
  ⟨_, _, fun W => place_any X x W (by omega), fun W => rplace_any X x W (by omega) hx, fun W => cutF_any X x W (by omega), fun W => rcut_any X x W (by omega) hx⟩

theorem keep5 {w wn : World} {g : Nat} {o : Obj} (h : w.heap[g]? = some o) (hB : Below w.heap.size w wn) : wn.heap[g]? = some o := (hB.block g (Array.getElem?_eq_some_iff.1 h).1).trans h

set_option maxRecDepth 100000 in
set_option maxHeartbeats 2000000 in
theorem tells_walk (A0 A1 : Option Addr) (c0 c1 : Nat) (l0 l1 : List UInt8) (n : Int) (kk : Nat) (hkk : kk < 256) (hn9 : n ≤ 9223372036854775807) (w : World) (h0 : BytesAt w w.heap.size (.slice A0 l0.length c0) l0) (h1 : BytesAt w w.heap.size (.slice A1 l1.length c1) l1) :
    Calls Try.prog 3 #[.slice A0 l0.length c0, .slice A1 l1.length c1, .int .i64 n, .int .u8 kk] w fun e w' => e = .returned (.bool true) ∧ Below w.heap.size w w' := by
  have H0 := Lib.hid h0
  have H1 := Lib.hid h1
  have HN9 := Lib.hid hn9
  clear h0 h1 hn9
  by_cases hl0 : 200 < l0.length
  · go_enter Try.func3, Try.ntmps3
    go_wp2_with fail
    refine (known_any _).mono ?_
    rintro e w1 ⟨rfl, hb1⟩
    go_wp2_with fail
    go_ret
    exact ⟨rfl, hb1⟩
  by_cases hl1 : 60 < l1.length
  · go_enter Try.func3, Try.ntmps3
    go_wp2_with fail
    refine (known_any _).mono ?_
    rintro e w1 ⟨rfl, hb1⟩
    go_wp2_with fail
    go_ret
    exact ⟨rfl, hb1⟩
  go_enter Try.func3, Try.ntmps3
  go_wp2_with fail
  refine (known_any _).mono ?_
  rintro e w1 ⟨rfl, hb1⟩
  go_wp2_with fail
  refine (mixed_sl _ l1 _ (H1.out.on hb1) (by omega)).mono ?_
  rintro e w2 ⟨A2, c2, rfl, hv2, hb2⟩
  have V0 := Lib.hid ((H0.out.on hb1).on hb2)
  have V2 := Lib.hid hv2
  have hsz := Lib.hid (mixedL_le l1)
  clear hv2
  have B2 := thn hb1 hb2
  have hw2 := B2.size
  clear hb1 hb2
  go_wp2_with fail
  go_loopw [30] (fun i wr => ∃ k : Nat, k ≤ 2 ∧ i = .int .i64 k ∧ wr.heap[w2.heap.size]? = some (.cells #[.slice A0 l0.length c0, .slice A2 (mixedL l1).length c2] 22 (0, 0)) ∧ Below w2.heap.size w2 wr) (fun i _ => 2 - (intOf i).toNat)
  case atStart => exact ⟨0, by omega, rfl, heap_alloc_new _ _, (Below.refl _ _).alloc (Nat.le_refl _) _⟩
  case round =>
    obtain ⟨k, hk, rfl, hblk, hbx⟩ := hrel
    by_cases hlt : k < 2
    · obtain ⟨A3, n3, c3, l3, hX, hV, hl3⟩ : ∃ (A3 : Option Addr) (n3 c3 : Nat) (l3 : List UInt8), wr.cell? ⟨w2.heap.size, k, none⟩ = some (.slice A3 n3 c3) ∧ Hid (BytesAt wr wr.heap.size (.slice A3 n3 c3) l3) ∧ l3.length ≤ 1000 := by
        rw [cell_of_row wr w2.heap.size k _ _ _ hblk]
        match k, hlt with
        | 0, _ => exact ⟨_, _, _, l0, rfl, V0.out.on hbx, by omega⟩
        | 1, _ => exact ⟨_, _, _, mixedL l1, rfl, V2.out.on hbx, by have := hsz.out; omega⟩
      have hcv := hV.out.conv
      obtain ⟨X, hXe⟩ : ∃ X : ByteArray, X = ⟨l3.toArray⟩ := ⟨_, rfl⟩
      rw [← hXe] at hcv
      have hXs : X.size ≤ 1000 := by rw [← size_list, hXe]; exact hl3
      clear hXe
      obtain ⟨L, hL, rR, fR, fC⟩ := tells_facts X hXs
      have hbk := Lib.hid hblk
      clear hblk
      go_wp2_with fail
      refine (rR _).mono ?_
      rintro e w3 ⟨A5, c5, rfl, hR3, hb3⟩
      have R3 := Lib.hid hR3
      clear hR3
      have V3 := hV.out.on hb3
      have q1 := check_any _ l3 w3 V3 (by omega)
      have q2 := fun W (hb : Below w3.heap.size w3 W) => rcheck_any _ l3 W _ (V3.on hb) (by omega)
      have Q2 := Lib.hid q2
      clear q2 V3
      generalize chkL l3 = q at *
      go_wp2_with fail
      refine q1.mono ?_
      rintro e w4 ⟨rfl, hb4⟩
      have q2 := Q2.out w4 hb4
      go_wp2_with fail
      refine q2.mono ?_
      rintro e w5 ⟨rfl, rfl⟩
      go_wp2_with fail
      refine (fC _).mono ?_
      rintro e w5 ⟨rfl, hb5⟩
      go_wp2_with fail
      refine (fR _).mono ?_
      rintro e w6 ⟨g6, c6, rfl, hR6, hb6⟩
      have B6 := thn hb4 (thn hb5 hb6)
      have fE := runes_eq _ _ L w6 _ _ (by omega) hR6 (R3.out.below B6)
      clear hR6
      go_wp2_with fail
      refine fE.mono ?_
      rintro e w7 ⟨rfl, hb7⟩
      go_wp2_with fail
      clear fE q1 q2 fR fC rR
      have B7 := thn hb3 (thn B6 hb7)
      have hs7 := B7.size
      go_loopw [68] (fun i wi => ∃ j : Nat, j ≤ 5 ∧ i = .int .i64 j ∧ wi.heap[w7.heap.size]? = some (.cells #[.int .i64 n, .int .i64 ((kk : Int) % 30), .int .i64 (L.length : Int), .int .i64 ((L.length : Int) + 1), .int .i64 (-1)] 3 (0, 0)) ∧ Below w7.heap.size w7 wi) (fun i _ => 5 - (intOf i).toNat)
      case atStart => exact ⟨0, by omega, rfl, heap_alloc_new _ _, (Below.refl _ _).alloc (Nat.le_refl _) _⟩
      case round =>
        obtain ⟨j, hj, rfl, hblk2, hbj⟩ := hrel
        by_cases hj5 : j < 5
        · obtain ⟨x, hx, hx9⟩ : ∃ x : Int, wr.cell? ⟨w7.heap.size, j, none⟩ = some (.int .i64 x) ∧ Hid (x ≤ 9223372036854775807) := by
            rw [cell_of_row wr w7.heap.size j _ _ _ hblk2]
            match j, hj5 with
            | 0, _ => exact ⟨_, rfl, HN9⟩
            | 1, _ => exact ⟨_, rfl, by unfold Hid; omega⟩
            | 2, _ => exact ⟨_, rfl, by unfold Hid; omega⟩
            | 3, _ => exact ⟨_, rfl, by unfold Hid; omega⟩
            | 4, _ => exact ⟨_, rfl, by unfold Hid; omega⟩
          have HB2 := Lib.hid hblk2
          clear hblk2
          obtain ⟨p, C, gP, gQ, gC, gD⟩ := tells_at X x hXs hx9.out
          go_wp2_with fail
          refine (gP _).mono ?_
          rintro e w8 ⟨rfl, hb8⟩
          go_wp2_with fail
          refine (gQ _).mono ?_
          rintro e w9 ⟨rfl, hb9⟩
          go_wp2_with fail
          refine (gC _).mono ?_
          rintro e w10 ⟨rfl, hb10⟩
          go_wp2_with fail
          refine (gD _).mono ?_
          rintro e w11 ⟨rfl, hb11⟩
          go_wp2_with fail
          go_roundw
          case rel => exact ⟨j + 1, by omega, by go_num, keep5 HB2.out (thn hb8 (thn hb9 (thn hb10 hb11))), hbj.trans ((thn hb8 (thn hb9 (thn hb10 hb11))).mono hbj.size)⟩
          case measure => simp [intOf]; omega
        · go_wp2_with fail
          go_roundw
          case rel => exact cuts_rel hk hlt hbk.out hbx (thn B7 hbj)
          case measure => simp [intOf]; omega
    · go_wp2_with fail
      go_ret
      exact ⟨rfl, B2.trans (hbx.mono hw2)⟩
end Go.Proofs.Ytdefmeffdcpcaaa
