/- The law UtfCuts: its walk. -/
import Derived.Test.YtdefmeffdcpcaaaMixed
import Derived.Deep.RegionHeld3
import Derived.Deep.RegionWith
import Derived.Deep.DrawnRows
import Derived.Deep.DeepCutAuto
namespace Go.Proofs.Ytdefmeffdcpcaaa
open Go.RowKit Go.Lib

theorem cutI_nat (n : Nat) (l : List UInt8) : cutI (n : Int) l = cutL n l := by unfold cutI; rw [if_neg (by omega)]; rfl

/-- What one text gives in this law. -/
theorem cuts_facts (X : ByteArray) (n m : Nat) (hX : X.size ≤ 1000) : ∃ (C Y : ByteArray) (q r : Nat), q = min n r ∧ r ≤ 1000 ∧ C.size ≤ X.size ∧ X.extract 0 C.size = C ∧ (n ≤ m → Y = C) ∧
    (∀ W, Calls Try.prog 19 #[.string X, .int .i64 n] W fun e w' => e = .returned (.string C) ∧ Below W.heap.size W w') ∧
    (∀ W, Calls Try.prog 19 #[.string C, .int .i64 m] W fun e w' => e = .returned (.string Y) ∧ Below W.heap.size W w') ∧
    (m ≤ n → ∀ W, Calls Try.prog 19 #[.string X, .int .i64 m] W fun e w' => e = .returned (.string Y) ∧ Below W.heap.size W w') ∧
    (∀ W, Calls Try.prog 14 #[.string C] W fun e w' => e = .returned (.int .i64 q) ∧ Below W.heap.size W w') ∧
    ∀ W, Calls Try.prog 14 #[.string X] W fun e w' => e = .returned (.int .i64 r) ∧ Below W.heap.size W w' := by
  have hp := place_le n X.data.toList
  have hcs : (⟨(cutL n X.data.toList).toArray⟩ : ByteArray).size = placeL n X.data.toList := rfl
  have hr := cnt_le X.data.toList
  rw [size_list] at hp hr
  refine ⟨⟨(cutL n X.data.toList).toArray⟩, ⟨(cutL (min m n) X.data.toList).toArray⟩, min n (cnt X.data.toList), cnt X.data.toList, rfl, by omega, by rw [hcs]; exact hp, ?_, fun h => by rw [Nat.min_eq_right h], fun W => ?_, fun W => ?_, fun h W => ?_, fun W => ?_, fun W => count_any X W (by omega)⟩
  · rw [hcs]
    apply ByteArray.ext
    apply Array.toList_inj.1
    rw [ByteArray.data_extract, Array.toList_extract]
    show List.take (placeL n X.data.toList - 0) (List.drop 0 X.data.toList) = cutL n X.data.toList
    rw [List.drop_zero, Nat.sub_zero, ← cut_take]
  · have h := cutF_any X n W (by omega)
    rw [cutI_nat] at h
    exact h
  · have h := cutF_any ⟨(cutL n X.data.toList).toArray⟩ m W (by rw [hcs]; omega)
    rw [cutI_nat] at h
    rw [show (⟨(cutL n X.data.toList).toArray⟩ : ByteArray).data.toList = cutL n X.data.toList from rfl, cut_cut] at h
    exact h
  · have h' := cutF_any X m W (by omega)
    rw [cutI_nat] at h'
    rw [Nat.min_eq_left h]
    exact h'
  · have h := count_any ⟨(cutL n X.data.toList).toArray⟩ W (by rw [hcs]; omega)
    rw [show (⟨(cutL n X.data.toList).toArray⟩ : ByteArray).data.toList = cutL n X.data.toList from rfl, cnt_cut] at h
    exact h

theorem thn {a b c : World} (h : Below a.heap.size a b) (k : Below b.heap.size b c) : Below a.heap.size a c := h.trans (k.mono h.size)
theorem cuts_rel {w wr wn : World} {k g : Nat} {o : Obj} (_hk : k ≤ 2) (hlt : k < 2) (hblk : wr.heap[g]? = some o) (hbx : Below w.heap.size w wr) (hB : Below wr.heap.size wr wn) :
    ∃ j : Nat, j ≤ 2 ∧ Value.int .i64 ((k : Int) + 1) = .int .i64 j ∧ wn.heap[g]? = some o ∧ Below w.heap.size w wn :=
  ⟨k + 1, by omega, by go_num, (hB.block g (Array.getElem?_eq_some_iff.1 hblk).1).trans hblk, hbx.trans (hB.mono hbx.size)⟩

set_option maxRecDepth 100000 in
set_option maxHeartbeats 4000000 in
theorem cuts_walk (A0 A1 : Option Addr) (c0 c1 : Nat) (l0 l1 : List UInt8) (a b : Nat) (ha : a < 256) (hb : b < 256) (w : World) (h0 : BytesAt w w.heap.size (.slice A0 l0.length c0) l0) (h1 : BytesAt w w.heap.size (.slice A1 l1.length c1) l1) :
    Calls Try.prog 8 #[.slice A0 l0.length c0, .slice A1 l1.length c1, .int .u8 a, .int .u8 b] w fun e w' => e = .returned (.bool true) ∧ Below w.heap.size w w' := by
  have H0 := Lib.hid h0
  have H1 := Lib.hid h1
  clear h0 h1
  by_cases hl0 : 100 < l0.length
  · go_enter Try.func8, Try.ntmps8
    go_wp2_with fail
    refine (known_any _).mono ?_
    rintro e w1 ⟨rfl, hb1⟩
    go_wp2_with fail
    go_ret
    exact ⟨rfl, hb1⟩
  by_cases hl1 : 40 < l1.length
  · go_enter Try.func8, Try.ntmps8
    go_wp2_with fail
    refine (known_any _).mono ?_
    rintro e w1 ⟨rfl, hb1⟩
    go_wp2_with fail
    go_ret
    exact ⟨rfl, hb1⟩
  go_enter Try.func8, Try.ntmps8
  go_wp2_with fail
  refine (known_any _).mono ?_
  rintro e w1 ⟨rfl, hb1⟩
  go_wp2_with fail
  have M0 := Lib.hid (H0.out.on hb1).drew
  have M1 := Lib.hid (H1.out.on hb1).drew
  have hc0 := M0.out.conv
  go_upto_region 5 with fail
  go_cut [29, 30, 31] (fun s29 s30 s31 wx => ∃ g : Nat, s29 = .slice (some ⟨g, 0, none⟩) 2 2 ∧ s30 = .int .i64 2 ∧ s31 = .int .i64 0 ∧ w.heap.size ≤ g ∧ wx.heap[g]? = some (.cells #[.string ⟨(mixedL l1).toArray⟩, .string ⟨l0.toArray⟩] 9 (0, 0)) ∧ Below w.heap.size w wx)
  case first =>
    go_region_with (go_at_call 10; refine (mixed_any _ l1 _ (by exact M1.out) (by omega)).mono ?_; rintro e w2 ⟨v2, rfl, hv2, hb2⟩; have hc1 := hv2.conv; have hc2 := (M0.out.on hb2).conv)
    all_goals (go_wp2_with fail; go_meet; exact ⟨w2.heap.size, rfl, rfl, rfl, Nat.le_trans hb1.size hb2.size, heap_alloc_new _ _, (hb1.drew.trans (hb2.mono hb1.size)).alloc (Nat.le_trans hb1.size hb2.size) _⟩)
  case rest =>
    obtain ⟨g, rfl, rfl, rfl, hg, hblk, hbx⟩ := hcut
    clear hc0
    have hsz : Hid ((mixedL l1).length ≤ 400) := by
      have := mixedL_le l1
      unfold Hid
      omega
    go_wp2_with fail
    go_loopw [31] (fun i wr => ∃ k : Nat, k ≤ 2 ∧ i = .int .i64 k ∧ wr.heap[g]? = some (.cells #[.string ⟨(mixedL l1).toArray⟩, .string ⟨l0.toArray⟩] 9 (0, 0)) ∧ Below w.heap.size w wr) (fun i _ => 2 - (intOf i).toNat)
    case atStart => exact ⟨0, by omega, rfl, hblk, hbx⟩
    case round =>
      obtain ⟨k, hk, rfl, hblk, hbx⟩ := hrel
      by_cases hlt : k < 2
      · obtain ⟨X, hX, hXs⟩ : ∃ X : ByteArray, wr.cell? ⟨g, k, none⟩ = some (.string X) ∧ X.size ≤ 1000 := by
          rw [cell_of_row wr g k _ _ _ hblk]
          match k, hlt with
          | 0, _ => exact ⟨_, rfl, by show (mixedL l1).length ≤ 1000; have := hsz.out; omega⟩
          | 1, _ => exact ⟨_, rfl, by show l0.length ≤ 1000; omega⟩
        obtain ⟨C, Y, q, r, hq, hr, hCX, hext, hY, fC, fCm, fXm, gC, gX⟩ := cuts_facts X (a % 40) (b % 40) hXs
        have HY := Lib.hid hY
        have HX := Lib.hid fXm
        have hn40 : a % 40 < 40 := Nat.mod_lt _ (by decide)
        have hm40 : b % 40 < 40 := Nat.mod_lt _ (by decide)
        clear hY fXm
        rcases (show (a % 40 ≤ r ∧ q = a % 40) ∨ (r < a % 40 ∧ q = r) by omega) with ⟨hqr, rfl⟩ | ⟨hqr, rfl⟩
        all_goals clear hq
        all_goals rcases Nat.lt_trichotomy (b % 40) (a % 40) with hmn | hmn | hmn
        · have fXm := HX.out (by omega)
          go_wp2_with fail
          refine (fC _).mono ?_
          rintro e w3 ⟨rfl, hb3⟩
          go_wp2_with fail
          refine (gC _).mono ?_
          rintro e w4 ⟨rfl, hb4⟩
          go_wp2_with fail
          refine (gX _).mono ?_
          rintro e w5 ⟨rfl, hb5⟩
          go_wp2_with fail
          refine (fCm _).mono ?_
          rintro e w6 ⟨rfl, hb6⟩
          go_wp2_with fail
          refine (fXm _).mono ?_
          rintro e w7 ⟨rfl, hb7⟩
          go_wp2_with fail
          go_roundw
          case rel => exact cuts_rel hk hlt hblk hbx (thn hb3 (thn hb4 (thn hb5 (thn hb6 hb7))))
          case measure => simp [intOf]; omega
        · have fXm := HX.out (by omega)
          obtain rfl := HY.out (by omega)
          go_wp2_with fail
          refine (fC _).mono ?_
          rintro e w3 ⟨rfl, hb3⟩
          go_wp2_with fail
          refine (gC _).mono ?_
          rintro e w4 ⟨rfl, hb4⟩
          go_wp2_with fail
          refine (gX _).mono ?_
          rintro e w5 ⟨rfl, hb5⟩
          go_wp2_with fail
          refine (fCm _).mono ?_
          rintro e w6 ⟨rfl, hb6⟩
          go_wp2_with fail
          refine (fXm _).mono ?_
          rintro e w7 ⟨rfl, hb7⟩
          go_wp2_with fail
          refine (fCm _).mono ?_
          rintro e w8 ⟨rfl, hb8⟩
          go_wp2_with fail
          go_roundw
          case rel => exact cuts_rel hk hlt hblk hbx (thn hb3 (thn hb4 (thn hb5 (thn hb6 (thn hb7 hb8)))))
          case measure => simp [intOf]; omega
        · obtain rfl := HY.out (by omega)
          go_wp2_with fail
          refine (fC _).mono ?_
          rintro e w3 ⟨rfl, hb3⟩
          go_wp2_with fail
          refine (gC _).mono ?_
          rintro e w4 ⟨rfl, hb4⟩
          go_wp2_with fail
          refine (gX _).mono ?_
          rintro e w5 ⟨rfl, hb5⟩
          go_wp2_with fail
          refine (fCm _).mono ?_
          rintro e w6 ⟨rfl, hb6⟩
          go_wp2_with fail
          go_roundw
          case rel => exact cuts_rel hk hlt hblk hbx (thn hb3 (thn hb4 (thn hb5 hb6)))
          case measure => simp [intOf]; omega
        · have fXm := HX.out (by omega)
          go_wp2_with fail
          refine (fC _).mono ?_
          rintro e w3 ⟨rfl, hb3⟩
          go_wp2_with fail
          refine (gC _).mono ?_
          rintro e w4 ⟨rfl, hb4⟩
          go_wp2_with fail
          refine (gX _).mono ?_
          rintro e w5 ⟨rfl, hb5⟩
          go_wp2_with fail
          refine (fCm _).mono ?_
          rintro e w6 ⟨rfl, hb6⟩
          go_wp2_with fail
          refine (fXm _).mono ?_
          rintro e w7 ⟨rfl, hb7⟩
          go_wp2_with fail
          go_roundw
          case rel => exact cuts_rel hk hlt hblk hbx (thn hb3 (thn hb4 (thn hb5 (thn hb6 hb7))))
          case measure => simp [intOf]; omega
        · have fXm := HX.out (by omega)
          obtain rfl := HY.out (by omega)
          go_wp2_with fail
          refine (fC _).mono ?_
          rintro e w3 ⟨rfl, hb3⟩
          go_wp2_with fail
          refine (gC _).mono ?_
          rintro e w4 ⟨rfl, hb4⟩
          go_wp2_with fail
          refine (gX _).mono ?_
          rintro e w5 ⟨rfl, hb5⟩
          go_wp2_with fail
          refine (fCm _).mono ?_
          rintro e w6 ⟨rfl, hb6⟩
          go_wp2_with fail
          refine (fXm _).mono ?_
          rintro e w7 ⟨rfl, hb7⟩
          go_wp2_with fail
          refine (fCm _).mono ?_
          rintro e w8 ⟨rfl, hb8⟩
          go_wp2_with fail
          go_roundw
          case rel => exact cuts_rel hk hlt hblk hbx (thn hb3 (thn hb4 (thn hb5 (thn hb6 (thn hb7 hb8)))))
          case measure => simp [intOf]; omega
        · obtain rfl := HY.out (by omega)
          go_wp2_with fail
          refine (fC _).mono ?_
          rintro e w3 ⟨rfl, hb3⟩
          go_wp2_with fail
          refine (gC _).mono ?_
          rintro e w4 ⟨rfl, hb4⟩
          go_wp2_with fail
          refine (gX _).mono ?_
          rintro e w5 ⟨rfl, hb5⟩
          go_wp2_with fail
          refine (fCm _).mono ?_
          rintro e w6 ⟨rfl, hb6⟩
          go_wp2_with fail
          go_roundw
          case rel => exact cuts_rel hk hlt hblk hbx (thn hb3 (thn hb4 (thn hb5 hb6)))
          case measure => simp [intOf]; omega
      · go_wp2_with fail
        go_ret
        exact ⟨rfl, hbx⟩
end Go.Proofs.Ytdefmeffdcpcaaa
