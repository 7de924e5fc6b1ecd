/- The statements' helps: texts of few numbers, lists held against one another. Written by gen_th.py. -/
import Derived.Test.YtdnbkllofbnpoaaDoorTr5
import Derived.Deep.RegionHeld3
import Derived.Deep.DrawnRows
namespace Go.Proofs.YtdnbkllofbnpoaaDoor
open Go.RowKit Go.Lib
set_option linter.unusedVariables false
attribute [local go_sem ↓] Go.wp_at_zero Go.wp_at_succ

def pieceT : List (List UInt8) := [[97], [98], [47], [43], [35], [36], [195, 169], [47], [47], [255], [0], [43, 47], [47, 35]]
theorem pieceT_cell (W : World) (j : Nat) (h : j < 13) : (W.alloc (.cells #[.string ⟨#[97]⟩, .string ⟨#[98]⟩, .string ⟨#[47]⟩, .string ⟨#[43]⟩, .string ⟨#[35]⟩, .string ⟨#[36]⟩, .string ⟨#[195, 169]⟩, .string ⟨#[47]⟩, .string ⟨#[47]⟩, .string ⟨#[255]⟩, .string ⟨#[0]⟩, .string ⟨#[43, 47]⟩, .string ⟨#[47, 35]⟩] 9)).cell? ⟨W.heap.size, j, none⟩ = some (.string (bs (pieceT.getD j []))) := by
  rw [cell_of_row _ W.heap.size j _ _ _ (heap_alloc_new _ _)]
  match j, h with
  | 0, _ => rfl
  | 1, _ => rfl
  | 2, _ => rfl
  | 3, _ => rfl
  | 4, _ => rfl
  | 5, _ => rfl
  | 6, _ => rfl
  | 7, _ => rfl
  | 8, _ => rfl
  | 9, _ => rfl
  | 10, _ => rfl
  | 11, _ => rfl
  | 12, _ => rfl
theorem pieceT_len (j : Nat) : (pieceT.getD j []).length ≤ 5 := by
  by_cases h : j < 13
  · match j, h with
    | 0, _ => exact (by decide)
    | 1, _ => exact (by decide)
    | 2, _ => exact (by decide)
    | 3, _ => exact (by decide)
    | 4, _ => exact (by decide)
    | 5, _ => exact (by decide)
    | 6, _ => exact (by decide)
    | 7, _ => exact (by decide)
    | 8, _ => exact (by decide)
    | 9, _ => exact (by decide)
    | 10, _ => exact (by decide)
    | 11, _ => exact (by decide)
    | 12, _ => exact (by decide)
  · rw [List.getD_eq_getElem?_getD, List.getElem?_eq_none (by have : pieceT.length = 13 := rfl; omega)]; exact Nat.zero_le _
def filtT : List (List UInt8) := [[97], [35], [97, 47, 43], [43, 47, 98], [97, 47, 35], [98, 47, 99], [36, 115, 47, 35], [43], [43, 47, 43], [195, 169, 47, 35]]
theorem filtT_cell (W : World) (j : Nat) (h : j < 10) : (W.alloc (.cells #[.string ⟨#[97]⟩, .string ⟨#[35]⟩, .string ⟨#[97, 47, 43]⟩, .string ⟨#[43, 47, 98]⟩, .string ⟨#[97, 47, 35]⟩, .string ⟨#[98, 47, 99]⟩, .string ⟨#[36, 115, 47, 35]⟩, .string ⟨#[43]⟩, .string ⟨#[43, 47, 43]⟩, .string ⟨#[195, 169, 47, 35]⟩] 9)).cell? ⟨W.heap.size, j, none⟩ = some (.string (bs (filtT.getD j []))) := by
  rw [cell_of_row _ W.heap.size j _ _ _ (heap_alloc_new _ _)]
  match j, h with
  | 0, _ => rfl
  | 1, _ => rfl
  | 2, _ => rfl
  | 3, _ => rfl
  | 4, _ => rfl
  | 5, _ => rfl
  | 6, _ => rfl
  | 7, _ => rfl
  | 8, _ => rfl
  | 9, _ => rfl
theorem filtT_len (j : Nat) : (filtT.getD j []).length ≤ 5 := by
  by_cases h : j < 10
  · match j, h with
    | 0, _ => exact (by decide)
    | 1, _ => exact (by decide)
    | 2, _ => exact (by decide)
    | 3, _ => exact (by decide)
    | 4, _ => exact (by decide)
    | 5, _ => exact (by decide)
    | 6, _ => exact (by decide)
    | 7, _ => exact (by decide)
    | 8, _ => exact (by decide)
    | 9, _ => exact (by decide)
  · rw [List.getD_eq_getElem?_getD, List.getElem?_eq_none (by have : filtT.length = 10 := rfl; omega)]; exact Nat.zero_le _
def topT : List (List UInt8) := [[97], [97, 47, 98], [98, 47, 99], [36, 115, 47, 97], [97, 47, 47, 98], [195, 169, 47, 97], [99]]
theorem topT_cell (W : World) (j : Nat) (h : j < 7) : (W.alloc (.cells #[.string ⟨#[97]⟩, .string ⟨#[97, 47, 98]⟩, .string ⟨#[98, 47, 99]⟩, .string ⟨#[36, 115, 47, 97]⟩, .string ⟨#[97, 47, 47, 98]⟩, .string ⟨#[195, 169, 47, 97]⟩, .string ⟨#[99]⟩] 9)).cell? ⟨W.heap.size, j, none⟩ = some (.string (bs (topT.getD j []))) := by
  rw [cell_of_row _ W.heap.size j _ _ _ (heap_alloc_new _ _)]
  match j, h with
  | 0, _ => rfl
  | 1, _ => rfl
  | 2, _ => rfl
  | 3, _ => rfl
  | 4, _ => rfl
  | 5, _ => rfl
  | 6, _ => rfl
theorem topT_len (j : Nat) : (topT.getD j []).length ≤ 5 := by
  by_cases h : j < 7
  · match j, h with
    | 0, _ => exact (by decide)
    | 1, _ => exact (by decide)
    | 2, _ => exact (by decide)
    | 3, _ => exact (by decide)
    | 4, _ => exact (by decide)
    | 5, _ => exact (by decide)
    | 6, _ => exact (by decide)
  · rw [List.getD_eq_getElem?_getD, List.getElem?_eq_none (by have : topT.length = 7 := rfl; omega)]; exact Nat.zero_le _

set_option maxRecDepth 100000 in
set_option maxHeartbeats 1000000 in
theorem sfilter_any (k : Nat) (hk : k < 256) (w : World) : Calls Tryd.prog 10 #[.int .u8 k] w fun e w' => e = .returned (.string (bs (filtT.getD (k % 10) []))) ∧ Below w.heap.size w w' := by
  have en : (k : Int) % 10 = ((k % 10 : Nat) : Int) := by omega
  have hj : k % 10 < 10 := Nat.mod_lt _ (by decide)
  generalize k % 10 = j at *
  have hc := filtT_cell w j hj
  have hjl : (j : Int) < 10 := by omega
  go_enter Tryd.func10, Tryd.ntmps10
  go_wp2
  go_ret
  exact ⟨rfl, alB (Below.refl _ _) _⟩

set_option maxRecDepth 100000 in
set_option maxHeartbeats 1000000 in
theorem stopic_any (k : Nat) (hk : k < 256) (w : World) : Calls Tryd.prog 11 #[.int .u8 k] w fun e w' => e = .returned (.string (bs (topT.getD (k % 7) []))) ∧ Below w.heap.size w w' := by
  have en : (k : Int) % 7 = ((k % 7 : Nat) : Int) := by omega
  have hj : k % 7 < 7 := Nat.mod_lt _ (by decide)
  generalize k % 7 = j at *
  have hc := topT_cell w j hj
  have hjl : (j : Int) < 7 := by omega
  go_enter Tryd.func11, Tryd.ntmps11
  go_wp2
  go_ret
  exact ⟨rfl, alB (Below.refl _ _) _⟩

/-- The text of these picks. -/
def pieceL (l : List UInt8) : List UInt8 := l.flatMap fun b => pieceT.getD (b.toNat % 13) []
theorem pieceL_len (l : List UInt8) : (pieceL l).length ≤ 5 * l.length := by
  unfold pieceL
  induction l with
  | nil => exact Nat.zero_le _
  | cons b t ih =>
    have := pieceT_len (b.toNat % 13)
    rw [List.flatMap_cons, List.length_append, List.length_cons]
    omega
theorem pieceL_take (l : List UInt8) (k : Nat) (h : k < l.length) : pieceL (l.take (k + 1)) = pieceL (l.take k) ++ pieceT.getD (l[k].toNat % 13) [] := by
  unfold pieceL
  rw [List.take_add_one, List.getElem?_eq_getElem h, List.flatMap_append]
  simp

set_option maxRecDepth 100000 in
set_option maxHeartbeats 2000000 in
theorem pieces_some (a : Addr) (c : Nat) (l : List UInt8) (w : World) (hl : l.length ≤ 100) (ha : a.block < w.heap.size) (hx : ∀ (j : Nat) (x : UInt8), l[j]? = some x → w.cell? (a.add j) = some (.int .u8 (x.toNat : Int))) :
    Calls Tryd.prog 9 #[.slice (some a) l.length c] w fun e w' => e = .returned (.string (bs (pieceL l))) ∧ Below w.heap.size w w' := by
  have HX := Lib.hid hx
  clear hx
  go_enter Tryd.func9, Tryd.ntmps9
  go_wp2
  go_loopw [3, 4] (fun s i wr => ∃ k : Nat, k ≤ l.length ∧ i = .int .i64 k ∧ s = .string (bs (pieceL (l.take k))) ∧ Below w.heap.size w wr) (fun _ i _ => l.length - (RowKit.intOf i).toNat)
  case atStart => exact ⟨0, Nat.zero_le _, rfl, rfl, Below.refl _ _⟩
  case round =>
    obtain ⟨k, hk, rfl, rfl, hbx⟩ := hrel
    by_cases hlt : k < l.length
    · have hcb : ∀ o, (wr.alloc o).cell? (a.add k) = some (.int .u8 (l[k].toNat : Int)) := fun o => by
        have hb2 := alB hbx o
        rw [hb2.cell (p := a.add k) (by simpa [Addr.add] using (by split <;> exact ha))]
        exact HX.out k _ (List.getElem?_eq_getElem hlt)
      have htk := Lib.hid (pieceL_take l k hlt)
      have h256 := l[k].toNat_lt
      generalize l[k].toNat = b at *
      have en : (b : Int) % 13 = ((b % 13 : Nat) : Int) := by omega
      have hj : b % 13 < 13 := Nat.mod_lt _ (by decide)
      generalize b % 13 = j at *
      have hc := pieceT_cell wr j hj
      have hjl : (j : Int) < 13 := by omega
      have hk0 : (0 : Int) ≤ (k : Int) := by omega
      have hkl : (k : Int) < (l.length : Int) := by omega
      have hlen := pieceL_len (l.take k)
      rw [List.length_take] at hlen
      have hlen2 := pieceT_len j
      have hsz : (bs (pieceL (l.take k))).size + (bs (pieceT.getD j [])).size ≤ 9223372036854775807 := by rw [bs_size, bs_size]; omega
      have hap := bs_append (pieceL (l.take k)) (pieceT.getD j [])
      generalize pieceT.getD j [] = q at *
      generalize hp : pieceL (l.take k) = p at *
      go_wp2
      go_roundw
      case rel => exact ⟨k + 1, by omega, by go_num, by rw [htk.out], alB hbx _⟩
      case measure => simp [RowKit.intOf]; omega
    · have hkl : ¬ (k : Int) < (l.length : Int) := by omega
      have hall := Lib.hid (show l.take k = l from List.take_of_length_le (by omega))
      go_wp2
      go_ret
      exact ⟨by rw [hall.out]; rfl, hbx⟩

set_option maxRecDepth 100000 in
set_option maxHeartbeats 1000000 in
theorem pieces_none (A : Option Addr) (c : Nat) (w : World) :
    Calls Tryd.prog 9 #[.slice A 0 c] w fun e w' => e = .returned (.string (bs (pieceL []))) ∧ Below w.heap.size w w' := by
  go_enter Tryd.func9, Tryd.ntmps9
  go_wp2
  go_loopw [3, 4] (fun s i wr => i = .int .i64 0 ∧ s = .string (bs []) ∧ wr = w) (fun _ _ _ => 0)
  case atStart => exact ⟨rfl, rfl, rfl⟩
  case round =>
    obtain ⟨rfl, rfl, rfl⟩ := hrel
    go_wp2
    go_ret
    exact ⟨rfl, Below.refl _ _⟩
theorem pieces_any (v : Value) (l : List UInt8) (w : World) (hv : BytesAt w w.heap.size v l) (hl : l.length ≤ 100) :
    Calls Tryd.prog 9 #[v] w fun e w' => e = .returned (.string (bs (pieceL l))) ∧ Below w.heap.size w w' := by
  obtain ⟨A, c, rfl, hc, _, hn, hB, hx⟩ := hv
  by_cases h : l = []
  · subst h; exact pieces_none A c w
  · cases A with
    | none => exact absurd (hn rfl) h
    | some a => exact pieces_some a c l w hl (hB a rfl h) (hx a rfl)

set_option maxRecDepth 100000 in
set_option maxHeartbeats 1000000 in
/-- Two slices of the same texts: true. -/
theorem strings_eq (va vb : Value) (L : List (List UInt8)) (w : World) (hl : L.length ≤ 1000001) (ha : TxAt w va L) (hb : TxAt w vb L) :
    Calls Tryd.prog 16 #[va, vb] w fun e w' => e = .returned (.bool true) ∧ Below w.heap.size w w' := by
  obtain ⟨b1, o1, c1, rfl, hc1, hm1, hx1⟩ := ha
  obtain ⟨b2, o2, c2, rfl, hc2, hm2, hx2⟩ := hb
  have HA := Lib.hid hx1
  have HB := Lib.hid hx2
  clear hx1 hx2
  go_enter Tryd.func16, Tryd.ntmps16
  go_wp2
  go_loopw [5] (fun i wr => ∃ (k n : Nat), k ≤ L.length ∧ i = .int .i64 k ∧ wr = w.drewN n) (fun i _ => L.length - (RowKit.intOf i).toNat)
  case atStart => exact ⟨0, 0, Nat.zero_le _, rfl, rfl⟩
  case round =>
    obtain ⟨k, n, hk, rfl, rfl⟩ := hrel
    by_cases hlt : k < L.length
    · have h1 : w.cell? ⟨b1, o1 + k, none⟩ = some (.string (bs L[k])) := HA.out k _ (List.getElem?_eq_getElem hlt)
      have h2 : w.cell? ⟨b2, o2 + k, none⟩ = some (.string (bs L[k])) := HB.out k _ (List.getElem?_eq_getElem hlt)
      generalize L[k] = x at *
      have hk0 : (0 : Int) ≤ (k : Int) := by omega
      have hkl : (k : Int) < (L.length : Int) := by omega
      go_wp2
      go_quiet (fail)
      go_wp2
      go_roundw
      case rel => exact ⟨k + 1, _, by omega, by go_num, rfl⟩
      case measure => simp [RowKit.intOf]; omega
    · have hkl : ¬ (k : Int) < (L.length : Int) := by omega
      go_wp2
      go_ret
      exact ⟨rfl, ((Below.refl _ _) : Below w.heap.size w w).trans ⟨rfl, rfl, rfl, Nat.le_refl _, fun _ _ => rfl⟩⟩

theorem k6_0 (w : World) (hM : MaxAt w) : Calls Tryd.prog 19 #[.string ⟨#[43, 47, 98]⟩, .string ⟨#[97, 47, 98]⟩] w fun e w' => e = .returned (.bool true) ∧ Below w.heap.size w w' :=
  (match_any ⟨#[43, 47, 98]⟩ ⟨#[97, 47, 98]⟩ w hM (by decide) (by decide)).mono fun _ _ ⟨h1, h2⟩ => ⟨h1.trans (ret_bool (by decide +kernel)), h2⟩
theorem k6_1 (w : World) (hM : MaxAt w) : Calls Tryd.prog 19 #[.string ⟨#[97, 47, 35]⟩, .string ⟨#[97]⟩] w fun e w' => e = .returned (.bool true) ∧ Below w.heap.size w w' :=
  (match_any ⟨#[97, 47, 35]⟩ ⟨#[97]⟩ w hM (by decide) (by decide)).mono fun _ _ ⟨h1, h2⟩ => ⟨h1.trans (ret_bool (by decide +kernel)), h2⟩
theorem k6_2 (w : World) (hM : MaxAt w) : Calls Tryd.prog 19 #[.string ⟨#[35]⟩, .string ⟨#[36, 115]⟩] w fun e w' => e = .returned (.bool false) ∧ Below w.heap.size w w' :=
  (match_any ⟨#[35]⟩ ⟨#[36, 115]⟩ w hM (by decide) (by decide)).mono fun _ _ ⟨h1, h2⟩ => ⟨h1.trans (ret_bool (by decide +kernel)), h2⟩
theorem k6_3 (w : World) (hM : MaxAt w) : Calls Tryd.prog 14 #[.string ⟨#[97, 47, 43, 47, 35]⟩] w fun e w' => e = .returned (.bool true) ∧ Below w.heap.size w w' :=
  (filter_any ⟨#[97, 47, 43, 47, 35]⟩ w hM (by decide)).mono fun _ _ ⟨h1, h2⟩ => ⟨h1.trans (ret_bool (by decide +kernel)), h2⟩
theorem k6_4 (w : World) (hM : MaxAt w) : Calls Tryd.prog 14 #[.string ⟨#[97, 35]⟩] w fun e w' => e = .returned (.bool false) ∧ Below w.heap.size w w' :=
  (filter_any ⟨#[97, 35]⟩ w hM (by decide)).mono fun _ _ ⟨h1, h2⟩ => ⟨h1.trans (ret_bool (by decide +kernel)), h2⟩
theorem k6_5 (w : World) (hM : MaxAt w) : Calls Tryd.prog 12 #[.string ⟨#[195, 169]⟩] w fun e w' => e = .returned (.bool true) ∧ Below w.heap.size w w' :=
  (name_any ⟨#[195, 169]⟩ w (by decide)).mono fun _ _ ⟨h1, h2⟩ => ⟨h1.trans (ret_bool (by decide +kernel)), h2⟩
theorem k6_6 (w : World) (hM : MaxAt w) : Calls Tryd.prog 12 #[.string ⟨#[43]⟩] w fun e w' => e = .returned (.bool false) ∧ Below w.heap.size w w' :=
  (name_any ⟨#[43]⟩ w (by decide)).mono fun _ _ ⟨h1, h2⟩ => ⟨h1.trans (ret_bool (by decide +kernel)), h2⟩
theorem k6_7 (w : World) (hM : MaxAt w) : Calls Tryd.prog 21 #[.string ⟨#[97, 47, 43]⟩, .string ⟨#[97, 47, 35]⟩] w fun e w' => e = .returned (.bool true) ∧ Below w.heap.size w w' :=
  (within_any ⟨#[97, 47, 43]⟩ ⟨#[97, 47, 35]⟩ w hM (by decide) (by decide)).mono fun _ _ ⟨h1, h2⟩ => ⟨h1.trans (ret_bool (by decide +kernel)), h2⟩

set_option maxRecDepth 100000 in
set_option maxHeartbeats 2000000 in
theorem known6_any (w : World) (hM : MaxAt w) : Calls Tryd.prog 8 #[] w fun e w' => e = .returned (.bool true) ∧ Below w.heap.size w w' := by
  have kl := fun W hM => levels_any ⟨#[47]⟩ W hM (by decide)
  have el : (lev (⟨#[47]⟩ : ByteArray).data.toList).length = 2 := rfl
  go_enter Tryd.func8, Tryd.ntmps8
  go_wp2_with fail
  refine (k6_0 _ hM).mono ?_
  rintro e w0 ⟨rfl, hb0⟩
  have bb0 := hb0
  have hM0 := hM.on bb0
  go_wp2_with fail
  refine (k6_1 _ hM0).mono ?_
  rintro e w1 ⟨rfl, hb1⟩
  have bb1 := thn bb0 hb1
  have hM1 := hM.on bb1
  clear hb1
  go_wp2_with fail
  refine (k6_2 _ hM1).mono ?_
  rintro e w2 ⟨rfl, hb2⟩
  have bb2 := thn bb1 hb2
  have hM2 := hM.on bb2
  clear hb2
  go_wp2_with fail
  refine (k6_3 _ hM2).mono ?_
  rintro e w3 ⟨rfl, hb3⟩
  have bb3 := thn bb2 hb3
  have hM3 := hM.on bb3
  clear hb3
  go_wp2_with fail
  refine (k6_4 _ hM3).mono ?_
  rintro e w4 ⟨rfl, hb4⟩
  have bb4 := thn bb3 hb4
  have hM4 := hM.on bb4
  clear hb4
  go_wp2_with fail
  refine (k6_5 _ hM4).mono ?_
  rintro e w5 ⟨rfl, hb5⟩
  have bb5 := thn bb4 hb5
  have hM5 := hM.on bb5
  clear hb5
  go_wp2_with fail
  refine (k6_6 _ hM5).mono ?_
  rintro e w6 ⟨rfl, hb6⟩
  have bb6 := thn bb5 hb6
  have hM6 := hM.on bb6
  clear hb6
  go_wp2_with fail
  refine (kl _ hM6).mono ?_
  rintro e w7 ⟨g, hg, rfl, hrow, hb7⟩
  clear hrow
  have bb7 := thn bb6 hb7
  have hM7 := hM.on bb7
  clear hb7
  go_wp2_with fail
  refine (k6_7 _ hM7).mono ?_
  rintro e w8 ⟨rfl, hb8⟩
  have bb8 := thn bb7 hb8
  have hM8 := hM.on bb8
  clear hb8
  go_wp2_with fail
  go_ret
  exact ⟨rfl, bb8⟩
end Go.Proofs.YtdnbkllofbnpoaaDoor
