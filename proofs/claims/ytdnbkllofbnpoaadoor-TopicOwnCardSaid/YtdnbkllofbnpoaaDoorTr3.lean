/- The document's matches and inside, for all levels. -/
import Derived.Test.YtdnbkllofbnpoaaDoorTr2a
import Derived.Test.YtdnbkllofbnpoaaDoorTr2b
import Derived.Test.YtdnbkllofbnpoaaDoorTiA
import Derived.Test.YtdnbkllofbnpoaaDoorTiB
import Derived.Test.YtdnbkllofbnpoaaDoorTiC
namespace Go.Proofs.YtdnbkllofbnpoaaDoor
open Go.RowKit Go.Lib
set_option linter.unusedVariables false

theorem keep_cell {w w' : World} {b o : Nat} {u : Value} (h : w.cell? ⟨b, o, none⟩ = some u) (hb : Below w.heap.size w w') : w'.cell? ⟨b, o, none⟩ = some u := by
  rw [hb.cell (p := ⟨b, o, none⟩) (World.block_lt_of_cell? w _ h)]; exact h
theorem nil_of {F : List (List UInt8)} {c : Nat} (h : F.length + 1 ≤ c) (q : c = 1) : F = [] := List.eq_nil_of_length_eq_zero (by omega)

set_option maxRecDepth 100000 in
set_option maxHeartbeats 1000000 in
theorem rmat_any : ∀ (F N : List (List UInt8)) (vf vn : Value) (w : World), F.length ≤ 1000001 → N.length ≤ 1000001 → TxAt w vf F → TxAt w vn N →
    Calls Tryd.prog 31 #[vf, vn] w fun e w' => e = .returned (.bool (rmat F N)) ∧ Below w.heap.size w w'
  | [], N, vf, vn, w, lF, lN, ⟨b1, o1, c1, hv1, hc1, hm1, hx1⟩, ⟨b2, o2, c2, hv2, hc2, hm2, hx2⟩ => by
    subst hv1; subst hv2
    have R := Lib.hid (show rmat [] N = ((0 : Int) == (N.length : Int)) from isE N)
    go_enter Tryd.func31, Tryd.ntmps31
    go_wp2
    go_ret
    exact ⟨ret_bool R.out.symm, Below.refl _ _⟩
  | x :: F, [], vf, vn, w, lF, lN, ⟨b1, o1, c1, hv1, hc1, hm1, hx1⟩, ⟨b2, o2, c2, hv2, hc2, hm2, hx2⟩ => by
    subst hv1; subst hv2
    have cx : w.cell? ⟨b1, o1, none⟩ = some (.string (bs x)) := hx1 0 x rfl
    have ex : (bs x).toList = x := bs_toList x
    have hp := len_p F
    rcases h35 : x == [35] with _ | _
    · have R := Lib.hid (show rmat (x :: F) [] = false by unfold rmat; rw [h35]; rfl)
      have hz := len_z F
      clear hx1 hx2
      go_enter Tryd.func31, Tryd.ntmps31
      go_wp2
      go_ret
      exact ⟨ret_bool R.out.symm, Below.refl _ _⟩
    · have R := Lib.hid (show rmat (x :: F) [] = true by unfold rmat; rw [h35]; rfl)
      clear hx1 hx2
      go_enter Tryd.func31, Tryd.ntmps31
      go_wp2
      go_ret
      exact ⟨ret_bool R.out.symm, Below.refl _ _⟩
  | x :: F, y :: N, vf, vn, w, lF, lN, ⟨b1, o1, c1, hv1, hc1, hm1, hx1⟩, ⟨b2, o2, c2, hv2, hc2, hm2, hx2⟩ => by
    subst hv1; subst hv2
    have cx : w.cell? ⟨b1, o1, none⟩ = some (.string (bs x)) := hx1 0 x rfl
    have cy : w.cell? ⟨b2, o2, none⟩ = some (.string (bs y)) := hx2 0 y rfl
    rcases h35 : x == [35] with _ | _
    · have lF' : F.length ≤ 1000001 := by simp at lF; omega
      have lN' : N.length ≤ 1000001 := by simp at lN; omega
      have hcF : F.length + 1 ≤ c1 := by simpa using hc1
      have hcN : N.length + 1 ≤ c2 := by simpa using hc2
      have T1 := tx_tail hcF hm1 hx1
      have T2 := tx_tail hcN hm2 hx2
      have IH := fun vf vn W (q1 : TxAt W vf F) (q2 : TxAt W vn N) => rmat_any F N vf vn W lF' lN' q1 q2
      rcases h43 : x == [43] with _ | _
      · rcases hxy : x == y with _ | _
        · have R := Lib.hid (show rmat (x :: F) (y :: N) = false by rw [rmat, h35, h43, hxy]; rfl)
          rw [R.out]
          exact rm_c x y F N b1 o1 c1 b2 o2 c2 w true lF' lN' h35 h43 hxy cx cy hm1 hm2 hcF hcN
        · have R := Lib.hid (show rmat (x :: F) (y :: N) = rmat F N by rw [rmat, h35, h43, hxy]; rfl)
          rw [R.out]
          by_cases q1 : c1 = 1
          · obtain rfl := nil_of hcF q1
            subst q1
            by_cases q2 : c2 = 1
            · obtain rfl := nil_of hcN q2
              subst q2
              exact rm_a11 x y [] [] b1 o1 1 b2 o2 1 w _ lF' lN' h35 h43 hxy cx cy hm1 hm2 ((IH _ _ w.drew (tx_none b1 o1 0 (Nat.zero_le _)) (tx_none b2 o2 0 (Nat.zero_le _))).mono fun e w' ⟨h1, h2⟩ => ⟨h1, h2, keep_cell (w := w.drew) cx h2, keep_cell (w := w.drew) cy h2⟩)
            · exact rm_a10 x y [] N b1 o1 1 b2 o2 c2 w _ lF' lN' h35 h43 hxy cx cy hm1 hm2 hcN q2 ((IH _ _ w.drew (tx_none b1 o1 0 (Nat.zero_le _)) T2).mono fun e w' ⟨h1, h2⟩ => ⟨h1, h2, keep_cell (w := w.drew) cx h2, keep_cell (w := w.drew) cy h2⟩)
          · by_cases q2 : c2 = 1
            · obtain rfl := nil_of hcN q2
              subst q2
              exact rm_a01 x y F [] b1 o1 c1 b2 o2 1 w _ lF' lN' h35 h43 hxy cx cy hm1 hm2 hcF q1 ((IH _ _ w.drew T1 (tx_none b2 o2 0 (Nat.zero_le _))).mono fun e w' ⟨h1, h2⟩ => ⟨h1, h2, keep_cell (w := w.drew) cx h2, keep_cell (w := w.drew) cy h2⟩)
            · exact rm_a00 x y F N b1 o1 c1 b2 o2 c2 w _ lF' lN' h35 h43 hxy cx cy hm1 hm2 hcF q1 hcN q2 ((IH _ _ w.drew T1 T2).mono fun e w' ⟨h1, h2⟩ => ⟨h1, h2, keep_cell (w := w.drew) cx h2, keep_cell (w := w.drew) cy h2⟩)
      · have R := Lib.hid (show rmat (x :: F) (y :: N) = rmat F N by rw [rmat, h35, h43]; rfl)
        rw [R.out]
        by_cases q1 : c1 = 1
        · obtain rfl := nil_of hcF q1
          subst q1
          by_cases q2 : c2 = 1
          · obtain rfl := nil_of hcN q2
            subst q2
            exact rm_b11 x y [] [] b1 o1 1 b2 o2 1 w _ lF' lN' h35 h43 cx cy hm1 hm2 ((IH _ _ w.drew (tx_none b1 o1 0 (Nat.zero_le _)) (tx_none b2 o2 0 (Nat.zero_le _))).mono fun e w' ⟨h1, h2⟩ => ⟨h1, h2, keep_cell (w := w.drew) cx h2, keep_cell (w := w.drew) cy h2⟩)
          · exact rm_b10 x y [] N b1 o1 1 b2 o2 c2 w _ lF' lN' h35 h43 cx cy hm1 hm2 hcN q2 ((IH _ _ w.drew (tx_none b1 o1 0 (Nat.zero_le _)) T2).mono fun e w' ⟨h1, h2⟩ => ⟨h1, h2, keep_cell (w := w.drew) cx h2, keep_cell (w := w.drew) cy h2⟩)
        · by_cases q2 : c2 = 1
          · obtain rfl := nil_of hcN q2
            subst q2
            exact rm_b01 x y F [] b1 o1 c1 b2 o2 1 w _ lF' lN' h35 h43 cx cy hm1 hm2 hcF q1 ((IH _ _ w.drew T1 (tx_none b2 o2 0 (Nat.zero_le _))).mono fun e w' ⟨h1, h2⟩ => ⟨h1, h2, keep_cell (w := w.drew) cx h2, keep_cell (w := w.drew) cy h2⟩)
          · exact rm_b00 x y F N b1 o1 c1 b2 o2 c2 w _ lF' lN' h35 h43 cx cy hm1 hm2 hcF q1 hcN q2 ((IH _ _ w.drew T1 T2).mono fun e w' ⟨h1, h2⟩ => ⟨h1, h2, keep_cell (w := w.drew) cx h2, keep_cell (w := w.drew) cy h2⟩)
    · have R := Lib.hid (show rmat (x :: F) (y :: N) = true by rw [rmat, h35]; rfl)
      have ex : (bs x).toList = x := bs_toList x
      have hp1 := len_p F
      clear hx1 hx2
      go_enter Tryd.func31, Tryd.ntmps31
      go_wp2
      go_ret
      exact ⟨ret_bool R.out.symm, Below.refl _ _⟩

set_option maxRecDepth 100000 in
set_option maxHeartbeats 1000000 in
theorem rins_any : ∀ (F N : List (List UInt8)) (vf vn : Value) (w : World), F.length ≤ 1000001 → N.length ≤ 1000001 → TxAt w vf F → TxAt w vn N →
    Calls Tryd.prog 32 #[vf, vn] w fun e w' => e = .returned (.bool (rins F N)) ∧ Below w.heap.size w w'
  | [], [], vf, vn, w, lF, lN, ⟨b1, o1, c1, hv1, hc1, hm1, hx1⟩, ⟨b2, o2, c2, hv2, hc2, hm2, hx2⟩ => by
    subst hv1; subst hv2
    have R := Lib.hid (show rins [] [] = true by rw [rins]; rfl)
    clear hx1 hx2
    go_enter Tryd.func32, Tryd.ntmps32
    go_wp2
    go_ret
    exact ⟨ret_bool R.out.symm, Below.refl _ _⟩
  | x :: F, [], vf, vn, w, lF, lN, ⟨b1, o1, c1, hv1, hc1, hm1, hx1⟩, ⟨b2, o2, c2, hv2, hc2, hm2, hx2⟩ => by
    subst hv1; subst hv2
    have R := Lib.hid (show rins (x :: F) [] = false by rw [rins]; rfl)
    have hz := len_z F
    have hp := len_p F
    clear hx1 hx2
    go_enter Tryd.func32, Tryd.ntmps32
    go_wp2
    go_ret
    exact ⟨ret_bool R.out.symm, Below.refl _ _⟩
  | [], y :: N, vf, vn, w, lF, lN, ⟨b1, o1, c1, hv1, hc1, hm1, hx1⟩, ⟨b2, o2, c2, hv2, hc2, hm2, hx2⟩ => by
    subst hv1; subst hv2
    have cy : w.cell? ⟨b2, o2, none⟩ = some (.string (bs y)) := hx2 0 y rfl
    have ey : (bs y).toList = y := bs_toList y
    have hp := len_p N
    have hz := len_z N
    have hz' : ((0 : Int) == (N.length : Int) + 1) = false := beq_eq_false_iff_ne.2 (by omega)
    clear hx1 hx2
    rcases h35 : y == [35] with _ | _
    · have R := Lib.hid (show rins [] (y :: N) = false by unfold rins; rw [h35]; rfl)
      go_enter Tryd.func32, Tryd.ntmps32
      go_wp2
      go_ret
      exact ⟨ret_bool R.out.symm, Below.refl _ _⟩
    · have R := Lib.hid (show rins [] (y :: N) = true by unfold rins; rw [h35]; rfl)
      go_enter Tryd.func32, Tryd.ntmps32
      go_wp2
      go_ret
      exact ⟨ret_bool R.out.symm, Below.refl _ _⟩
  | x :: F, y :: N, vf, vn, w, lF, lN, ⟨b1, o1, c1, hv1, hc1, hm1, hx1⟩, ⟨b2, o2, c2, hv2, hc2, hm2, hx2⟩ => by
    subst hv1; subst hv2
    have cx : w.cell? ⟨b1, o1, none⟩ = some (.string (bs x)) := hx1 0 x rfl
    have cy : w.cell? ⟨b2, o2, none⟩ = some (.string (bs y)) := hx2 0 y rfl
    rcases y35 : y == [35] with _ | _
    · have lF' : F.length ≤ 1000001 := by simp at lF; omega
      have lN' : N.length ≤ 1000001 := by simp at lN; omega
      have hcF : F.length + 1 ≤ c1 := by simpa using hc1
      have hcN : N.length + 1 ≤ c2 := by simpa using hc2
      have T1 := tx_tail hcF hm1 hx1
      have T2 := tx_tail hcN hm2 hx2
      have IH := fun vf vn W (q1 : TxAt W vf F) (q2 : TxAt W vn N) => rins_any F N vf vn W lF' lN' q1 q2
      rcases h35 : x == [35] with _ | _
      · rcases h43 : y == [43] with _ | _
        · rcases hxy : x == y with _ | _
          · have R := Lib.hid (show rins (x :: F) (y :: N) = false by rw [rins, y35, h35, h43, hxy]; rfl)
            rw [R.out]
            exact ri_D x y F N b1 o1 c1 b2 o2 c2 w true lF' lN' y35 h35 h43 hxy cx cy hm1 hm2 hcF hcN
          · have R := Lib.hid (show rins (x :: F) (y :: N) = rins F N by rw [rins, y35, h35, h43, hxy]; rfl)
            rw [R.out]
            by_cases q1 : c1 = 1
            · obtain rfl := nil_of hcF q1
              subst q1
              by_cases q2 : c2 = 1
              · obtain rfl := nil_of hcN q2
                subst q2
                exact ri_C11 x y [] [] b1 o1 1 b2 o2 1 w _ lF' lN' y35 h35 h43 hxy cx cy hm1 hm2 (IH _ _ w.drew.drew (tx_none b1 o1 0 (Nat.zero_le _)) (tx_none b2 o2 0 (Nat.zero_le _)))
              · exact ri_C10 x y [] N b1 o1 1 b2 o2 c2 w _ lF' lN' y35 h35 h43 hxy cx cy hm1 hm2 hcN q2 (IH _ _ w.drew.drew (tx_none b1 o1 0 (Nat.zero_le _)) T2)
            · by_cases q2 : c2 = 1
              · obtain rfl := nil_of hcN q2
                subst q2
                exact ri_C01 x y F [] b1 o1 c1 b2 o2 1 w _ lF' lN' y35 h35 h43 hxy cx cy hm1 hm2 hcF q1 (IH _ _ w.drew.drew T1 (tx_none b2 o2 0 (Nat.zero_le _)))
              · exact ri_C00 x y F N b1 o1 c1 b2 o2 c2 w _ lF' lN' y35 h35 h43 hxy cx cy hm1 hm2 hcF q1 hcN q2 (IH _ _ w.drew.drew T1 T2)
        · have R := Lib.hid (show rins (x :: F) (y :: N) = rins F N by rw [rins, y35, h35, h43]; rfl)
          rw [R.out]
          by_cases q1 : c1 = 1
          · obtain rfl := nil_of hcF q1
            subst q1
            by_cases q2 : c2 = 1
            · obtain rfl := nil_of hcN q2
              subst q2
              exact ri_B11 x y [] [] b1 o1 1 b2 o2 1 w _ lF' lN' y35 h35 h43 cx cy hm1 hm2 (IH _ _ w.drew.drew (tx_none b1 o1 0 (Nat.zero_le _)) (tx_none b2 o2 0 (Nat.zero_le _)))
            · exact ri_B10 x y [] N b1 o1 1 b2 o2 c2 w _ lF' lN' y35 h35 h43 cx cy hm1 hm2 hcN q2 (IH _ _ w.drew.drew (tx_none b1 o1 0 (Nat.zero_le _)) T2)
          · by_cases q2 : c2 = 1
            · obtain rfl := nil_of hcN q2
              subst q2
              exact ri_B01 x y F [] b1 o1 c1 b2 o2 1 w _ lF' lN' y35 h35 h43 cx cy hm1 hm2 hcF q1 (IH _ _ w.drew.drew T1 (tx_none b2 o2 0 (Nat.zero_le _)))
            · exact ri_B00 x y F N b1 o1 c1 b2 o2 c2 w _ lF' lN' y35 h35 h43 cx cy hm1 hm2 hcF q1 hcN q2 (IH _ _ w.drew.drew T1 T2)
      · have R := Lib.hid (show rins (x :: F) (y :: N) = false by rw [rins, y35, h35]; rfl)
        rw [R.out]
        exact ri_A x y F N b1 o1 c1 b2 o2 c2 w true lF' lN' y35 h35 cx cy hm1 hm2 hcF hcN
    · have R := Lib.hid (show rins (x :: F) (y :: N) = true by rw [rins, y35]; rfl)
      have ey : (bs y).toList = y := bs_toList y
      have hp1 := len_p N
      clear hx1 hx2
      go_enter Tryd.func32, Tryd.ntmps32
      go_wp2
      go_ret
      exact ⟨ret_bool R.out.symm, Below.refl _ _⟩
end Go.Proofs.YtdnbkllofbnpoaaDoor
