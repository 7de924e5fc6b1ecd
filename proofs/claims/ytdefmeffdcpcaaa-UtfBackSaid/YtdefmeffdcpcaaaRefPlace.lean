/- What the document's Place and Cut come to. -/
import Derived.Test.YtdefmeffdcpcaaaRefRunes
namespace Go.Proofs.Ytdefmeffdcpcaaa
open Go.RowKit Go.Lib

set_option maxRecDepth 100000 in
set_option maxHeartbeats 1000000 in
/-- The document's Place. -/
theorem rplace_any (s : ByteArray) (n : Int) (w : World) (hs : s.size ≤ 1000000) (hn9 : n ≤ 9223372036854775807) :
    Calls Try.prog 18 #[.string s, .int .i64 n] w fun e w' => e = .returned (.int .i64 (placeI n s.data.toList)) ∧ Below w.heap.size w w' := by
  obtain ⟨W1, c, hcv, hb1, hsz, hge, hx⟩ := bytes_conv s w
  have HX := Lib.hid hx
  have HN9 := Lib.hid hn9
  clear hx hsz hn9
  go_enter Try.func18, Try.ntmps18
  go_wp2
  go_loop [1, 6] (fun q i => ∃ (k p : Nat) (m : Int), q = .int .i64 m ∧ i = .int .i64 p ∧ p ≤ s.size ∧ m ≤ n ∧ Hid (m = n - k) ∧ Hid (0 ≤ n → 0 ≤ m) ∧ Hid (k + cnt (from_ s p) = cnt s.data.toList) ∧ Hid (p = placeL k s.data.toList)) (fun _ i => s.size - (intOf i).toNat)
  case atStart => exact ⟨0, 0, n, rfl, rfl, Nat.zero_le _, Int.le_refl _, by unfold Hid; omega, fun h => h, by unfold Hid; rw [from_zero, Nat.zero_add], by unfold Hid; rw [place_zero]⟩
  case round =>
    obtain ⟨k, p, m, rfl, rfl, hp, hmn, hm, hm0, hk, hpl⟩ := hrel
    by_cases hlt : p < s.size
    · by_cases h0 : 0 < m
      · have hcp : p < c := by omega
        have fS := step_blk w.heap.size c s.data.toList p W1 (by rw [size_list]; exact hlt) (by rw [size_list]; exact hs) HX.out
        obtain ⟨hw1, hw2⟩ := drop_w s.data.toList p (by rw [size_list]; exact hlt)
        have hst := Lib.hid (placeL_step k p s hpl.out hlt hk.out)
        have hcs : Hid (k + 1 + cnt (from_ s (p + (decodeL (s.data.toList.drop p)).2)) = cnt s.data.toList) := by
          have hk := hk.out
          rw [cnt_cons _ (from_ne s p hlt), from_step] at hk
          have e : (decodeL (s.data.toList.drop p)).2 = (Utf8.decode s p).2 := from_width s p
          unfold Hid
          rw [e]
          omega
        have hst2 : Hid (p + (decodeL (s.data.toList.drop p)).2 = placeL (k + 1) s.data.toList) := by
          have e : (decodeL (s.data.toList.drop p)).2 = (Utf8.decode s p).2 := from_width s p
          unfold Hid
          rw [e]
          exact hst.out
        rw [size_list] at fS hw2
        clear hst
        generalize (decodeL (s.data.toList.drop p)).2 = wd at *
        generalize stOk (s.data.toList.drop p) = ok at *
        generalize stR (s.data.toList.drop p) = r at *
        go_wp2_with fail
        refine fS.mono ?_
        rintro e w' ⟨rfl, rfl⟩
        go_wp2_with fail
        go_round
        case rel => exact ⟨k + 1, p + wd, m - 1, by rw [IntWalk.wrap64_in _ (by have := HN9.out; omega)], by go_num, hw2, by omega, by have := hm.out; unfold Hid; omega, by unfold Hid; omega, hcs, hst2⟩
        case measure => simp [intOf]; omega
      · by_cases hz : m = 0
        · have hkn : Hid (n = (k : Int)) := by have := hm.out; unfold Hid; omega
          subst hz
          go_wp2_with fail
          go_ret
          exact ⟨ret_int (by rw [placeI_in n k p _ _ hkn.out (by have := hk.out; omega) hpl.out rfl]), hb1⟩
        · have hzb : (m == 0) = false := beq_eq_false_iff_ne.2 hz
          have hzc : (m != 0) = true := by simp [hz]
          have hn : Hid (n < 0) := by
            have := hm0.out
            unfold Hid
            omega
          have HZ := Lib.hid hz
          clear hz
          go_wp2_with fail
          go_ret
          exact ⟨ret_int (by unfold placeI; rw [if_neg (by have := hn.out; omega)]), hb1⟩
    · have hkc : Hid (k = cnt s.data.toList) := by
        have hk := hk.out
        rw [from_nil s p hlt, cnt_nil, Nat.add_zero] at hk
        exact hk
      by_cases hz : m = 0
      · have hkn : Hid (n = (k : Int)) := by have := hm.out; unfold Hid; omega
        subst hz
        go_wp2_with fail
        go_ret
        exact ⟨ret_int (by rw [placeI_in n k p _ _ hkn.out (by have := hk.out; omega) hpl.out rfl]), hb1⟩
      · have hzb : (m == 0) = false := beq_eq_false_iff_ne.2 hz
        have hzc : (m != 0) = true := by simp [hz]
        have hn : Hid (¬ (0 ≤ n ∧ n ≤ (cnt s.data.toList : Int))) := by
          have h1 := hm0.out
          have h2 := hm.out
          have h3 := hkc.out
          unfold Hid
          omega
        have HZ := Lib.hid hz
        clear hz
        go_wp2_with fail
        go_ret
        exact ⟨ret_int (by unfold placeI; rw [if_neg hn.out]), hb1⟩

set_option maxRecDepth 100000 in
set_option maxHeartbeats 400000 in
/-- The document's Cut. -/
theorem rcut_any (s : ByteArray) (n : Int) (w : World) (hs : s.size ≤ 1000000) (hn9 : n ≤ 9223372036854775807) :
    Calls Try.prog 20 #[.string s, .int .i64 n] w fun e w' => e = .returned (.string ⟨(cutI n s.data.toList).toArray⟩) ∧ Below w.heap.size w w' := by
  by_cases h0 : n < 0
  · have hr : Hid (cutI n s.data.toList = []) := by unfold Hid cutI; rw [if_pos h0]
    go_enter Try.func20, Try.ntmps20
    go_wp2
    go_ret
    exact ⟨by rw [hr.out]; rfl, Below.refl _ _⟩
  · have h0' : 0 ≤ n := by omega
    have ho := cutI_out n s h0'
    have hi := cutI_in n s h0'
    have hb : placeI n s.data.toList ≤ s.size := by
      unfold placeI
      have := place_le n.toNat s.data.toList
      rw [size_list] at this
      split <;> omega
    have hpl := fun W : World => rplace_any s n W hs hn9
    clear hn9
    generalize placeI n s.data.toList = p at *
    by_cases hp : p < 0
    · have Ho := Lib.hid (ho hp)
      clear ho hi
      go_enter Try.func20, Try.ntmps20
      go_wp2_with fail
      refine (hpl _).mono ?_
      rintro e w1 ⟨rfl, hb1⟩
      go_wp2_with fail
      go_ret
      exact ⟨ret_str (by rw [Ho.out]), hb1⟩
    · obtain ⟨q, rfl⟩ := Int.eq_ofNat_of_zero_le (show 0 ≤ p by omega)
      have Hi := Lib.hid (hi q rfl)
      clear ho hi
      go_enter Try.func20, Try.ntmps20
      go_wp2_with fail
      refine (hpl _).mono ?_
      rintro e w1 ⟨rfl, hb1⟩
      go_wp2_with fail
      go_ret
      exact ⟨ret_str (by rw [← Hi.out]), hb1⟩
end Go.Proofs.Ytdefmeffdcpcaaa
