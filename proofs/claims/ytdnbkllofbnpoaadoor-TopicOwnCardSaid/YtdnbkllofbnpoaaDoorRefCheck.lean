/- What the document's Check, Place, Cut come to. -/
import Derived.Test.YtdnbkllofbnpoaaDoorStepAny
import Derived.Test.YtdnbkllofbnpoaaDoorEncB
namespace Go.Proofs.YtdnbkllofbnpoaaDoor
open Go.RowKit Go.Lib

set_option maxRecDepth 100000 in
theorem repl_or (l : List UInt8) (hne : l ≠ []) (hr : (decodeL l).1 = 65533) (hb : ¬ l.take 3 = [239, 191, 189]) : (decodeL l).2 = 1 := by
  have hL := decodeL_le l hne
  have hN := decodeL_N l
  rcases decodeN_shape l.length (l.getD 0 0).toNat (l.getD 1 0).toNat (l.getD 2 0).toNat (l.getD 3 0).toNat with ⟨p, q⟩ | ⟨p1, p2, p3, p4, q⟩ | ⟨p1, p2, p3, p4, p5, p6, q⟩ | ⟨p1, p2, p3, p4, p5, p6, p7, q⟩ | q
  · rw [hN, q]
  · rw [hN, q] at hr
    have hr : (l.getD 0 0).toNat % 32 * 64 + (l.getD 1 0).toNat % 64 = 65533 := hr
    omega
  · rw [hN, q] at hr hL
    have hr : (l.getD 0 0).toNat % 16 * 4096 + (l.getD 1 0).toNat % 64 * 64 + (l.getD 2 0).toNat % 64 = 65533 := hr
    obtain ⟨b0, b1, b2, t, rfl⟩ := three_of l hL
    exfalso
    apply hb
    have k0 := b0.toNat_lt
    have k1 := b1.toNat_lt
    have k2 := b2.toNat_lt
    have p1 : b0.toNat / 16 = 14 := p1
    have p3 : b1.toNat / 64 = 2 := p3
    have p4 : b2.toNat / 64 = 2 := p4
    have hr : b0.toNat % 16 * 4096 + b1.toNat % 64 * 64 + b2.toNat % 64 = 65533 := hr
    have e0 : b0 = 239 := UInt8.toNat_inj.1 (show b0.toNat = 239 by omega)
    have e1 : b1 = 191 := UInt8.toNat_inj.1 (show b1.toNat = 191 by omega)
    have e2 : b2 = 189 := UInt8.toNat_inj.1 (show b2.toNat = 189 by omega)
    subst e0; subst e1; subst e2
    rfl
  · rw [hN, q] at hr
    have hr : (l.getD 0 0).toNat % 8 * 262144 + (l.getD 1 0).toNat % 64 * 4096 + (l.getD 2 0).toNat % 64 * 64 + (l.getD 3 0).toNat % 64 = 65533 := hr
    omega
  · rw [hN, q]

/-- The document's test of a piece is the one of its bytes. -/
theorem bad_eq (l : List UInt8) (hne : l ≠ []) : badP (l.take (decodeL l).2) = (!stOk l || stRu l == 0) := by
  rw [badP_eq]
  unfold stRu stOk
  by_cases hr : (decodeL l).1 = 65533
  · by_cases hb : l.take 3 = [239, 191, 189]
    · have hw : (decodeL l).2 = 3 := by
        have h2 : l = 239 :: 191 :: 189 :: l.drop 3 := by
          have := (List.take_append_drop 3 l).symm
          rw [hb] at this
          exact this
        rw [h2, dec_repl]
      rw [hr, hb, hw]
      decide
    · have hw := repl_or l hne hr hb
      have hb' : (l.take 3 == [239, 191, 189]) = false := beq_eq_false_iff_ne.2 hb
      rw [hr, hb', hw]
      decide
  · have h1 : ((decodeL l).1 == 65533) = false := beq_eq_false_iff_ne.2 hr
    rw [h1]
    simp only [Bool.false_and, Bool.or_false, Bool.not_false, if_true, Bool.not_true, Bool.false_or]
    rw [Bool.eq_iff_iff, beq_iff_eq, beq_iff_eq]
    omega

theorem chk_stepL (l : List UInt8) (p : Nat) (h : p < l.length) : chkP (ps (l.drop p)) p =
    if (!stOk (l.drop p) || stRu (l.drop p) == 0) then (p : Int) else chkP (ps (l.drop (p + (decodeL (l.drop p)).2))) (p + (decodeL (l.drop p)).2) := by
  have hne : l.drop p ≠ [] := by
    intro e
    have := congrArg List.length e
    rw [List.length_drop, List.length_nil] at this
    omega
  have hle := decodeL_le _ hne
  conv => lhs; rw [ps_cons _ hne, List.drop_drop]
  show (if badP _ = true then _ else chkP _ (p + _)) = _
  rw [bad_eq _ hne, List.length_take, Nat.min_eq_left hle]

theorem add_add (a : Addr) (p j : Nat) : (a.add p).add j = a.add (p + j) := by
  unfold Addr.add
  by_cases hj : j = 0
  · subst hj; simp
  · by_cases hp : p = 0
    · subst hp; simp [hj]
    · simp [hj, hp, Nat.add_assoc]

/-- step at a place of a slice. -/
theorem step_at (ad : Addr) (c : Nat) (l : List UInt8) (p : Nat) (w : World) (h : p < l.length) (hm : l.length ≤ 1000000) (hx : ∀ (j : Nat) (x : UInt8), l[j]? = some x → w.cell? (ad.add j) = some (.int .u8 (x.toNat : Int))) :
    Calls Tryd.prog 40 #[.slice (some (ad.add p)) (l.length - p) (c - p)] w fun e w' => e = .returned (.tuple #[.int .i32 (stRu (l.drop p)), .int .i64 ((decodeL (l.drop p)).2 : Nat), .bool (stOk (l.drop p))]) ∧ w = w' := by
  have hne : l.drop p ≠ [] := by
    intro e
    have := congrArg List.length e
    rw [List.length_drop, List.length_nil] at this
    omega
  have h2 := step_any (ad.add p) (c - p) (l.drop p) w hne (by rw [List.length_drop]; omega) (fun j x hj => by
    rw [List.getElem?_drop] at hj
    rw [add_add]
    exact hx _ x hj)
  rw [List.length_drop] at h2
  exact h2
theorem drop_w (l : List UInt8) (p : Nat) (h : p < l.length) : 1 ≤ (decodeL (l.drop p)).2 ∧ p + (decodeL (l.drop p)).2 ≤ l.length := by
  have hne : l.drop p ≠ [] := by
    intro e
    have := congrArg List.length e
    rw [List.length_drop, List.length_nil] at this
    omega
  have h1 := decodeL_width (l.drop p)
  have h2 := decodeL_le _ hne
  rw [List.length_drop] at h2
  omega

set_option maxRecDepth 100000 in
set_option maxHeartbeats 1000000 in
theorem rcheck_some (ad : Addr) (c : Nat) (l : List UInt8) (w : World) (hc : l.length ≤ c) (hm : l.length ≤ 1000000) (hx : ∀ (j : Nat) (x : UInt8), l[j]? = some x → w.cell? (ad.add j) = some (.int .u8 (x.toNat : Int))) :
    Calls Tryd.prog 34 #[.slice (some ad) l.length c] w fun e w' => e = .returned (.int .i64 (chkL l)) ∧ w = w' := by
  have HX := Lib.hid hx
  clear hx
  go_enter Tryd.func34, Tryd.ntmps34
  go_wp2
  go_loop [3] (fun i => ∃ p : Nat, p ≤ l.length ∧ i = .int .i64 p ∧ Hid (chkP (ps (l.drop p)) p = chkL l)) (fun i => l.length - (intOf i).toNat)
  case atStart => exact ⟨0, Nat.zero_le _, rfl, rfl⟩
  case round =>
    obtain ⟨p, hp, rfl, hk⟩ := hrel
    by_cases hlt : p < l.length
    · have hcp : p < c := by omega
      have fS := step_at ad c l p w hlt hm HX.out
      have hst := Lib.hid (chk_stepL l p hlt)
      obtain ⟨hw1, hw2⟩ := drop_w l p hlt
      generalize (decodeL (l.drop p)).2 = wd at *
      generalize stOk (l.drop p) = ok at *
      generalize stRu (l.drop p) = r at *
      cases ok with
      | false =>
        have hfin : Hid (chkL l = (p : Int)) := by
          have hk := hk.out
          rw [hst.out] at hk
          exact hk.symm
        go_wp2_with fail
        refine fS.mono ?_
        rintro e w' ⟨rfl, rfl⟩
        go_wp2_with fail
        go_ret
        exact ⟨ret_int (by rw [hfin.out]), rfl⟩
      | true =>
        by_cases h0 : r = 0
        · subst h0
          have hfin : Hid (chkL l = (p : Int)) := by
            have hk := hk.out
            rw [hst.out] at hk
            exact hk.symm
          go_wp2_with fail
          refine fS.mono ?_
          rintro e w' ⟨rfl, rfl⟩
          go_wp2_with fail
          go_ret
          exact ⟨ret_int (by rw [hfin.out]), rfl⟩
        · have h0b : (r == 0) = false := beq_eq_false_iff_ne.2 h0
          have hfin : Hid (chkP (ps (l.drop (p + wd))) (p + wd) = chkL l) := by
            have hk := hk.out
            rw [hst.out, h0b] at hk
            exact hk
          have H0 := Lib.hid h0
          clear h0
          go_wp2_with fail
          refine fS.mono ?_
          rintro e w' ⟨rfl, rfl⟩
          go_wp2_with fail
          go_round
          case rel => exact ⟨p + wd, hw2, by go_num, hfin⟩
          case measure => simp [intOf]; omega
    · go_wp2
      go_ret
      have hk := hk.out
      rw [List.drop_of_length_le (by omega)] at hk
      exact ⟨ret_int (by rw [← hk]; rfl), rfl⟩
set_option maxRecDepth 100000 in
set_option maxHeartbeats 1000000 in
theorem rcheck_none (c : Nat) (w : World) :
    Calls Tryd.prog 34 #[.slice none 0 c] w fun e w' => e = .returned (.int .i64 (-1)) ∧ w = w' := by
  go_enter Tryd.func34, Tryd.ntmps34
  go_wp2
  go_loop [3] (fun i => i = .int .i64 0) (fun _ => 0)
  case atStart => exact rfl
  case round =>
    obtain rfl := hrel
    go_wp2
    go_ret
    exact ⟨rfl, rfl⟩

/-- The document's Check. -/
theorem rcheck_any (v : Value) (l : List UInt8) (w : World) (B : Nat) (hv : BytesAt w B v l) (hm : l.length ≤ 1000000) :
    Calls Tryd.prog 34 #[v] w fun e w' => e = .returned (.int .i64 (chkL l)) ∧ w = w' := by
  obtain ⟨A, c, rfl, hc, _, hn, _, hx⟩ := hv
  cases A with
  | some ad => exact rcheck_some ad c l w hc hm (hx ad rfl)
  | none =>
    obtain rfl := hn rfl
    exact rcheck_none c w
end Go.Proofs.YtdnbkllofbnpoaaDoor
