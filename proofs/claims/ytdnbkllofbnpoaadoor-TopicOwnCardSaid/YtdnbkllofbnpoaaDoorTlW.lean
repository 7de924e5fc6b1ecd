/- The law TopicWithin: its walk. Written by gen_tw.py. -/
import Derived.Test.YtdnbkllofbnpoaaDoorTlA
namespace Go.Proofs.YtdnbkllofbnpoaaDoor
open Go.RowKit Go.Lib
set_option linter.unusedVariables false
set_option linter.unusedSimpArgs false

theorem covP_cons (y : List UInt8) (r n : List (List UInt8)) : covP (y :: r) n = (y == [35] || (match n with | [] => false | z :: t => covLev y z && covP r t)) := by cases n <;> rfl
theorem seat_filter (k : Nat) (hk : k < 256) : ∃ x : List UInt8, x.length ≤ 100 ∧ ∀ W, Calls Tryd.prog 10 #[.int .u8 k] W fun e w' => e = .returned (.string (bs x)) ∧ Below W.heap.size W w' :=
  ⟨_, Nat.le_trans (filtT_len _) (by decide), fun W => sfilter_any k hk W⟩
theorem seat_topic (k : Nat) (hk : k < 256) : ∃ x : List UInt8, x.length ≤ 100 ∧ ∀ W, Calls Tryd.prog 11 #[.int .u8 k] W fun e w' => e = .returned (.string (bs x)) ∧ Below W.heap.size W w' :=
  ⟨_, Nat.le_trans (topT_len _) (by decide), fun W => stopic_any k hk W⟩
theorem cov_self : ∀ L : List (List UInt8), covP L L = true
  | [] => rfl
  | x :: r => by
    show (x == [35] || (covLev x x && covP r r)) = true
    rw [cov_self r]
    unfold covLev
    simp
theorem within_self (a : List UInt8) : withinP a a = filtP a := by
  unfold withinP
  rcases h : filtP a with _ | _
  · rfl
  · obtain ⟨c, t, rfl⟩ := text_ne (filt_text h)
    unfold coversP
    rw [cov_self, wild_first c t h, dol_cons]
    by_cases e : c = 36
    · subst e; rfl
    · rw [beq_eq_false_iff_ne.2 e]; rfl
theorem cov_trans : ∀ (B A N : List (List UInt8)), (∀ z ∈ N, (z == [35]) = false) → covP B A = true → covP A N = true → covP B N = true
  | [], A, N, hn, h1, h2 => by
    have : A = [] := by simpa [covP] using h1
    subst this
    exact h2
  | y :: r, A, N, hn, h1, h2 => by
    rw [covP_cons] at h1 ⊢
    rcases hy : y == [35] with _ | _
    · rw [hy, Bool.false_or] at h1
      rw [Bool.false_or]
      cases A with
      | nil => simp at h1
      | cons x t =>
        have h1 : (covLev y x && covP r t) = true := h1
        rw [Bool.and_eq_true] at h1
        have hx : (x == [35]) = false := by
          rcases q : x == [35] with _ | _
          · rfl
          · have := h1.1
            rw [beq_iff_eq.1 q] at this
            unfold covLev at this
            rw [hy] at this
            simp at this
        rw [covP_cons, hx, Bool.false_or] at h2
        cases N with
        | nil => simp at h2
        | cons z u =>
          have h2 : (covLev x z && covP t u) = true := h2
          rw [Bool.and_eq_true] at h2
          have ih := cov_trans r t u (fun q hq => hn q (List.mem_cons_of_mem _ hq)) h1.2 h2.2
          show (covLev y z && covP r u) = true
          rw [ih, Bool.and_true]
          have h3 := h1.1
          have h4 := h2.1
          have hz := hn z (by simp)
          unfold covLev at h3 h4 ⊢
          rw [hx] at h3
          rw [hz] at h4 ⊢
          rcases e : y == x with _ | _
          · rw [e] at h3
            have : (y == [43]) = true := by simpa using h3
            rw [this]; simp
          · rw [beq_iff_eq.1 e]; exact h4
    · rfl
theorem lev_head (l : List UInt8) (h : dolP l = true) : ∃ x r, lev l = (36 :: x) :: r := by
  cases l with
  | nil => simp [dolP] at h
  | cons c t =>
    rw [dol_cons, beq_iff_eq] at h
    subst h
    exact ⟨_, _, by rw [lev, if_neg (by decide)]⟩
theorem dol_of_head {l : List UInt8} {x : List UInt8} {r : List (List UInt8)} (h : lev l = (36 :: x) :: r) : dolP l = true := by
  cases l with
  | nil => simp [lev] at h
  | cons c t =>
    rw [lev] at h
    by_cases q : c = 47
    · rw [if_pos q] at h; simp at h
    · rw [if_neg q] at h
      have : c = 36 := by simp at h; exact h.1.1
      subst this
      rw [dol_cons]; rfl
/-- What matches a filter matches each one that it is within. -/
theorem within_match {a b n : List UInt8} (h1 : withinP a b = true) (h2 : matchP a n = true) : matchP b n = true := by
  unfold withinP at h1
  unfold matchP at h2 ⊢
  rw [Bool.and_eq_true, Bool.and_eq_true] at h1 h2
  obtain ⟨⟨fa, fb⟩, cba⟩ := h1
  obtain ⟨⟨_, nn⟩, can⟩ := h2
  rw [fb, nn, Bool.true_and, Bool.true_and]
  unfold coversP at cba can ⊢
  rw [Bool.and_eq_true] at cba can
  rw [cov_trans _ _ _ (name_lev nn) cba.2 can.2, Bool.and_true]
  rcases hd : dolP n with _ | _
  · rfl
  · rcases hw : wildP ((lev b).headD []) with _ | _
    · rfl
    · exfalso
      have k1 := can.1
      rw [hd, Bool.true_and, Bool.not_eq_true'] at k1
      have k2 := cba.1
      rw [hw, Bool.and_true, Bool.not_eq_true'] at k2
      obtain ⟨z, u, hz⟩ := lev_head n hd
      have hc := can.2
      rw [hz] at hc
      rcases ha : lev a with _ | ⟨x, t⟩
      · exact absurd ha (lev_ne a)
      · rw [ha] at hc k1
        have k1 : wildP x = false := k1
        have hc : (x == [35] || (covLev x (36 :: z) && covP t u)) = true := hc
        have x35 : (x == [35]) = false := by
          rcases q : x == [35] with _ | _
          · rfl
          · rw [beq_iff_eq.1 q] at k1; exact absurd k1 (by decide)
        have x43 : (x == [43]) = false := by
          rcases q : x == [43] with _ | _
          · rfl
          · rw [beq_iff_eq.1 q] at k1; exact absurd k1 (by decide)
        rw [x35, Bool.false_or, Bool.and_eq_true] at hc
        have hx := hc.1
        unfold covLev at hx
        rw [x43, Bool.false_and, Bool.or_false, beq_iff_eq] at hx
        subst hx
        rw [dol_of_head ha] at k2
        exact absurd k2 (by simp)

/-- What lies in the two rows. -/
theorem row_pick (wr : World) (g : Nat) (a b c d : List UInt8) (fr : Nat × Nat) (k : Nat) (h : k < 4) (hl : a.length ≤ 100 ∧ b.length ≤ 100 ∧ c.length ≤ 100 ∧ d.length ≤ 100) (hr : wr.heap[g]? = some (.cells #[.string (bs a), .string (bs b), .string (bs c), .string (bs d)] 9 fr)) :
    ∃ x : List UInt8, wr.cell? ⟨g, k, none⟩ = some (.string (bs x)) ∧ x.length ≤ 100 := by
  rw [cell_of_row wr g k _ _ _ hr]
  match k, h with
  | 0, _ => exact ⟨a, rfl, hl.1⟩
  | 1, _ => exact ⟨b, rfl, hl.2.1⟩
  | 2, _ => exact ⟨c, rfl, hl.2.2.1⟩
  | 3, _ => exact ⟨d, rfl, hl.2.2.2⟩

set_option maxRecDepth 100000 in
set_option maxHeartbeats 8000000 in
theorem twithin_walk (A0 A1 A2 : Option Addr) (c0 c1 c2 : Nat) (l0 l1 l2 : List UInt8) (n3 n4 n5 : Nat) (w : World) (hM : MaxAt w) (hv0 : BytesAt w w.heap.size (.slice A0 l0.length c0) l0) (hv1 : BytesAt w w.heap.size (.slice A1 l1.length c1) l1) (hv2 : BytesAt w w.heap.size (.slice A2 l2.length c2) l2) (hn3 : n3 < 256) (hn4 : n4 < 256) (hn5 : n5 < 256) :
    Calls Tryd.prog 4 #[.slice A0 l0.length c0, .slice A1 l1.length c1, .slice A2 l2.length c2, .int .u8 n3, .int .u8 n4, .int .u8 n5] w fun e w' => e = .returned (.bool true) ∧ Below w.heap.size w w' := by
  have HV0 := Lib.hid hv0
  have HV1 := Lib.hid hv1
  have HV2 := Lib.hid hv2
  clear hv0 hv1 hv2
  by_cases h0 : 10 < l0.length
  · go_enter Tryd.func4, Tryd.ntmps4
    go_wp2_with fail
    refine (known6_any _ hM).mono ?_
    rintro e w1 ⟨rfl, hb1⟩
    go_wp2_with fail
    go_ret
    exact ⟨rfl, hb1⟩
  by_cases h1 : 10 < l1.length
  · go_enter Tryd.func4, Tryd.ntmps4
    go_wp2_with fail
    refine (known6_any _ hM).mono ?_
    rintro e w1 ⟨rfl, hb1⟩
    go_wp2_with fail
    go_ret
    exact ⟨rfl, hb1⟩
  by_cases h2 : 10 < l2.length
  · go_enter Tryd.func4, Tryd.ntmps4
    go_wp2_with fail
    refine (known6_any _ hM).mono ?_
    rintro e w1 ⟨rfl, hb1⟩
    go_wp2_with fail
    go_ret
    exact ⟨rfl, hb1⟩
  have lens : Hid ((pieceL l0).length ≤ 100 ∧ (pieceL l1).length ≤ 100 ∧ (pieceL l2).length ≤ 100) := Lib.hid (by have := pieceL_len l0; have := pieceL_len l1; have := pieceL_len l2; omega)
  obtain ⟨q3, lq3, cq3⟩ := seat_filter n3 hn3
  obtain ⟨q4, lq4, cq4⟩ := seat_filter n4 hn4
  obtain ⟨t5, lt5, ct5⟩ := seat_topic n5 hn5
  obtain ⟨t3, lt3, ct3⟩ := seat_topic n3 hn3
  go_enter Tryd.func4, Tryd.ntmps4
  go_wp2_with fail
  refine (known6_any _ hM).mono ?_
  rintro e w1 ⟨rfl, b1⟩
  go_wp2_with fail
  refine (pieces_any _ l0 _ (HV0.out.on b1) (by omega)).mono ?_
  rintro e w2 ⟨rfl, hb2⟩
  have b2 := thn b1 hb2
  clear hb2
  go_wp2_with fail
  refine (pieces_any _ l1 _ (HV1.out.on b2) (by omega)).mono ?_
  rintro e w3 ⟨rfl, hb3⟩
  have b3 := thn b2 hb3
  clear hb3
  go_wp2_with fail
  refine (cq3 _).mono ?_
  rintro e w4 ⟨rfl, hb4⟩
  have b4 := thn b3 hb4
  clear hb4
  go_wp2_with fail
  refine (cq4 _).mono ?_
  rintro e w5 ⟨rfl, hb5⟩
  have b5 := thn b4 hb5
  clear hb5
  go_wp2_with fail
  refine (pieces_any _ l2 _ (HV2.out.on (alB b5 _)) (by omega)).mono ?_
  rintro e w6 ⟨rfl, hb6⟩
  have r6 := Lib.hid (heap_below hb6 (heap_alloc_new _ _))
  have b6 := thn (alB b5 _) hb6
  have hw5 : w5.heap.size < w6.heap.size := by have := hb6.size; simp at this; omega
  clear hb6
  go_wp2_with fail
  refine (ct5 _).mono ?_
  rintro e w7 ⟨rfl, hb7⟩
  have r7 := Lib.hid (heap_below hb7 r6.out)
  have b7 := thn b6 hb7
  have hw7 := hb7.size
  clear hb7 r6
  go_wp2_with fail
  refine (ct3 _).mono ?_
  rintro e w8 ⟨rfl, hb8⟩
  have r8 := Lib.hid (heap_below hb8 r7.out)
  have b8 := thn b7 hb8
  have hw8 := hb8.size
  clear hb8 r7
  go_wp2_with fail
  refine (pieces_any _ l0 _ (HV0.out.on b8) (by omega)).mono ?_
  rintro e w9 ⟨rfl, hb9⟩
  have r9 := Lib.hid (heap_below hb9 r8.out)
  have b9 := thn b8 hb9
  have hw9 := hb9.size
  clear hb9 r8
  have hlF : Hid ((pieceL l0).length ≤ 100 ∧ (pieceL l1).length ≤ 100 ∧ q3.length ≤ 100 ∧ q4.length ≤ 100) := Lib.hid ⟨lens.out.1, lens.out.2.1, lq3, lq4⟩
  have hlN : Hid ((pieceL l2).length ≤ 100 ∧ t5.length ≤ 100 ∧ t3.length ≤ 100 ∧ (pieceL l0).length ≤ 100) := Lib.hid ⟨lens.out.2.2, lt5, lt3, lens.out.1⟩
  generalize pieceL l0 = p0 at *
  generalize pieceL l1 = p1 at *
  generalize pieceL l2 = p2 at *
  clear lens HV0 HV1 HV2 b1 b2 b3 b4 b5 b6 b7 b8 cq3 cq4 ct5 ct3 lq3 lq4 lt5 lt3
  go_wp2_with fail
  obtain ⟨g1, hg1⟩ : ∃ g1, g1 = w5.heap.size := ⟨_, rfl⟩
  obtain ⟨g2, hg2⟩ : ∃ g2, g2 = w9.heap.size := ⟨_, rfl⟩
  rw [← hg1, ← hg2]
  rw [← hg1] at r9
  have rF : (w9.alloc (.cells #[.string (bs p2), .string (bs t5), .string (bs t3), .string (bs p0)] 9)).heap[g1]? = some (.cells #[.string (bs p0), .string (bs p1), .string (bs q3), .string (bs q4)] 9 (0, 0)) := heap_keep r9.out
  have rN : (w9.alloc (.cells #[.string (bs p2), .string (bs t5), .string (bs t3), .string (bs p0)] 9)).heap[g2]? = some (.cells #[.string (bs p2), .string (bs t5), .string (bs t3), .string (bs p0)] 9 (0, 0)) := by rw [hg2]; exact heap_alloc_new _ _
  have bW := alB b9 (.cells #[.string (bs p2), .string (bs t5), .string (bs t3), .string (bs p0)] 9)
  generalize w9.alloc (.cells #[.string (bs p2), .string (bs t5), .string (bs t3), .string (bs p0)] 9) = W at *
  have hMW := hM.on bW
  clear r9 hg1 hg2 hw5 hw7 hw8 hw9 b9
  have RF := Lib.hid rF
  have RN := Lib.hid rN
  clear rF rN
  go_loopw [15] (fun i wr => ∃ k : Nat, k ≤ 4 ∧ i = .int .i64 k ∧ Below W.heap.size W wr) (fun i _ => 4 - (RowKit.intOf i).toNat)
  case atStart => exact ⟨0, by omega, rfl, Below.refl _ _⟩
  case round =>
    obtain ⟨k1, hk1, rfl, hbx⟩ := hrel
    by_cases hlt : k1 < 4
    · obtain ⟨f1, cA, lf1⟩ := row_pick wr g1 _ _ _ _ _ k1 hlt hlF.out (heap_below hbx RF.out)
      have hMr := hMW.on hbx
      have hs1 : (bs f1).size ≤ 1000000 := by rw [bs_size]; omega
      have cWs := fun W hM => within_any (bs f1) (bs f1) W hM hs1 hs1
      have cFs := fun W hM => filter_any (bs f1) W hM hs1
      rw [bs_data] at cWs cFs
      rw [within_self] at cWs
      have hkl : (k1 : Int) < 4 := by omega
      have hk0 : (0 : Int) ≤ (k1 : Int) := by omega
      go_wp2_with fail
      have hneq : (filtP f1 != filtP f1) = false := by simp
      generalize filtP f1 = ff at *
      refine wp_region_held_drew (S := (fun W => Below wr.heap.size wr W)) (by rfl) (Below.refl _ _).drew ?_
      intro hS
      refine wpAnyH_take (i := 0) (oi := { dst := some 57, op := Go.Op.move (Go.Operand.tmp 13), type := 26, pos := "law.go:58", after := #[], guard := none }) (v := .slice (some ⟨g1, 0, none⟩) 4 4) rfl (by kernel_rfl) (by kernel_rfl) (by kernel_rfl) (fun _ _ _ h => h) (.inl ⟨by kernel_rfl, fun W hW => by go_simp⟩) hS ?_
      simp only [Act.put, List.setIfInBounds_toArray, List.set_cons_zero, List.set_cons_succ]
      refine wpAnyH_take (i := 1) (oi := { dst := some 58, op := Go.Op.move (Go.Operand.tmp 15), type := 3, pos := "law.go:58", after := #[], guard := none }) (v := .int .i64 k1) rfl (by kernel_rfl) (by kernel_rfl) (by kernel_rfl) (fun _ _ _ h => h) (.inl ⟨by kernel_rfl, fun W hW => by go_simp⟩) hS ?_
      simp only [Act.put, List.setIfInBounds_toArray, List.set_cons_zero, List.set_cons_succ]
      refine wpAnyH_take (i := 2) (oi := { dst := some 59, op := Go.Op.indexAddr 26 (Go.Operand.tmp 57) (Go.Operand.tmp 58), type := 0, pos := "law.go:58", after := #[{ on := 0, ground := Go.Ground.data }, { on := 1, ground := Go.Ground.data }], guard := none }) (v := .pointer (some ⟨g1, k1, none⟩)) rfl (by kernel_rfl) (by kernel_rfl) (by kernel_rfl) (fun _ _ _ h => h) (.inl ⟨by kernel_rfl, fun W hW => by go_simp⟩) hS ?_
      simp only [Act.put, List.setIfInBounds_toArray, List.set_cons_zero, List.set_cons_succ]
      refine wpAnyH_take (i := 3) (oi := { dst := some 60, op := Go.Op.load 9 (Go.Operand.tmp 59), type := 9, pos := "law.go:58", after := #[{ on := 2, ground := Go.Ground.data }], guard := none }) (v := .string (bs f1)) rfl (by kernel_rfl) (by kernel_rfl) (by kernel_rfl) (fun _ _ _ h => h) (.inl ⟨by kernel_rfl, fun W hW => by simp [execOp, go_sem, keep_cell cA hW]⟩) hS ?_
      simp only [Act.put, List.setIfInBounds_toArray, List.set_cons_zero, List.set_cons_succ]
      refine wpAnyH_take (i := 4) (oi := { dst := some 61, op := Go.Op.move (Go.Operand.tmp 13), type := 26, pos := "law.go:58", after := #[], guard := none }) (v := .slice (some ⟨g1, 0, none⟩) 4 4) rfl (by kernel_rfl) (by kernel_rfl) (by kernel_rfl) (fun _ _ _ h => h) (.inl ⟨by kernel_rfl, fun W hW => by go_simp⟩) hS ?_
      simp only [Act.put, List.setIfInBounds_toArray, List.set_cons_zero, List.set_cons_succ]
      refine wpAnyH_take (i := 5) (oi := { dst := some 62, op := Go.Op.move (Go.Operand.tmp 15), type := 3, pos := "law.go:58", after := #[], guard := none }) (v := .int .i64 k1) rfl (by kernel_rfl) (by kernel_rfl) (by kernel_rfl) (fun _ _ _ h => h) (.inl ⟨by kernel_rfl, fun W hW => by go_simp⟩) hS ?_
      simp only [Act.put, List.setIfInBounds_toArray, List.set_cons_zero, List.set_cons_succ]
      refine wpAnyH_take (i := 6) (oi := { dst := some 63, op := Go.Op.indexAddr 26 (Go.Operand.tmp 61) (Go.Operand.tmp 62), type := 0, pos := "law.go:58", after := #[{ on := 4, ground := Go.Ground.data }, { on := 5, ground := Go.Ground.data }], guard := none }) (v := .pointer (some ⟨g1, k1, none⟩)) rfl (by kernel_rfl) (by kernel_rfl) (by kernel_rfl) (fun _ _ _ h => h) (.inl ⟨by kernel_rfl, fun W hW => by go_simp⟩) hS ?_
      simp only [Act.put, List.setIfInBounds_toArray, List.set_cons_zero, List.set_cons_succ]
      refine wpAnyH_take (i := 7) (oi := { dst := some 64, op := Go.Op.load 9 (Go.Operand.tmp 63), type := 9, pos := "law.go:58", after := #[{ on := 6, ground := Go.Ground.data }], guard := none }) (v := .string (bs f1)) rfl (by kernel_rfl) (by kernel_rfl) (by kernel_rfl) (fun _ _ _ h => h) (.inl ⟨by kernel_rfl, fun W hW => by simp [execOp, go_sem, keep_cell cA hW]⟩) hS ?_
      simp only [Act.put, List.setIfInBounds_toArray, List.set_cons_zero, List.set_cons_succ]
      refine wpAnyH_take (i := 9) (oi := { dst := some 66, op := Go.Op.move (Go.Operand.tmp 13), type := 26, pos := "law.go:58", after := #[], guard := none }) (v := .slice (some ⟨g1, 0, none⟩) 4 4) rfl (by kernel_rfl) (by kernel_rfl) (by kernel_rfl) (fun _ _ _ h => h) (.inl ⟨by kernel_rfl, fun W hW => by go_simp⟩) hS ?_
      simp only [Act.put, List.setIfInBounds_toArray, List.set_cons_zero, List.set_cons_succ]
      refine wpAnyH_take (i := 10) (oi := { dst := some 67, op := Go.Op.move (Go.Operand.tmp 15), type := 3, pos := "law.go:58", after := #[], guard := none }) (v := .int .i64 k1) rfl (by kernel_rfl) (by kernel_rfl) (by kernel_rfl) (fun _ _ _ h => h) (.inl ⟨by kernel_rfl, fun W hW => by go_simp⟩) hS ?_
      simp only [Act.put, List.setIfInBounds_toArray, List.set_cons_zero, List.set_cons_succ]
      refine wpAnyH_take (i := 11) (oi := { dst := some 68, op := Go.Op.indexAddr 26 (Go.Operand.tmp 66) (Go.Operand.tmp 67), type := 0, pos := "law.go:58", after := #[{ on := 9, ground := Go.Ground.data }, { on := 10, ground := Go.Ground.data }], guard := none }) (v := .pointer (some ⟨g1, k1, none⟩)) rfl (by kernel_rfl) (by kernel_rfl) (by kernel_rfl) (fun _ _ _ h => h) (.inl ⟨by kernel_rfl, fun W hW => by go_simp⟩) hS ?_
      simp only [Act.put, List.setIfInBounds_toArray, List.set_cons_zero, List.set_cons_succ]
      refine wpAnyH_take (i := 12) (oi := { dst := some 69, op := Go.Op.load 9 (Go.Operand.tmp 68), type := 9, pos := "law.go:58", after := #[{ on := 11, ground := Go.Ground.data }], guard := none }) (v := .string (bs f1)) rfl (by kernel_rfl) (by kernel_rfl) (by kernel_rfl) (fun _ _ _ h => h) (.inl ⟨by kernel_rfl, fun W hW => by simp [execOp, go_sem, keep_cell cA hW]⟩) hS ?_
      simp only [Act.put, List.setIfInBounds_toArray, List.set_cons_zero, List.set_cons_succ]
      refine wpAnyH_ready (rs := [8]) (by kernel_rfl) (by simp) ?_
      refine AllReadyH.cons (o := { dst := some 65, op := Go.Op.call { callee := Go.Callee.value (Go.Operand.func 21), args := #[Go.Operand.tmp 60, Go.Operand.tmp 64], argTypes := #[9, 9] }, type := 4, pos := "law.go:58", after := #[{ on := 3, ground := Go.Ground.data }, { on := 7, ground := Go.Ground.data }], guard := none }) rfl (fun K hK => ?_) (AllReadyH.nil)
      rw [if_pos (by kernel_rfl)]
      go_wp2_with fail
      refine (cWs _ (hMr.on hS)).mono ?_
      rintro e wa ⟨rfl, hba⟩
      go_wp2_with fail
      refine hK.out _ _ (thn hS hba) (fun hS' => ?_)
      clear hK hS hba
      have hS := hS'
      clear hS'
      refine wpAnyH_ready (rs := [13]) (by kernel_rfl) (by simp) ?_
      refine AllReadyH.cons (o := { dst := some 70, op := Go.Op.call { callee := Go.Callee.value (Go.Operand.func 14), args := #[Go.Operand.tmp 69], argTypes := #[9] }, type := 4, pos := "law.go:58", after := #[{ on := 12, ground := Go.Ground.data }, { on := 8, ground := Go.Ground.chain }], guard := none }) rfl (fun K hK => ?_) (AllReadyH.nil)
      rw [if_pos (by kernel_rfl)]
      go_wp2_with fail
      refine (cFs _ (hMr.on hS)).mono ?_
      rintro e wb ⟨rfl, hbb⟩
      go_wp2_with fail
      refine hK.out _ _ (thn hS hbb) (fun hS' => ?_)
      clear hK hS hbb
      have hS := hS'
      clear hS'
      refine wpAnyH_take (i := 14) (oi := { dst := some 71, op := Go.Op.binOp Go.BinOp.neq 4 (Go.Operand.tmp 65) (Go.Operand.tmp 70) 4, type := 4, pos := "law.go:58", after := #[{ on := 8, ground := Go.Ground.data }, { on := 13, ground := Go.Ground.data }], guard := none }) (v := .bool false) rfl (by kernel_rfl) (by kernel_rfl) (by kernel_rfl) (fun _ _ _ h => h) (.inl ⟨by kernel_rfl, fun W hW => by go_simp⟩) hS ?_
      simp only [Act.put, List.setIfInBounds_toArray, List.set_cons_zero, List.set_cons_succ]
      refine wpAnyH_done (by kernel_rfl) ?_ _
      go_wp2_with fail
      clear cWs cFs hneq
      go_loopw [16] (fun i wq => ∃ k : Nat, k ≤ 4 ∧ i = .int .i64 k ∧ Below W.heap.size W wq) (fun i _ => 4 - (RowKit.intOf i).toNat)
      case atStart => exact ⟨0, by omega, rfl, thn hbx hS⟩
      case round =>
        obtain ⟨k2, hk2, rfl, hbq⟩ := hrel
        by_cases hlt2 : k2 < 4
        · have hkl2 : (k2 : Int) < 4 := by omega
          have hk02 : (0 : Int) ≤ (k2 : Int) := by omega
          go_wp2_with fail
          go_loopw [17] (fun i wz => ∃ k : Nat, k ≤ 4 ∧ i = .int .i64 k ∧ Below W.heap.size W wz) (fun i _ => 4 - (RowKit.intOf i).toNat)
          case atStart => exact ⟨0, by omega, rfl, hbq⟩
          case round =>
            obtain ⟨k3, hk3, rfl, hbz⟩ := hrel
            by_cases hlt3 : k3 < 4
            · clear cA
              obtain ⟨f1, cA, lf1⟩ := row_pick wr g1 _ _ _ _ _ k1 hlt hlF.out (heap_below hbz RF.out)
              obtain ⟨f2, cB, lf2⟩ := row_pick wr g1 _ _ _ _ _ k2 hlt2 hlF.out (heap_below hbz RF.out)
              obtain ⟨n3, cC, ln3⟩ := row_pick wr g2 _ _ _ _ _ k3 hlt3 hlN.out (heap_below hbz RN.out)
              have hMz := hMW.on hbz
              have hs1 : (bs f1).size ≤ 1000000 := by rw [bs_size]; omega
              have hs2 : (bs f2).size ≤ 1000000 := by rw [bs_size]; omega
              have hs3 : (bs n3).size ≤ 1000000 := by rw [bs_size]; omega
              have cW := fun W hM => within_any (bs f1) (bs f2) W hM hs1 hs2
              have cM1 := fun W hM => match_any (bs f1) (bs n3) W hM hs1 hs3
              have cM2 := fun W hM => match_any (bs f2) (bs n3) W hM hs2 hs3
              rw [bs_data, bs_data] at cW cM1 cM2
              have hthe : withinP f1 f2 = true → matchP f1 n3 = true → matchP f2 n3 = true := fun h1 h2 => within_match h1 h2
              have hkl3 : (k3 : Int) < 4 := by omega
              have hk03 : (0 : Int) ≤ (k3 : Int) := by omega
              generalize withinP f1 f2 = u1 at *
              generalize matchP f1 n3 = u2 at *
              generalize matchP f2 n3 = u3 at *
              clear hs1 hs2 hs3 lf1 lf2 ln3
              cases u1
              · clear hthe
                go_wp2_with fail
                refine wp_region_held_drew (S := (fun W => Below wr.heap.size wr W)) (by rfl) (Below.refl _ _).drew ?_
                intro hS
                refine wpAnyH_take (i := 0) (oi := { dst := some 84, op := Go.Op.move (Go.Operand.tmp 13), type := 26, pos := "law.go:63", after := #[], guard := none }) (v := .slice (some ⟨g1, 0, none⟩) 4 4) rfl (by kernel_rfl) (by kernel_rfl) (by kernel_rfl) (fun _ _ _ h => h) (.inl ⟨by kernel_rfl, fun W hW => by go_simp⟩) hS ?_
                simp only [Act.put, List.setIfInBounds_toArray, List.set_cons_zero, List.set_cons_succ]
                refine wpAnyH_take (i := 1) (oi := { dst := some 85, op := Go.Op.move (Go.Operand.tmp 15), type := 3, pos := "law.go:63", after := #[], guard := none }) (v := .int .i64 k1) rfl (by kernel_rfl) (by kernel_rfl) (by kernel_rfl) (fun _ _ _ h => h) (.inl ⟨by kernel_rfl, fun W hW => by go_simp⟩) hS ?_
                simp only [Act.put, List.setIfInBounds_toArray, List.set_cons_zero, List.set_cons_succ]
                refine wpAnyH_take (i := 2) (oi := { dst := some 86, op := Go.Op.indexAddr 26 (Go.Operand.tmp 84) (Go.Operand.tmp 85), type := 0, pos := "law.go:63", after := #[{ on := 0, ground := Go.Ground.data }, { on := 1, ground := Go.Ground.data }], guard := none }) (v := .pointer (some ⟨g1, k1, none⟩)) rfl (by kernel_rfl) (by kernel_rfl) (by kernel_rfl) (fun _ _ _ h => h) (.inl ⟨by kernel_rfl, fun W hW => by go_simp⟩) hS ?_
                simp only [Act.put, List.setIfInBounds_toArray, List.set_cons_zero, List.set_cons_succ]
                refine wpAnyH_take (i := 3) (oi := { dst := some 87, op := Go.Op.load 9 (Go.Operand.tmp 86), type := 9, pos := "law.go:63", after := #[{ on := 2, ground := Go.Ground.data }], guard := none }) (v := .string (bs f1)) rfl (by kernel_rfl) (by kernel_rfl) (by kernel_rfl) (fun _ _ _ h => h) (.inl ⟨by kernel_rfl, fun W hW => by simp [execOp, go_sem, keep_cell cA hW]⟩) hS ?_
                simp only [Act.put, List.setIfInBounds_toArray, List.set_cons_zero, List.set_cons_succ]
                refine wpAnyH_take (i := 4) (oi := { dst := some 88, op := Go.Op.move (Go.Operand.tmp 13), type := 26, pos := "law.go:63", after := #[], guard := none }) (v := .slice (some ⟨g1, 0, none⟩) 4 4) rfl (by kernel_rfl) (by kernel_rfl) (by kernel_rfl) (fun _ _ _ h => h) (.inl ⟨by kernel_rfl, fun W hW => by go_simp⟩) hS ?_
                simp only [Act.put, List.setIfInBounds_toArray, List.set_cons_zero, List.set_cons_succ]
                refine wpAnyH_take (i := 5) (oi := { dst := some 89, op := Go.Op.move (Go.Operand.tmp 16), type := 3, pos := "law.go:63", after := #[], guard := none }) (v := .int .i64 k2) rfl (by kernel_rfl) (by kernel_rfl) (by kernel_rfl) (fun _ _ _ h => h) (.inl ⟨by kernel_rfl, fun W hW => by go_simp⟩) hS ?_
                simp only [Act.put, List.setIfInBounds_toArray, List.set_cons_zero, List.set_cons_succ]
                refine wpAnyH_take (i := 6) (oi := { dst := some 90, op := Go.Op.indexAddr 26 (Go.Operand.tmp 88) (Go.Operand.tmp 89), type := 0, pos := "law.go:63", after := #[{ on := 4, ground := Go.Ground.data }, { on := 5, ground := Go.Ground.data }], guard := none }) (v := .pointer (some ⟨g1, k2, none⟩)) rfl (by kernel_rfl) (by kernel_rfl) (by kernel_rfl) (fun _ _ _ h => h) (.inl ⟨by kernel_rfl, fun W hW => by go_simp⟩) hS ?_
                simp only [Act.put, List.setIfInBounds_toArray, List.set_cons_zero, List.set_cons_succ]
                refine wpAnyH_take (i := 7) (oi := { dst := some 91, op := Go.Op.load 9 (Go.Operand.tmp 90), type := 9, pos := "law.go:63", after := #[{ on := 6, ground := Go.Ground.data }], guard := none }) (v := .string (bs f2)) rfl (by kernel_rfl) (by kernel_rfl) (by kernel_rfl) (fun _ _ _ h => h) (.inl ⟨by kernel_rfl, fun W hW => by simp [execOp, go_sem, keep_cell cB hW]⟩) hS ?_
                simp only [Act.put, List.setIfInBounds_toArray, List.set_cons_zero, List.set_cons_succ]
                refine wpAnyH_ready (rs := [8]) (by kernel_rfl) (by simp) ?_
                refine AllReadyH.cons (o := { dst := some 92, op := Go.Op.call { callee := Go.Callee.value (Go.Operand.func 21), args := #[Go.Operand.tmp 87, Go.Operand.tmp 91], argTypes := #[9, 9] }, type := 4, pos := "law.go:63", after := #[{ on := 3, ground := Go.Ground.data }, { on := 7, ground := Go.Ground.data }], guard := none }) rfl (fun K hK => ?_) (AllReadyH.nil)
                rw [if_pos (by kernel_rfl)]
                go_wp2_with fail
                refine (cW _ (hMz.on hS)).mono ?_
                rintro e wa ⟨rfl, hba⟩
                go_wp2_with fail
                refine hK.out _ _ (thn hS hba) (fun hS' => ?_)
                clear hK hS hba
                have hS := hS'
                clear hS'
                refine wpAnyH_take (i := 9) (oi := { dst := some 93, op := Go.Op.move (Go.Operand.tmp 92), type := 4, pos := "law.go:63", after := #[{ on := 8, ground := Go.Ground.data }, { on := 8, ground := Go.Ground.chain }], guard := none }) (v := .bool false) rfl (by kernel_rfl) (by kernel_rfl) (by kernel_rfl) (fun _ _ _ h => h) (.inl ⟨by kernel_rfl, fun W hW => by go_simp⟩) hS ?_
                simp only [Act.put, List.setIfInBounds_toArray, List.set_cons_zero, List.set_cons_succ]
                refine wpAnyH_take (i := 10) (oi := { dst := some 94, op := Go.Op.move (Go.Operand.tmp 13), type := 26, pos := "law.go:63", after := #[{ on := 9, ground := Go.Ground.guard }], guard := some (9, true) }) (v := undef) rfl (by kernel_rfl) (by kernel_rfl) (by kernel_rfl) (fun _ _ _ h => h) (.inr ⟨by kernel_rfl, rfl⟩) hS ?_
                simp only [Act.put, List.setIfInBounds_toArray, List.set_cons_zero, List.set_cons_succ]
                refine wpAnyH_take (i := 11) (oi := { dst := some 95, op := Go.Op.move (Go.Operand.tmp 15), type := 3, pos := "law.go:63", after := #[{ on := 9, ground := Go.Ground.guard }], guard := some (9, true) }) (v := undef) rfl (by kernel_rfl) (by kernel_rfl) (by kernel_rfl) (fun _ _ _ h => h) (.inr ⟨by kernel_rfl, rfl⟩) hS ?_
                simp only [Act.put, List.setIfInBounds_toArray, List.set_cons_zero, List.set_cons_succ]
                refine wpAnyH_take (i := 12) (oi := { dst := some 96, op := Go.Op.indexAddr 26 (Go.Operand.tmp 94) (Go.Operand.tmp 95), type := 0, pos := "law.go:63", after := #[{ on := 10, ground := Go.Ground.data }, { on := 11, ground := Go.Ground.data }, { on := 9, ground := Go.Ground.guard }], guard := some (9, true) }) (v := undef) rfl (by kernel_rfl) (by kernel_rfl) (by kernel_rfl) (fun _ _ _ h => h) (.inr ⟨by kernel_rfl, rfl⟩) hS ?_
                simp only [Act.put, List.setIfInBounds_toArray, List.set_cons_zero, List.set_cons_succ]
                refine wpAnyH_take (i := 13) (oi := { dst := some 97, op := Go.Op.load 9 (Go.Operand.tmp 96), type := 9, pos := "law.go:63", after := #[{ on := 12, ground := Go.Ground.data }, { on := 9, ground := Go.Ground.guard }], guard := some (9, true) }) (v := undef) rfl (by kernel_rfl) (by kernel_rfl) (by kernel_rfl) (fun _ _ _ h => h) (.inr ⟨by kernel_rfl, rfl⟩) hS ?_
                simp only [Act.put, List.setIfInBounds_toArray, List.set_cons_zero, List.set_cons_succ]
                refine wpAnyH_take (i := 14) (oi := { dst := some 98, op := Go.Op.move (Go.Operand.tmp 14), type := 26, pos := "law.go:63", after := #[{ on := 9, ground := Go.Ground.guard }], guard := some (9, true) }) (v := undef) rfl (by kernel_rfl) (by kernel_rfl) (by kernel_rfl) (fun _ _ _ h => h) (.inr ⟨by kernel_rfl, rfl⟩) hS ?_
                simp only [Act.put, List.setIfInBounds_toArray, List.set_cons_zero, List.set_cons_succ]
                refine wpAnyH_take (i := 15) (oi := { dst := some 99, op := Go.Op.move (Go.Operand.tmp 17), type := 3, pos := "law.go:63", after := #[{ on := 9, ground := Go.Ground.guard }], guard := some (9, true) }) (v := undef) rfl (by kernel_rfl) (by kernel_rfl) (by kernel_rfl) (fun _ _ _ h => h) (.inr ⟨by kernel_rfl, rfl⟩) hS ?_
                simp only [Act.put, List.setIfInBounds_toArray, List.set_cons_zero, List.set_cons_succ]
                refine wpAnyH_take (i := 16) (oi := { dst := some 100, op := Go.Op.indexAddr 26 (Go.Operand.tmp 98) (Go.Operand.tmp 99), type := 0, pos := "law.go:63", after := #[{ on := 14, ground := Go.Ground.data }, { on := 15, ground := Go.Ground.data }, { on := 9, ground := Go.Ground.guard }], guard := some (9, true) }) (v := undef) rfl (by kernel_rfl) (by kernel_rfl) (by kernel_rfl) (fun _ _ _ h => h) (.inr ⟨by kernel_rfl, rfl⟩) hS ?_
                simp only [Act.put, List.setIfInBounds_toArray, List.set_cons_zero, List.set_cons_succ]
                refine wpAnyH_take (i := 17) (oi := { dst := some 101, op := Go.Op.load 9 (Go.Operand.tmp 100), type := 9, pos := "law.go:63", after := #[{ on := 16, ground := Go.Ground.data }, { on := 9, ground := Go.Ground.guard }], guard := some (9, true) }) (v := undef) rfl (by kernel_rfl) (by kernel_rfl) (by kernel_rfl) (fun _ _ _ h => h) (.inr ⟨by kernel_rfl, rfl⟩) hS ?_
                simp only [Act.put, List.setIfInBounds_toArray, List.set_cons_zero, List.set_cons_succ]
                refine wpAnyH_take (i := 18) (oi := { dst := some 102, op := Go.Op.call { callee := Go.Callee.value (Go.Operand.func 19), args := #[Go.Operand.tmp 97, Go.Operand.tmp 101], argTypes := #[9, 9] }, type := 4, pos := "law.go:63", after := #[{ on := 13, ground := Go.Ground.data }, { on := 17, ground := Go.Ground.data }, { on := 9, ground := Go.Ground.chain }, { on := 9, ground := Go.Ground.guard }], guard := some (9, true) }) (v := undef) rfl (by kernel_rfl) (by kernel_rfl) (by kernel_rfl) (fun _ _ _ h => h) (.inr ⟨by kernel_rfl, rfl⟩) hS ?_
                simp only [Act.put, List.setIfInBounds_toArray, List.set_cons_zero, List.set_cons_succ]
                refine wpAnyH_take (i := 19) (oi := { dst := some 103, op := Go.Op.pick (Go.Operand.tmp 93) (Go.Operand.tmp 102) (Go.Operand.const (Go.Value.bool false)), type := 4, pos := "law.go:63", after := #[{ on := 9, ground := Go.Ground.data }, { on := 18, ground := Go.Ground.data }], guard := none }) (v := .bool false) rfl (by kernel_rfl) (by kernel_rfl) (by kernel_rfl) (fun _ _ _ h => h) (.inl ⟨by kernel_rfl, fun W hW => by go_simp⟩) hS ?_
                simp only [Act.put, List.setIfInBounds_toArray, List.set_cons_zero, List.set_cons_succ]
                refine wpAnyH_take (i := 20) (oi := { dst := some 104, op := Go.Op.move (Go.Operand.tmp 103), type := 4, pos := "law.go:63", after := #[{ on := 19, ground := Go.Ground.data }, { on := 18, ground := Go.Ground.chain }], guard := none }) (v := .bool false) rfl (by kernel_rfl) (by kernel_rfl) (by kernel_rfl) (fun _ _ _ h => h) (.inl ⟨by kernel_rfl, fun W hW => by go_simp⟩) hS ?_
                simp only [Act.put, List.setIfInBounds_toArray, List.set_cons_zero, List.set_cons_succ]
                refine wpAnyH_take (i := 21) (oi := { dst := some 105, op := Go.Op.move (Go.Operand.tmp 13), type := 26, pos := "law.go:63", after := #[{ on := 20, ground := Go.Ground.guard }], guard := some (20, true) }) (v := undef) rfl (by kernel_rfl) (by kernel_rfl) (by kernel_rfl) (fun _ _ _ h => h) (.inr ⟨by kernel_rfl, rfl⟩) hS ?_
                simp only [Act.put, List.setIfInBounds_toArray, List.set_cons_zero, List.set_cons_succ]
                refine wpAnyH_take (i := 22) (oi := { dst := some 106, op := Go.Op.move (Go.Operand.tmp 16), type := 3, pos := "law.go:63", after := #[{ on := 20, ground := Go.Ground.guard }], guard := some (20, true) }) (v := undef) rfl (by kernel_rfl) (by kernel_rfl) (by kernel_rfl) (fun _ _ _ h => h) (.inr ⟨by kernel_rfl, rfl⟩) hS ?_
                simp only [Act.put, List.setIfInBounds_toArray, List.set_cons_zero, List.set_cons_succ]
                refine wpAnyH_take (i := 23) (oi := { dst := some 107, op := Go.Op.indexAddr 26 (Go.Operand.tmp 105) (Go.Operand.tmp 106), type := 0, pos := "law.go:63", after := #[{ on := 21, ground := Go.Ground.data }, { on := 22, ground := Go.Ground.data }, { on := 20, ground := Go.Ground.guard }], guard := some (20, true) }) (v := undef) rfl (by kernel_rfl) (by kernel_rfl) (by kernel_rfl) (fun _ _ _ h => h) (.inr ⟨by kernel_rfl, rfl⟩) hS ?_
                simp only [Act.put, List.setIfInBounds_toArray, List.set_cons_zero, List.set_cons_succ]
                refine wpAnyH_take (i := 24) (oi := { dst := some 108, op := Go.Op.load 9 (Go.Operand.tmp 107), type := 9, pos := "law.go:63", after := #[{ on := 23, ground := Go.Ground.data }, { on := 20, ground := Go.Ground.guard }], guard := some (20, true) }) (v := undef) rfl (by kernel_rfl) (by kernel_rfl) (by kernel_rfl) (fun _ _ _ h => h) (.inr ⟨by kernel_rfl, rfl⟩) hS ?_
                simp only [Act.put, List.setIfInBounds_toArray, List.set_cons_zero, List.set_cons_succ]
                refine wpAnyH_take (i := 25) (oi := { dst := some 109, op := Go.Op.move (Go.Operand.tmp 14), type := 26, pos := "law.go:63", after := #[{ on := 20, ground := Go.Ground.guard }], guard := some (20, true) }) (v := undef) rfl (by kernel_rfl) (by kernel_rfl) (by kernel_rfl) (fun _ _ _ h => h) (.inr ⟨by kernel_rfl, rfl⟩) hS ?_
                simp only [Act.put, List.setIfInBounds_toArray, List.set_cons_zero, List.set_cons_succ]
                refine wpAnyH_take (i := 26) (oi := { dst := some 110, op := Go.Op.move (Go.Operand.tmp 17), type := 3, pos := "law.go:63", after := #[{ on := 20, ground := Go.Ground.guard }], guard := some (20, true) }) (v := undef) rfl (by kernel_rfl) (by kernel_rfl) (by kernel_rfl) (fun _ _ _ h => h) (.inr ⟨by kernel_rfl, rfl⟩) hS ?_
                simp only [Act.put, List.setIfInBounds_toArray, List.set_cons_zero, List.set_cons_succ]
                refine wpAnyH_take (i := 27) (oi := { dst := some 111, op := Go.Op.indexAddr 26 (Go.Operand.tmp 109) (Go.Operand.tmp 110), type := 0, pos := "law.go:63", after := #[{ on := 25, ground := Go.Ground.data }, { on := 26, ground := Go.Ground.data }, { on := 20, ground := Go.Ground.guard }], guard := some (20, true) }) (v := undef) rfl (by kernel_rfl) (by kernel_rfl) (by kernel_rfl) (fun _ _ _ h => h) (.inr ⟨by kernel_rfl, rfl⟩) hS ?_
                simp only [Act.put, List.setIfInBounds_toArray, List.set_cons_zero, List.set_cons_succ]
                refine wpAnyH_take (i := 28) (oi := { dst := some 112, op := Go.Op.load 9 (Go.Operand.tmp 111), type := 9, pos := "law.go:63", after := #[{ on := 27, ground := Go.Ground.data }, { on := 20, ground := Go.Ground.guard }], guard := some (20, true) }) (v := undef) rfl (by kernel_rfl) (by kernel_rfl) (by kernel_rfl) (fun _ _ _ h => h) (.inr ⟨by kernel_rfl, rfl⟩) hS ?_
                simp only [Act.put, List.setIfInBounds_toArray, List.set_cons_zero, List.set_cons_succ]
                refine wpAnyH_take (i := 29) (oi := { dst := some 113, op := Go.Op.call { callee := Go.Callee.value (Go.Operand.func 19), args := #[Go.Operand.tmp 108, Go.Operand.tmp 112], argTypes := #[9, 9] }, type := 4, pos := "law.go:63", after := #[{ on := 24, ground := Go.Ground.data }, { on := 28, ground := Go.Ground.data }, { on := 20, ground := Go.Ground.chain }, { on := 20, ground := Go.Ground.guard }], guard := some (20, true) }) (v := undef) rfl (by kernel_rfl) (by kernel_rfl) (by kernel_rfl) (fun _ _ _ h => h) (.inr ⟨by kernel_rfl, rfl⟩) hS ?_
                simp only [Act.put, List.setIfInBounds_toArray, List.set_cons_zero, List.set_cons_succ]
                refine wpAnyH_take (i := 30) (oi := { dst := some 114, op := Go.Op.unOp Go.UnOp.not 4 (Go.Operand.tmp 113), type := 4, pos := "law.go:63", after := #[{ on := 29, ground := Go.Ground.data }, { on := 20, ground := Go.Ground.guard }], guard := some (20, true) }) (v := undef) rfl (by kernel_rfl) (by kernel_rfl) (by kernel_rfl) (fun _ _ _ h => h) (.inr ⟨by kernel_rfl, rfl⟩) hS ?_
                simp only [Act.put, List.setIfInBounds_toArray, List.set_cons_zero, List.set_cons_succ]
                refine wpAnyH_take (i := 31) (oi := { dst := some 115, op := Go.Op.pick (Go.Operand.tmp 104) (Go.Operand.tmp 114) (Go.Operand.const (Go.Value.bool false)), type := 4, pos := "law.go:63", after := #[{ on := 20, ground := Go.Ground.data }, { on := 30, ground := Go.Ground.data }], guard := none }) (v := .bool false) rfl (by kernel_rfl) (by kernel_rfl) (by kernel_rfl) (fun _ _ _ h => h) (.inl ⟨by kernel_rfl, fun W hW => by go_simp⟩) hS ?_
                simp only [Act.put, List.setIfInBounds_toArray, List.set_cons_zero, List.set_cons_succ]
                refine wpAnyH_done (by kernel_rfl) ?_ _
                go_wp2_with fail
                go_roundw
                case rel => exact ⟨k3 + 1, by omega, by go_num, thn hbz hS⟩
                case measure => (simp [RowKit.intOf]; try omega)
              · cases u2
                · clear hthe
                  go_wp2_with fail
                  refine wp_region_held_drew (S := (fun W => Below wr.heap.size wr W)) (by rfl) (Below.refl _ _).drew ?_
                  intro hS
                  refine wpAnyH_take (i := 0) (oi := { dst := some 84, op := Go.Op.move (Go.Operand.tmp 13), type := 26, pos := "law.go:63", after := #[], guard := none }) (v := .slice (some ⟨g1, 0, none⟩) 4 4) rfl (by kernel_rfl) (by kernel_rfl) (by kernel_rfl) (fun _ _ _ h => h) (.inl ⟨by kernel_rfl, fun W hW => by go_simp⟩) hS ?_
                  simp only [Act.put, List.setIfInBounds_toArray, List.set_cons_zero, List.set_cons_succ]
                  refine wpAnyH_take (i := 1) (oi := { dst := some 85, op := Go.Op.move (Go.Operand.tmp 15), type := 3, pos := "law.go:63", after := #[], guard := none }) (v := .int .i64 k1) rfl (by kernel_rfl) (by kernel_rfl) (by kernel_rfl) (fun _ _ _ h => h) (.inl ⟨by kernel_rfl, fun W hW => by go_simp⟩) hS ?_
                  simp only [Act.put, List.setIfInBounds_toArray, List.set_cons_zero, List.set_cons_succ]
                  refine wpAnyH_take (i := 2) (oi := { dst := some 86, op := Go.Op.indexAddr 26 (Go.Operand.tmp 84) (Go.Operand.tmp 85), type := 0, pos := "law.go:63", after := #[{ on := 0, ground := Go.Ground.data }, { on := 1, ground := Go.Ground.data }], guard := none }) (v := .pointer (some ⟨g1, k1, none⟩)) rfl (by kernel_rfl) (by kernel_rfl) (by kernel_rfl) (fun _ _ _ h => h) (.inl ⟨by kernel_rfl, fun W hW => by go_simp⟩) hS ?_
                  simp only [Act.put, List.setIfInBounds_toArray, List.set_cons_zero, List.set_cons_succ]
                  refine wpAnyH_take (i := 3) (oi := { dst := some 87, op := Go.Op.load 9 (Go.Operand.tmp 86), type := 9, pos := "law.go:63", after := #[{ on := 2, ground := Go.Ground.data }], guard := none }) (v := .string (bs f1)) rfl (by kernel_rfl) (by kernel_rfl) (by kernel_rfl) (fun _ _ _ h => h) (.inl ⟨by kernel_rfl, fun W hW => by simp [execOp, go_sem, keep_cell cA hW]⟩) hS ?_
                  simp only [Act.put, List.setIfInBounds_toArray, List.set_cons_zero, List.set_cons_succ]
                  refine wpAnyH_take (i := 4) (oi := { dst := some 88, op := Go.Op.move (Go.Operand.tmp 13), type := 26, pos := "law.go:63", after := #[], guard := none }) (v := .slice (some ⟨g1, 0, none⟩) 4 4) rfl (by kernel_rfl) (by kernel_rfl) (by kernel_rfl) (fun _ _ _ h => h) (.inl ⟨by kernel_rfl, fun W hW => by go_simp⟩) hS ?_
                  simp only [Act.put, List.setIfInBounds_toArray, List.set_cons_zero, List.set_cons_succ]
                  refine wpAnyH_take (i := 5) (oi := { dst := some 89, op := Go.Op.move (Go.Operand.tmp 16), type := 3, pos := "law.go:63", after := #[], guard := none }) (v := .int .i64 k2) rfl (by kernel_rfl) (by kernel_rfl) (by kernel_rfl) (fun _ _ _ h => h) (.inl ⟨by kernel_rfl, fun W hW => by go_simp⟩) hS ?_
                  simp only [Act.put, List.setIfInBounds_toArray, List.set_cons_zero, List.set_cons_succ]
                  refine wpAnyH_take (i := 6) (oi := { dst := some 90, op := Go.Op.indexAddr 26 (Go.Operand.tmp 88) (Go.Operand.tmp 89), type := 0, pos := "law.go:63", after := #[{ on := 4, ground := Go.Ground.data }, { on := 5, ground := Go.Ground.data }], guard := none }) (v := .pointer (some ⟨g1, k2, none⟩)) rfl (by kernel_rfl) (by kernel_rfl) (by kernel_rfl) (fun _ _ _ h => h) (.inl ⟨by kernel_rfl, fun W hW => by go_simp⟩) hS ?_
                  simp only [Act.put, List.setIfInBounds_toArray, List.set_cons_zero, List.set_cons_succ]
                  refine wpAnyH_take (i := 7) (oi := { dst := some 91, op := Go.Op.load 9 (Go.Operand.tmp 90), type := 9, pos := "law.go:63", after := #[{ on := 6, ground := Go.Ground.data }], guard := none }) (v := .string (bs f2)) rfl (by kernel_rfl) (by kernel_rfl) (by kernel_rfl) (fun _ _ _ h => h) (.inl ⟨by kernel_rfl, fun W hW => by simp [execOp, go_sem, keep_cell cB hW]⟩) hS ?_
                  simp only [Act.put, List.setIfInBounds_toArray, List.set_cons_zero, List.set_cons_succ]
                  refine wpAnyH_ready (rs := [8]) (by kernel_rfl) (by simp) ?_
                  refine AllReadyH.cons (o := { dst := some 92, op := Go.Op.call { callee := Go.Callee.value (Go.Operand.func 21), args := #[Go.Operand.tmp 87, Go.Operand.tmp 91], argTypes := #[9, 9] }, type := 4, pos := "law.go:63", after := #[{ on := 3, ground := Go.Ground.data }, { on := 7, ground := Go.Ground.data }], guard := none }) rfl (fun K hK => ?_) (AllReadyH.nil)
                  rw [if_pos (by kernel_rfl)]
                  go_wp2_with fail
                  refine (cW _ (hMz.on hS)).mono ?_
                  rintro e wa ⟨rfl, hba⟩
                  go_wp2_with fail
                  refine hK.out _ _ (thn hS hba) (fun hS' => ?_)
                  clear hK hS hba
                  have hS := hS'
                  clear hS'
                  refine wpAnyH_take (i := 9) (oi := { dst := some 93, op := Go.Op.move (Go.Operand.tmp 92), type := 4, pos := "law.go:63", after := #[{ on := 8, ground := Go.Ground.data }, { on := 8, ground := Go.Ground.chain }], guard := none }) (v := .bool true) rfl (by kernel_rfl) (by kernel_rfl) (by kernel_rfl) (fun _ _ _ h => h) (.inl ⟨by kernel_rfl, fun W hW => by go_simp⟩) hS ?_
                  simp only [Act.put, List.setIfInBounds_toArray, List.set_cons_zero, List.set_cons_succ]
                  refine wpAnyH_take (i := 10) (oi := { dst := some 94, op := Go.Op.move (Go.Operand.tmp 13), type := 26, pos := "law.go:63", after := #[{ on := 9, ground := Go.Ground.guard }], guard := some (9, true) }) (v := .slice (some ⟨g1, 0, none⟩) 4 4) rfl (by kernel_rfl) (by kernel_rfl) (by kernel_rfl) (fun _ _ _ h => h) (.inl ⟨by kernel_rfl, fun W hW => by go_simp⟩) hS ?_
                  simp only [Act.put, List.setIfInBounds_toArray, List.set_cons_zero, List.set_cons_succ]
                  refine wpAnyH_take (i := 11) (oi := { dst := some 95, op := Go.Op.move (Go.Operand.tmp 15), type := 3, pos := "law.go:63", after := #[{ on := 9, ground := Go.Ground.guard }], guard := some (9, true) }) (v := .int .i64 k1) rfl (by kernel_rfl) (by kernel_rfl) (by kernel_rfl) (fun _ _ _ h => h) (.inl ⟨by kernel_rfl, fun W hW => by go_simp⟩) hS ?_
                  simp only [Act.put, List.setIfInBounds_toArray, List.set_cons_zero, List.set_cons_succ]
                  refine wpAnyH_take (i := 12) (oi := { dst := some 96, op := Go.Op.indexAddr 26 (Go.Operand.tmp 94) (Go.Operand.tmp 95), type := 0, pos := "law.go:63", after := #[{ on := 10, ground := Go.Ground.data }, { on := 11, ground := Go.Ground.data }, { on := 9, ground := Go.Ground.guard }], guard := some (9, true) }) (v := .pointer (some ⟨g1, k1, none⟩)) rfl (by kernel_rfl) (by kernel_rfl) (by kernel_rfl) (fun _ _ _ h => h) (.inl ⟨by kernel_rfl, fun W hW => by go_simp⟩) hS ?_
                  simp only [Act.put, List.setIfInBounds_toArray, List.set_cons_zero, List.set_cons_succ]
                  refine wpAnyH_take (i := 13) (oi := { dst := some 97, op := Go.Op.load 9 (Go.Operand.tmp 96), type := 9, pos := "law.go:63", after := #[{ on := 12, ground := Go.Ground.data }, { on := 9, ground := Go.Ground.guard }], guard := some (9, true) }) (v := .string (bs f1)) rfl (by kernel_rfl) (by kernel_rfl) (by kernel_rfl) (fun _ _ _ h => h) (.inl ⟨by kernel_rfl, fun W hW => by simp [execOp, go_sem, keep_cell cA hW]⟩) hS ?_
                  simp only [Act.put, List.setIfInBounds_toArray, List.set_cons_zero, List.set_cons_succ]
                  refine wpAnyH_take (i := 14) (oi := { dst := some 98, op := Go.Op.move (Go.Operand.tmp 14), type := 26, pos := "law.go:63", after := #[{ on := 9, ground := Go.Ground.guard }], guard := some (9, true) }) (v := .slice (some ⟨g2, 0, none⟩) 4 4) rfl (by kernel_rfl) (by kernel_rfl) (by kernel_rfl) (fun _ _ _ h => h) (.inl ⟨by kernel_rfl, fun W hW => by go_simp⟩) hS ?_
                  simp only [Act.put, List.setIfInBounds_toArray, List.set_cons_zero, List.set_cons_succ]
                  refine wpAnyH_take (i := 15) (oi := { dst := some 99, op := Go.Op.move (Go.Operand.tmp 17), type := 3, pos := "law.go:63", after := #[{ on := 9, ground := Go.Ground.guard }], guard := some (9, true) }) (v := .int .i64 k3) rfl (by kernel_rfl) (by kernel_rfl) (by kernel_rfl) (fun _ _ _ h => h) (.inl ⟨by kernel_rfl, fun W hW => by go_simp⟩) hS ?_
                  simp only [Act.put, List.setIfInBounds_toArray, List.set_cons_zero, List.set_cons_succ]
                  refine wpAnyH_take (i := 16) (oi := { dst := some 100, op := Go.Op.indexAddr 26 (Go.Operand.tmp 98) (Go.Operand.tmp 99), type := 0, pos := "law.go:63", after := #[{ on := 14, ground := Go.Ground.data }, { on := 15, ground := Go.Ground.data }, { on := 9, ground := Go.Ground.guard }], guard := some (9, true) }) (v := .pointer (some ⟨g2, k3, none⟩)) rfl (by kernel_rfl) (by kernel_rfl) (by kernel_rfl) (fun _ _ _ h => h) (.inl ⟨by kernel_rfl, fun W hW => by go_simp⟩) hS ?_
                  simp only [Act.put, List.setIfInBounds_toArray, List.set_cons_zero, List.set_cons_succ]
                  refine wpAnyH_take (i := 17) (oi := { dst := some 101, op := Go.Op.load 9 (Go.Operand.tmp 100), type := 9, pos := "law.go:63", after := #[{ on := 16, ground := Go.Ground.data }, { on := 9, ground := Go.Ground.guard }], guard := some (9, true) }) (v := .string (bs n3)) rfl (by kernel_rfl) (by kernel_rfl) (by kernel_rfl) (fun _ _ _ h => h) (.inl ⟨by kernel_rfl, fun W hW => by simp [execOp, go_sem, keep_cell cC hW]⟩) hS ?_
                  simp only [Act.put, List.setIfInBounds_toArray, List.set_cons_zero, List.set_cons_succ]
                  refine wpAnyH_ready (rs := [18]) (by kernel_rfl) (by simp) ?_
                  refine AllReadyH.cons (o := { dst := some 102, op := Go.Op.call { callee := Go.Callee.value (Go.Operand.func 19), args := #[Go.Operand.tmp 97, Go.Operand.tmp 101], argTypes := #[9, 9] }, type := 4, pos := "law.go:63", after := #[{ on := 13, ground := Go.Ground.data }, { on := 17, ground := Go.Ground.data }, { on := 9, ground := Go.Ground.chain }, { on := 9, ground := Go.Ground.guard }], guard := some (9, true) }) rfl (fun K hK => ?_) (AllReadyH.nil)
                  rw [if_pos (by kernel_rfl)]
                  go_wp2_with fail
                  refine (cM1 _ (hMz.on hS)).mono ?_
                  rintro e wb ⟨rfl, hbb⟩
                  go_wp2_with fail
                  refine hK.out _ _ (thn hS hbb) (fun hS' => ?_)
                  clear hK hS hbb
                  have hS := hS'
                  clear hS'
                  refine wpAnyH_take (i := 19) (oi := { dst := some 103, op := Go.Op.pick (Go.Operand.tmp 93) (Go.Operand.tmp 102) (Go.Operand.const (Go.Value.bool false)), type := 4, pos := "law.go:63", after := #[{ on := 9, ground := Go.Ground.data }, { on := 18, ground := Go.Ground.data }], guard := none }) (v := .bool false) rfl (by kernel_rfl) (by kernel_rfl) (by kernel_rfl) (fun _ _ _ h => h) (.inl ⟨by kernel_rfl, fun W hW => by go_simp⟩) hS ?_
                  simp only [Act.put, List.setIfInBounds_toArray, List.set_cons_zero, List.set_cons_succ]
                  refine wpAnyH_take (i := 20) (oi := { dst := some 104, op := Go.Op.move (Go.Operand.tmp 103), type := 4, pos := "law.go:63", after := #[{ on := 19, ground := Go.Ground.data }, { on := 18, ground := Go.Ground.chain }], guard := none }) (v := .bool false) rfl (by kernel_rfl) (by kernel_rfl) (by kernel_rfl) (fun _ _ _ h => h) (.inl ⟨by kernel_rfl, fun W hW => by go_simp⟩) hS ?_
                  simp only [Act.put, List.setIfInBounds_toArray, List.set_cons_zero, List.set_cons_succ]
                  refine wpAnyH_take (i := 21) (oi := { dst := some 105, op := Go.Op.move (Go.Operand.tmp 13), type := 26, pos := "law.go:63", after := #[{ on := 20, ground := Go.Ground.guard }], guard := some (20, true) }) (v := undef) rfl (by kernel_rfl) (by kernel_rfl) (by kernel_rfl) (fun _ _ _ h => h) (.inr ⟨by kernel_rfl, rfl⟩) hS ?_
                  simp only [Act.put, List.setIfInBounds_toArray, List.set_cons_zero, List.set_cons_succ]
                  refine wpAnyH_take (i := 22) (oi := { dst := some 106, op := Go.Op.move (Go.Operand.tmp 16), type := 3, pos := "law.go:63", after := #[{ on := 20, ground := Go.Ground.guard }], guard := some (20, true) }) (v := undef) rfl (by kernel_rfl) (by kernel_rfl) (by kernel_rfl) (fun _ _ _ h => h) (.inr ⟨by kernel_rfl, rfl⟩) hS ?_
                  simp only [Act.put, List.setIfInBounds_toArray, List.set_cons_zero, List.set_cons_succ]
                  refine wpAnyH_take (i := 23) (oi := { dst := some 107, op := Go.Op.indexAddr 26 (Go.Operand.tmp 105) (Go.Operand.tmp 106), type := 0, pos := "law.go:63", after := #[{ on := 21, ground := Go.Ground.data }, { on := 22, ground := Go.Ground.data }, { on := 20, ground := Go.Ground.guard }], guard := some (20, true) }) (v := undef) rfl (by kernel_rfl) (by kernel_rfl) (by kernel_rfl) (fun _ _ _ h => h) (.inr ⟨by kernel_rfl, rfl⟩) hS ?_
                  simp only [Act.put, List.setIfInBounds_toArray, List.set_cons_zero, List.set_cons_succ]
                  refine wpAnyH_take (i := 24) (oi := { dst := some 108, op := Go.Op.load 9 (Go.Operand.tmp 107), type := 9, pos := "law.go:63", after := #[{ on := 23, ground := Go.Ground.data }, { on := 20, ground := Go.Ground.guard }], guard := some (20, true) }) (v := undef) rfl (by kernel_rfl) (by kernel_rfl) (by kernel_rfl) (fun _ _ _ h => h) (.inr ⟨by kernel_rfl, rfl⟩) hS ?_
                  simp only [Act.put, List.setIfInBounds_toArray, List.set_cons_zero, List.set_cons_succ]
                  refine wpAnyH_take (i := 25) (oi := { dst := some 109, op := Go.Op.move (Go.Operand.tmp 14), type := 26, pos := "law.go:63", after := #[{ on := 20, ground := Go.Ground.guard }], guard := some (20, true) }) (v := undef) rfl (by kernel_rfl) (by kernel_rfl) (by kernel_rfl) (fun _ _ _ h => h) (.inr ⟨by kernel_rfl, rfl⟩) hS ?_
                  simp only [Act.put, List.setIfInBounds_toArray, List.set_cons_zero, List.set_cons_succ]
                  refine wpAnyH_take (i := 26) (oi := { dst := some 110, op := Go.Op.move (Go.Operand.tmp 17), type := 3, pos := "law.go:63", after := #[{ on := 20, ground := Go.Ground.guard }], guard := some (20, true) }) (v := undef) rfl (by kernel_rfl) (by kernel_rfl) (by kernel_rfl) (fun _ _ _ h => h) (.inr ⟨by kernel_rfl, rfl⟩) hS ?_
                  simp only [Act.put, List.setIfInBounds_toArray, List.set_cons_zero, List.set_cons_succ]
                  refine wpAnyH_take (i := 27) (oi := { dst := some 111, op := Go.Op.indexAddr 26 (Go.Operand.tmp 109) (Go.Operand.tmp 110), type := 0, pos := "law.go:63", after := #[{ on := 25, ground := Go.Ground.data }, { on := 26, ground := Go.Ground.data }, { on := 20, ground := Go.Ground.guard }], guard := some (20, true) }) (v := undef) rfl (by kernel_rfl) (by kernel_rfl) (by kernel_rfl) (fun _ _ _ h => h) (.inr ⟨by kernel_rfl, rfl⟩) hS ?_
                  simp only [Act.put, List.setIfInBounds_toArray, List.set_cons_zero, List.set_cons_succ]
                  refine wpAnyH_take (i := 28) (oi := { dst := some 112, op := Go.Op.load 9 (Go.Operand.tmp 111), type := 9, pos := "law.go:63", after := #[{ on := 27, ground := Go.Ground.data }, { on := 20, ground := Go.Ground.guard }], guard := some (20, true) }) (v := undef) rfl (by kernel_rfl) (by kernel_rfl) (by kernel_rfl) (fun _ _ _ h => h) (.inr ⟨by kernel_rfl, rfl⟩) hS ?_
                  simp only [Act.put, List.setIfInBounds_toArray, List.set_cons_zero, List.set_cons_succ]
                  refine wpAnyH_take (i := 29) (oi := { dst := some 113, op := Go.Op.call { callee := Go.Callee.value (Go.Operand.func 19), args := #[Go.Operand.tmp 108, Go.Operand.tmp 112], argTypes := #[9, 9] }, type := 4, pos := "law.go:63", after := #[{ on := 24, ground := Go.Ground.data }, { on := 28, ground := Go.Ground.data }, { on := 20, ground := Go.Ground.chain }, { on := 20, ground := Go.Ground.guard }], guard := some (20, true) }) (v := undef) rfl (by kernel_rfl) (by kernel_rfl) (by kernel_rfl) (fun _ _ _ h => h) (.inr ⟨by kernel_rfl, rfl⟩) hS ?_
                  simp only [Act.put, List.setIfInBounds_toArray, List.set_cons_zero, List.set_cons_succ]
                  refine wpAnyH_take (i := 30) (oi := { dst := some 114, op := Go.Op.unOp Go.UnOp.not 4 (Go.Operand.tmp 113), type := 4, pos := "law.go:63", after := #[{ on := 29, ground := Go.Ground.data }, { on := 20, ground := Go.Ground.guard }], guard := some (20, true) }) (v := undef) rfl (by kernel_rfl) (by kernel_rfl) (by kernel_rfl) (fun _ _ _ h => h) (.inr ⟨by kernel_rfl, rfl⟩) hS ?_
                  simp only [Act.put, List.setIfInBounds_toArray, List.set_cons_zero, List.set_cons_succ]
                  refine wpAnyH_take (i := 31) (oi := { dst := some 115, op := Go.Op.pick (Go.Operand.tmp 104) (Go.Operand.tmp 114) (Go.Operand.const (Go.Value.bool false)), type := 4, pos := "law.go:63", after := #[{ on := 20, ground := Go.Ground.data }, { on := 30, ground := Go.Ground.data }], guard := none }) (v := .bool false) rfl (by kernel_rfl) (by kernel_rfl) (by kernel_rfl) (fun _ _ _ h => h) (.inl ⟨by kernel_rfl, fun W hW => by go_simp⟩) hS ?_
                  simp only [Act.put, List.setIfInBounds_toArray, List.set_cons_zero, List.set_cons_succ]
                  refine wpAnyH_done (by kernel_rfl) ?_ _
                  go_wp2_with fail
                  go_roundw
                  case rel => exact ⟨k3 + 1, by omega, by go_num, thn hbz hS⟩
                  case measure => (simp [RowKit.intOf]; try omega)
                · obtain rfl := hthe rfl rfl
                  clear hthe
                  go_wp2_with fail
                  refine wp_region_held_drew (S := (fun W => Below wr.heap.size wr W)) (by rfl) (Below.refl _ _).drew ?_
                  intro hS
                  refine wpAnyH_take (i := 0) (oi := { dst := some 84, op := Go.Op.move (Go.Operand.tmp 13), type := 26, pos := "law.go:63", after := #[], guard := none }) (v := .slice (some ⟨g1, 0, none⟩) 4 4) rfl (by kernel_rfl) (by kernel_rfl) (by kernel_rfl) (fun _ _ _ h => h) (.inl ⟨by kernel_rfl, fun W hW => by go_simp⟩) hS ?_
                  simp only [Act.put, List.setIfInBounds_toArray, List.set_cons_zero, List.set_cons_succ]
                  refine wpAnyH_take (i := 1) (oi := { dst := some 85, op := Go.Op.move (Go.Operand.tmp 15), type := 3, pos := "law.go:63", after := #[], guard := none }) (v := .int .i64 k1) rfl (by kernel_rfl) (by kernel_rfl) (by kernel_rfl) (fun _ _ _ h => h) (.inl ⟨by kernel_rfl, fun W hW => by go_simp⟩) hS ?_
                  simp only [Act.put, List.setIfInBounds_toArray, List.set_cons_zero, List.set_cons_succ]
                  refine wpAnyH_take (i := 2) (oi := { dst := some 86, op := Go.Op.indexAddr 26 (Go.Operand.tmp 84) (Go.Operand.tmp 85), type := 0, pos := "law.go:63", after := #[{ on := 0, ground := Go.Ground.data }, { on := 1, ground := Go.Ground.data }], guard := none }) (v := .pointer (some ⟨g1, k1, none⟩)) rfl (by kernel_rfl) (by kernel_rfl) (by kernel_rfl) (fun _ _ _ h => h) (.inl ⟨by kernel_rfl, fun W hW => by go_simp⟩) hS ?_
                  simp only [Act.put, List.setIfInBounds_toArray, List.set_cons_zero, List.set_cons_succ]
                  refine wpAnyH_take (i := 3) (oi := { dst := some 87, op := Go.Op.load 9 (Go.Operand.tmp 86), type := 9, pos := "law.go:63", after := #[{ on := 2, ground := Go.Ground.data }], guard := none }) (v := .string (bs f1)) rfl (by kernel_rfl) (by kernel_rfl) (by kernel_rfl) (fun _ _ _ h => h) (.inl ⟨by kernel_rfl, fun W hW => by simp [execOp, go_sem, keep_cell cA hW]⟩) hS ?_
                  simp only [Act.put, List.setIfInBounds_toArray, List.set_cons_zero, List.set_cons_succ]
                  refine wpAnyH_take (i := 4) (oi := { dst := some 88, op := Go.Op.move (Go.Operand.tmp 13), type := 26, pos := "law.go:63", after := #[], guard := none }) (v := .slice (some ⟨g1, 0, none⟩) 4 4) rfl (by kernel_rfl) (by kernel_rfl) (by kernel_rfl) (fun _ _ _ h => h) (.inl ⟨by kernel_rfl, fun W hW => by go_simp⟩) hS ?_
                  simp only [Act.put, List.setIfInBounds_toArray, List.set_cons_zero, List.set_cons_succ]
                  refine wpAnyH_take (i := 5) (oi := { dst := some 89, op := Go.Op.move (Go.Operand.tmp 16), type := 3, pos := "law.go:63", after := #[], guard := none }) (v := .int .i64 k2) rfl (by kernel_rfl) (by kernel_rfl) (by kernel_rfl) (fun _ _ _ h => h) (.inl ⟨by kernel_rfl, fun W hW => by go_simp⟩) hS ?_
                  simp only [Act.put, List.setIfInBounds_toArray, List.set_cons_zero, List.set_cons_succ]
                  refine wpAnyH_take (i := 6) (oi := { dst := some 90, op := Go.Op.indexAddr 26 (Go.Operand.tmp 88) (Go.Operand.tmp 89), type := 0, pos := "law.go:63", after := #[{ on := 4, ground := Go.Ground.data }, { on := 5, ground := Go.Ground.data }], guard := none }) (v := .pointer (some ⟨g1, k2, none⟩)) rfl (by kernel_rfl) (by kernel_rfl) (by kernel_rfl) (fun _ _ _ h => h) (.inl ⟨by kernel_rfl, fun W hW => by go_simp⟩) hS ?_
                  simp only [Act.put, List.setIfInBounds_toArray, List.set_cons_zero, List.set_cons_succ]
                  refine wpAnyH_take (i := 7) (oi := { dst := some 91, op := Go.Op.load 9 (Go.Operand.tmp 90), type := 9, pos := "law.go:63", after := #[{ on := 6, ground := Go.Ground.data }], guard := none }) (v := .string (bs f2)) rfl (by kernel_rfl) (by kernel_rfl) (by kernel_rfl) (fun _ _ _ h => h) (.inl ⟨by kernel_rfl, fun W hW => by simp [execOp, go_sem, keep_cell cB hW]⟩) hS ?_
                  simp only [Act.put, List.setIfInBounds_toArray, List.set_cons_zero, List.set_cons_succ]
                  refine wpAnyH_ready (rs := [8]) (by kernel_rfl) (by simp) ?_
                  refine AllReadyH.cons (o := { dst := some 92, op := Go.Op.call { callee := Go.Callee.value (Go.Operand.func 21), args := #[Go.Operand.tmp 87, Go.Operand.tmp 91], argTypes := #[9, 9] }, type := 4, pos := "law.go:63", after := #[{ on := 3, ground := Go.Ground.data }, { on := 7, ground := Go.Ground.data }], guard := none }) rfl (fun K hK => ?_) (AllReadyH.nil)
                  rw [if_pos (by kernel_rfl)]
                  go_wp2_with fail
                  refine (cW _ (hMz.on hS)).mono ?_
                  rintro e wa ⟨rfl, hba⟩
                  go_wp2_with fail
                  refine hK.out _ _ (thn hS hba) (fun hS' => ?_)
                  clear hK hS hba
                  have hS := hS'
                  clear hS'
                  refine wpAnyH_take (i := 9) (oi := { dst := some 93, op := Go.Op.move (Go.Operand.tmp 92), type := 4, pos := "law.go:63", after := #[{ on := 8, ground := Go.Ground.data }, { on := 8, ground := Go.Ground.chain }], guard := none }) (v := .bool true) rfl (by kernel_rfl) (by kernel_rfl) (by kernel_rfl) (fun _ _ _ h => h) (.inl ⟨by kernel_rfl, fun W hW => by go_simp⟩) hS ?_
                  simp only [Act.put, List.setIfInBounds_toArray, List.set_cons_zero, List.set_cons_succ]
                  refine wpAnyH_take (i := 10) (oi := { dst := some 94, op := Go.Op.move (Go.Operand.tmp 13), type := 26, pos := "law.go:63", after := #[{ on := 9, ground := Go.Ground.guard }], guard := some (9, true) }) (v := .slice (some ⟨g1, 0, none⟩) 4 4) rfl (by kernel_rfl) (by kernel_rfl) (by kernel_rfl) (fun _ _ _ h => h) (.inl ⟨by kernel_rfl, fun W hW => by go_simp⟩) hS ?_
                  simp only [Act.put, List.setIfInBounds_toArray, List.set_cons_zero, List.set_cons_succ]
                  refine wpAnyH_take (i := 11) (oi := { dst := some 95, op := Go.Op.move (Go.Operand.tmp 15), type := 3, pos := "law.go:63", after := #[{ on := 9, ground := Go.Ground.guard }], guard := some (9, true) }) (v := .int .i64 k1) rfl (by kernel_rfl) (by kernel_rfl) (by kernel_rfl) (fun _ _ _ h => h) (.inl ⟨by kernel_rfl, fun W hW => by go_simp⟩) hS ?_
                  simp only [Act.put, List.setIfInBounds_toArray, List.set_cons_zero, List.set_cons_succ]
                  refine wpAnyH_take (i := 12) (oi := { dst := some 96, op := Go.Op.indexAddr 26 (Go.Operand.tmp 94) (Go.Operand.tmp 95), type := 0, pos := "law.go:63", after := #[{ on := 10, ground := Go.Ground.data }, { on := 11, ground := Go.Ground.data }, { on := 9, ground := Go.Ground.guard }], guard := some (9, true) }) (v := .pointer (some ⟨g1, k1, none⟩)) rfl (by kernel_rfl) (by kernel_rfl) (by kernel_rfl) (fun _ _ _ h => h) (.inl ⟨by kernel_rfl, fun W hW => by go_simp⟩) hS ?_
                  simp only [Act.put, List.setIfInBounds_toArray, List.set_cons_zero, List.set_cons_succ]
                  refine wpAnyH_take (i := 13) (oi := { dst := some 97, op := Go.Op.load 9 (Go.Operand.tmp 96), type := 9, pos := "law.go:63", after := #[{ on := 12, ground := Go.Ground.data }, { on := 9, ground := Go.Ground.guard }], guard := some (9, true) }) (v := .string (bs f1)) rfl (by kernel_rfl) (by kernel_rfl) (by kernel_rfl) (fun _ _ _ h => h) (.inl ⟨by kernel_rfl, fun W hW => by simp [execOp, go_sem, keep_cell cA hW]⟩) hS ?_
                  simp only [Act.put, List.setIfInBounds_toArray, List.set_cons_zero, List.set_cons_succ]
                  refine wpAnyH_take (i := 14) (oi := { dst := some 98, op := Go.Op.move (Go.Operand.tmp 14), type := 26, pos := "law.go:63", after := #[{ on := 9, ground := Go.Ground.guard }], guard := some (9, true) }) (v := .slice (some ⟨g2, 0, none⟩) 4 4) rfl (by kernel_rfl) (by kernel_rfl) (by kernel_rfl) (fun _ _ _ h => h) (.inl ⟨by kernel_rfl, fun W hW => by go_simp⟩) hS ?_
                  simp only [Act.put, List.setIfInBounds_toArray, List.set_cons_zero, List.set_cons_succ]
                  refine wpAnyH_take (i := 15) (oi := { dst := some 99, op := Go.Op.move (Go.Operand.tmp 17), type := 3, pos := "law.go:63", after := #[{ on := 9, ground := Go.Ground.guard }], guard := some (9, true) }) (v := .int .i64 k3) rfl (by kernel_rfl) (by kernel_rfl) (by kernel_rfl) (fun _ _ _ h => h) (.inl ⟨by kernel_rfl, fun W hW => by go_simp⟩) hS ?_
                  simp only [Act.put, List.setIfInBounds_toArray, List.set_cons_zero, List.set_cons_succ]
                  refine wpAnyH_take (i := 16) (oi := { dst := some 100, op := Go.Op.indexAddr 26 (Go.Operand.tmp 98) (Go.Operand.tmp 99), type := 0, pos := "law.go:63", after := #[{ on := 14, ground := Go.Ground.data }, { on := 15, ground := Go.Ground.data }, { on := 9, ground := Go.Ground.guard }], guard := some (9, true) }) (v := .pointer (some ⟨g2, k3, none⟩)) rfl (by kernel_rfl) (by kernel_rfl) (by kernel_rfl) (fun _ _ _ h => h) (.inl ⟨by kernel_rfl, fun W hW => by go_simp⟩) hS ?_
                  simp only [Act.put, List.setIfInBounds_toArray, List.set_cons_zero, List.set_cons_succ]
                  refine wpAnyH_take (i := 17) (oi := { dst := some 101, op := Go.Op.load 9 (Go.Operand.tmp 100), type := 9, pos := "law.go:63", after := #[{ on := 16, ground := Go.Ground.data }, { on := 9, ground := Go.Ground.guard }], guard := some (9, true) }) (v := .string (bs n3)) rfl (by kernel_rfl) (by kernel_rfl) (by kernel_rfl) (fun _ _ _ h => h) (.inl ⟨by kernel_rfl, fun W hW => by simp [execOp, go_sem, keep_cell cC hW]⟩) hS ?_
                  simp only [Act.put, List.setIfInBounds_toArray, List.set_cons_zero, List.set_cons_succ]
                  refine wpAnyH_ready (rs := [18]) (by kernel_rfl) (by simp) ?_
                  refine AllReadyH.cons (o := { dst := some 102, op := Go.Op.call { callee := Go.Callee.value (Go.Operand.func 19), args := #[Go.Operand.tmp 97, Go.Operand.tmp 101], argTypes := #[9, 9] }, type := 4, pos := "law.go:63", after := #[{ on := 13, ground := Go.Ground.data }, { on := 17, ground := Go.Ground.data }, { on := 9, ground := Go.Ground.chain }, { on := 9, ground := Go.Ground.guard }], guard := some (9, true) }) rfl (fun K hK => ?_) (AllReadyH.nil)
                  rw [if_pos (by kernel_rfl)]
                  go_wp2_with fail
                  refine (cM1 _ (hMz.on hS)).mono ?_
                  rintro e wb ⟨rfl, hbb⟩
                  go_wp2_with fail
                  refine hK.out _ _ (thn hS hbb) (fun hS' => ?_)
                  clear hK hS hbb
                  have hS := hS'
                  clear hS'
                  refine wpAnyH_take (i := 19) (oi := { dst := some 103, op := Go.Op.pick (Go.Operand.tmp 93) (Go.Operand.tmp 102) (Go.Operand.const (Go.Value.bool false)), type := 4, pos := "law.go:63", after := #[{ on := 9, ground := Go.Ground.data }, { on := 18, ground := Go.Ground.data }], guard := none }) (v := .bool true) rfl (by kernel_rfl) (by kernel_rfl) (by kernel_rfl) (fun _ _ _ h => h) (.inl ⟨by kernel_rfl, fun W hW => by go_simp⟩) hS ?_
                  simp only [Act.put, List.setIfInBounds_toArray, List.set_cons_zero, List.set_cons_succ]
                  refine wpAnyH_take (i := 20) (oi := { dst := some 104, op := Go.Op.move (Go.Operand.tmp 103), type := 4, pos := "law.go:63", after := #[{ on := 19, ground := Go.Ground.data }, { on := 18, ground := Go.Ground.chain }], guard := none }) (v := .bool true) rfl (by kernel_rfl) (by kernel_rfl) (by kernel_rfl) (fun _ _ _ h => h) (.inl ⟨by kernel_rfl, fun W hW => by go_simp⟩) hS ?_
                  simp only [Act.put, List.setIfInBounds_toArray, List.set_cons_zero, List.set_cons_succ]
                  refine wpAnyH_take (i := 21) (oi := { dst := some 105, op := Go.Op.move (Go.Operand.tmp 13), type := 26, pos := "law.go:63", after := #[{ on := 20, ground := Go.Ground.guard }], guard := some (20, true) }) (v := .slice (some ⟨g1, 0, none⟩) 4 4) rfl (by kernel_rfl) (by kernel_rfl) (by kernel_rfl) (fun _ _ _ h => h) (.inl ⟨by kernel_rfl, fun W hW => by go_simp⟩) hS ?_
                  simp only [Act.put, List.setIfInBounds_toArray, List.set_cons_zero, List.set_cons_succ]
                  refine wpAnyH_take (i := 22) (oi := { dst := some 106, op := Go.Op.move (Go.Operand.tmp 16), type := 3, pos := "law.go:63", after := #[{ on := 20, ground := Go.Ground.guard }], guard := some (20, true) }) (v := .int .i64 k2) rfl (by kernel_rfl) (by kernel_rfl) (by kernel_rfl) (fun _ _ _ h => h) (.inl ⟨by kernel_rfl, fun W hW => by go_simp⟩) hS ?_
                  simp only [Act.put, List.setIfInBounds_toArray, List.set_cons_zero, List.set_cons_succ]
                  refine wpAnyH_take (i := 23) (oi := { dst := some 107, op := Go.Op.indexAddr 26 (Go.Operand.tmp 105) (Go.Operand.tmp 106), type := 0, pos := "law.go:63", after := #[{ on := 21, ground := Go.Ground.data }, { on := 22, ground := Go.Ground.data }, { on := 20, ground := Go.Ground.guard }], guard := some (20, true) }) (v := .pointer (some ⟨g1, k2, none⟩)) rfl (by kernel_rfl) (by kernel_rfl) (by kernel_rfl) (fun _ _ _ h => h) (.inl ⟨by kernel_rfl, fun W hW => by go_simp⟩) hS ?_
                  simp only [Act.put, List.setIfInBounds_toArray, List.set_cons_zero, List.set_cons_succ]
                  refine wpAnyH_take (i := 24) (oi := { dst := some 108, op := Go.Op.load 9 (Go.Operand.tmp 107), type := 9, pos := "law.go:63", after := #[{ on := 23, ground := Go.Ground.data }, { on := 20, ground := Go.Ground.guard }], guard := some (20, true) }) (v := .string (bs f2)) rfl (by kernel_rfl) (by kernel_rfl) (by kernel_rfl) (fun _ _ _ h => h) (.inl ⟨by kernel_rfl, fun W hW => by simp [execOp, go_sem, keep_cell cB hW]⟩) hS ?_
                  simp only [Act.put, List.setIfInBounds_toArray, List.set_cons_zero, List.set_cons_succ]
                  refine wpAnyH_take (i := 25) (oi := { dst := some 109, op := Go.Op.move (Go.Operand.tmp 14), type := 26, pos := "law.go:63", after := #[{ on := 20, ground := Go.Ground.guard }], guard := some (20, true) }) (v := .slice (some ⟨g2, 0, none⟩) 4 4) rfl (by kernel_rfl) (by kernel_rfl) (by kernel_rfl) (fun _ _ _ h => h) (.inl ⟨by kernel_rfl, fun W hW => by go_simp⟩) hS ?_
                  simp only [Act.put, List.setIfInBounds_toArray, List.set_cons_zero, List.set_cons_succ]
                  refine wpAnyH_take (i := 26) (oi := { dst := some 110, op := Go.Op.move (Go.Operand.tmp 17), type := 3, pos := "law.go:63", after := #[{ on := 20, ground := Go.Ground.guard }], guard := some (20, true) }) (v := .int .i64 k3) rfl (by kernel_rfl) (by kernel_rfl) (by kernel_rfl) (fun _ _ _ h => h) (.inl ⟨by kernel_rfl, fun W hW => by go_simp⟩) hS ?_
                  simp only [Act.put, List.setIfInBounds_toArray, List.set_cons_zero, List.set_cons_succ]
                  refine wpAnyH_take (i := 27) (oi := { dst := some 111, op := Go.Op.indexAddr 26 (Go.Operand.tmp 109) (Go.Operand.tmp 110), type := 0, pos := "law.go:63", after := #[{ on := 25, ground := Go.Ground.data }, { on := 26, ground := Go.Ground.data }, { on := 20, ground := Go.Ground.guard }], guard := some (20, true) }) (v := .pointer (some ⟨g2, k3, none⟩)) rfl (by kernel_rfl) (by kernel_rfl) (by kernel_rfl) (fun _ _ _ h => h) (.inl ⟨by kernel_rfl, fun W hW => by go_simp⟩) hS ?_
                  simp only [Act.put, List.setIfInBounds_toArray, List.set_cons_zero, List.set_cons_succ]
                  refine wpAnyH_take (i := 28) (oi := { dst := some 112, op := Go.Op.load 9 (Go.Operand.tmp 111), type := 9, pos := "law.go:63", after := #[{ on := 27, ground := Go.Ground.data }, { on := 20, ground := Go.Ground.guard }], guard := some (20, true) }) (v := .string (bs n3)) rfl (by kernel_rfl) (by kernel_rfl) (by kernel_rfl) (fun _ _ _ h => h) (.inl ⟨by kernel_rfl, fun W hW => by simp [execOp, go_sem, keep_cell cC hW]⟩) hS ?_
                  simp only [Act.put, List.setIfInBounds_toArray, List.set_cons_zero, List.set_cons_succ]
                  refine wpAnyH_ready (rs := [29]) (by kernel_rfl) (by simp) ?_
                  refine AllReadyH.cons (o := { dst := some 113, op := Go.Op.call { callee := Go.Callee.value (Go.Operand.func 19), args := #[Go.Operand.tmp 108, Go.Operand.tmp 112], argTypes := #[9, 9] }, type := 4, pos := "law.go:63", after := #[{ on := 24, ground := Go.Ground.data }, { on := 28, ground := Go.Ground.data }, { on := 20, ground := Go.Ground.chain }, { on := 20, ground := Go.Ground.guard }], guard := some (20, true) }) rfl (fun K hK => ?_) (AllReadyH.nil)
                  rw [if_pos (by kernel_rfl)]
                  go_wp2_with fail
                  refine (cM2 _ (hMz.on hS)).mono ?_
                  rintro e wc ⟨rfl, hbc⟩
                  go_wp2_with fail
                  refine hK.out _ _ (thn hS hbc) (fun hS' => ?_)
                  clear hK hS hbc
                  have hS := hS'
                  clear hS'
                  refine wpAnyH_take (i := 30) (oi := { dst := some 114, op := Go.Op.unOp Go.UnOp.not 4 (Go.Operand.tmp 113), type := 4, pos := "law.go:63", after := #[{ on := 29, ground := Go.Ground.data }, { on := 20, ground := Go.Ground.guard }], guard := some (20, true) }) (v := .bool false) rfl (by kernel_rfl) (by kernel_rfl) (by kernel_rfl) (fun _ _ _ h => h) (.inl ⟨by kernel_rfl, fun W hW => by go_simp⟩) hS ?_
                  simp only [Act.put, List.setIfInBounds_toArray, List.set_cons_zero, List.set_cons_succ]
                  refine wpAnyH_take (i := 31) (oi := { dst := some 115, op := Go.Op.pick (Go.Operand.tmp 104) (Go.Operand.tmp 114) (Go.Operand.const (Go.Value.bool false)), type := 4, pos := "law.go:63", after := #[{ on := 20, ground := Go.Ground.data }, { on := 30, ground := Go.Ground.data }], guard := none }) (v := .bool false) rfl (by kernel_rfl) (by kernel_rfl) (by kernel_rfl) (fun _ _ _ h => h) (.inl ⟨by kernel_rfl, fun W hW => by go_simp⟩) hS ?_
                  simp only [Act.put, List.setIfInBounds_toArray, List.set_cons_zero, List.set_cons_succ]
                  refine wpAnyH_done (by kernel_rfl) ?_ _
                  go_wp2_with fail
                  go_roundw
                  case rel => exact ⟨k3 + 1, by omega, by go_num, thn hbz hS⟩
                  case measure => (simp [RowKit.intOf]; try omega)
            · have hkl3 : ¬ (k3 : Int) < 4 := by omega
              go_wp2_with fail
              go_roundw
              case rel => exact ⟨k2 + 1, by omega, by go_num, hbz⟩
              case measure => (simp [RowKit.intOf]; try omega)
        · have hkl2 : ¬ (k2 : Int) < 4 := by omega
          go_wp2_with fail
          go_roundw
          case rel => exact ⟨k1 + 1, by omega, by go_num, hbq⟩
          case measure => (simp [RowKit.intOf]; try omega)
    · have hkl : ¬ (k1 : Int) < 4 := by omega
      go_wp2
      go_ret
      exact ⟨rfl, thn bW hbx⟩
end Go.Proofs.YtdnbkllofbnpoaaDoor
