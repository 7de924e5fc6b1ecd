/- The law TopicTells: its walk. Written by gen_tt.py. -/
import Derived.Test.YtdnbkllofbnpoaaDoorTlW
namespace Go.Proofs.YtdnbkllofbnpoaaDoor
open Go.RowKit Go.Lib
set_option linter.unusedVariables false
set_option linter.unusedSimpArgs false

theorem tx_of_row {w : World} {g : Nat} {L : List (List UInt8)} {fr : Nat × Nat} (h : w.heap[g]? = some (.cells (lvs L).toArray 9 fr)) (hm : L.length ≤ 1000001) : TxAt w (.slice (some ⟨g, 0, none⟩) L.length L.length) L := by
  refine ⟨g, 0, _, rfl, Nat.le_refl _, by unfold maxLen; omega, fun j x hj => ?_⟩
  rw [Nat.zero_add, cell_of_row w g j _ _ _ h, lvs_get, hj]
  rfl
theorem row_pick7 (wr : World) (g : Nat) (a b c d e f i : List UInt8) (fr : Nat × Nat) (k : Nat) (h : k < 7) (hl : a.length ≤ 100 ∧ b.length ≤ 100 ∧ c.length ≤ 100 ∧ d.length ≤ 100 ∧ e.length ≤ 100 ∧ f.length ≤ 100 ∧ i.length ≤ 100) (hr : wr.heap[g]? = some (.cells #[.string (bs a), .string (bs b), .string (bs c), .string (bs d), .string (bs e), .string (bs f), .string (bs i)] 9 fr)) :
    ∃ x : List UInt8, wr.cell? ⟨g, k, none⟩ = some (.string (bs x)) ∧ x.length ≤ 100 := by
  rw [cell_of_row wr g k _ _ _ hr]
  match k, h with
  | 0, _ => exact ⟨a, rfl, hl.1⟩
  | 1, _ => exact ⟨b, rfl, hl.2.1⟩
  | 2, _ => exact ⟨c, rfl, hl.2.2.1⟩
  | 3, _ => exact ⟨d, rfl, hl.2.2.2.1⟩
  | 4, _ => exact ⟨e, rfl, hl.2.2.2.2.1⟩
  | 5, _ => exact ⟨f, rfl, hl.2.2.2.2.2.1⟩
  | 6, _ => exact ⟨i, rfl, hl.2.2.2.2.2.2⟩

set_option maxRecDepth 100000 in
set_option maxHeartbeats 8000000 in
theorem ttells_walk (sa sb : ByteArray) (A2 A3 : Option Addr) (c2 c3 : Nat) (l2 l3 : List UInt8) (n4 n5 : Nat) (w : World) (hM : MaxAt w) (hsa : sa.size ≤ maxLen) (hsb : sb.size ≤ maxLen) (hv2 : BytesAt w w.heap.size (.slice A2 l2.length c2) l2) (hv3 : BytesAt w w.heap.size (.slice A3 l3.length c3) l3) (hn4 : n4 < 256) (hn5 : n5 < 256) :
    Calls Tryd.prog 3 #[.string sa, .string sb, .slice A2 l2.length c2, .slice A3 l3.length c3, .int .u8 n4, .int .u8 n5] w fun e w' => e = .returned (.bool true) ∧ Below w.heap.size w w' := by
  have HV2 := Lib.hid hv2
  have HV3 := Lib.hid hv3
  clear hv2 hv3
  by_cases h0 : 60 < sa.size
  · go_enter Tryd.func3, Tryd.ntmps3
    go_wp2_with fail
    refine (known6_any _ hM).mono ?_
    rintro e w1 ⟨rfl, hb1⟩
    go_wp2_with fail
    go_ret
    exact ⟨rfl, hb1⟩
  by_cases h1 : 60 < sb.size
  · go_enter Tryd.func3, Tryd.ntmps3
    go_wp2_with fail
    refine (known6_any _ hM).mono ?_
    rintro e w1 ⟨rfl, hb1⟩
    go_wp2_with fail
    go_ret
    exact ⟨rfl, hb1⟩
  by_cases h2 : 12 < l2.length
  · go_enter Tryd.func3, Tryd.ntmps3
    go_wp2_with fail
    refine (known6_any _ hM).mono ?_
    rintro e w1 ⟨rfl, hb1⟩
    go_wp2_with fail
    go_ret
    exact ⟨rfl, hb1⟩
  by_cases h3 : 12 < l3.length
  · go_enter Tryd.func3, Tryd.ntmps3
    go_wp2_with fail
    refine (known6_any _ hM).mono ?_
    rintro e w1 ⟨rfl, hb1⟩
    go_wp2_with fail
    go_ret
    exact ⟨rfl, hb1⟩
  have lens : Hid ((pieceL l2).length ≤ 100 ∧ (pieceL l3).length ≤ 100) := Lib.hid (by have := pieceL_len l2; have := pieceL_len l3; omega)
  obtain ⟨a, rfl⟩ : ∃ r : List UInt8, sa = bs r := ⟨sa.data.toList, (bs_list sa).symm⟩
  obtain ⟨b, rfl⟩ : ∃ r : List UInt8, sb = bs r := ⟨sb.data.toList, (bs_list sb).symm⟩
  have la : a.length ≤ 100 := by rw [bs_size] at h0; omega
  have lb : b.length ≤ 100 := by rw [bs_size] at h1; omega
  obtain ⟨q4, lq4, cq4⟩ := seat_filter n4 hn4
  obtain ⟨q5, lq5, cq5⟩ := seat_filter n5 hn5
  obtain ⟨t5, lt5, ct5⟩ := seat_topic n5 hn5
  go_enter Tryd.func3, Tryd.ntmps3
  go_wp2_with fail
  refine (known6_any _ hM).mono ?_
  rintro e w1 ⟨rfl, b1⟩
  go_wp2_with fail
  refine (pieces_any _ l2 _ (HV2.out.on b1) (by omega)).mono ?_
  rintro e w2 ⟨rfl, hb2⟩
  have b2 := thn b1 hb2
  clear hb2
  go_wp2_with fail
  refine (pieces_any _ l3 _ (HV3.out.on b2) (by omega)).mono ?_
  rintro e w3 ⟨rfl, hb3⟩
  have b3 := thn b2 hb3
  clear hb3
  go_wp2_with fail
  refine (cq4 _).mono ?_
  rintro e w4 ⟨rfl, hb4⟩
  have b4 := thn b3 hb4
  clear hb4
  go_wp2_with fail
  refine (ct5 _).mono ?_
  rintro e w5 ⟨rfl, hb5⟩
  have b5 := thn b4 hb5
  clear hb5
  go_wp2_with fail
  refine (cq5 _).mono ?_
  rintro e w6 ⟨rfl, hb6⟩
  have b6 := thn b5 hb6
  clear hb6
  have hlF : Hid (a.length ≤ 100 ∧ b.length ≤ 100 ∧ (pieceL l2).length ≤ 100 ∧ (pieceL l3).length ≤ 100 ∧ q4.length ≤ 100 ∧ t5.length ≤ 100 ∧ q5.length ≤ 100) := Lib.hid ⟨la, lb, lens.out.1, lens.out.2, lq4, lt5, lq5⟩
  generalize pieceL l2 = p2 at *
  generalize pieceL l3 = p3 at *
  clear lens HV2 HV3 b1 b2 b3 b4 b5 cq4 cq5 ct5 lq4 lq5 lt5 la lb
  go_wp2_with fail
  obtain ⟨g1, hg1⟩ : ∃ g1, g1 = w6.heap.size := ⟨_, rfl⟩
  rw [← hg1]
  have rF : (w6.alloc (.cells #[.string (bs a), .string (bs b), .string (bs p2), .string (bs p3), .string (bs q4), .string (bs t5), .string (bs q5)] 9)).heap[g1]? = some (.cells #[.string (bs a), .string (bs b), .string (bs p2), .string (bs p3), .string (bs q4), .string (bs t5), .string (bs q5)] 9 (0, 0)) := by rw [hg1]; exact heap_alloc_new _ _
  have bW := alB b6 (.cells #[.string (bs a), .string (bs b), .string (bs p2), .string (bs p3), .string (bs q4), .string (bs t5), .string (bs q5)] 9)
  generalize w6.alloc (.cells #[.string (bs a), .string (bs b), .string (bs p2), .string (bs p3), .string (bs q4), .string (bs t5), .string (bs q5)] 9) = W at *
  have hMW := hM.on bW
  clear hg1 b6
  have RF := Lib.hid rF
  clear rF
  go_loopw [14] (fun i wr => ∃ k : Nat, k ≤ 7 ∧ i = .int .i64 k ∧ Below W.heap.size W wr) (fun i _ => 7 - (RowKit.intOf i).toNat)
  case atStart => exact ⟨0, by omega, rfl, Below.refl _ _⟩
  case round =>
    obtain ⟨k1, hk1, rfl, hbx⟩ := hrel
    by_cases hlt : k1 < 7
    · obtain ⟨f1, cA, lf1⟩ := row_pick7 wr g1 _ _ _ _ _ _ _ _ k1 hlt hlF.out (heap_below hbx RF.out)
      have hMr := hMW.on hbx
      have hs1 : (bs f1).size ≤ 1000000 := by rw [bs_size]; omega
      have cN := fun W => name_any (bs f1) W hs1
      have cN2 := fun W => rname_any (bs f1) W hs1
      have cF := fun W hM => filter_any (bs f1) W hM hs1
      have cF2 := fun W => rfilter_any (bs f1) W hs1
      have cL := fun W hM => levels_any (bs f1) W hM hs1
      have cL2 := fun W => rlev_any (bs f1) W hs1
      rw [bs_data] at cN cN2 cF cF2 cL cL2
      have hLl := lev_le f1
      have hLp := lev_pos f1
      have hkl : (k1 : Int) < 7 := by omega
      have hk0 : (0 : Int) ≤ (k1 : Int) := by omega
      have e1 : (nameP f1 != nameP f1) = false := by simp
      have e2 : (filtP f1 != filtP f1) = false := by simp
      generalize nameP f1 = x1 at *
      generalize filtP f1 = x2 at *
      generalize lev f1 = L1 at *
      clear hs1
      go_wp2_with fail
      refine wp_region_held_drew (S := (fun W => Below wr.heap.size wr W)) (by rfl) (Below.refl _ _).drew ?_
      intro hS
      refine wpAnyH_take (i := 0) (oi := { dst := some 55, op := Go.Op.move (Go.Operand.tmp 13), type := 26, pos := "law.go:35", after := #[], guard := none }) (v := .slice (some ⟨g1, 0, none⟩) 7 7) rfl (by kernel_rfl) (by kernel_rfl) (by kernel_rfl) (fun _ _ _ h => h) (.inl ⟨by kernel_rfl, fun W hW => by go_simp⟩) hS ?_
      simp only [Act.put, List.setIfInBounds_toArray, List.set_cons_zero, List.set_cons_succ]
      refine wpAnyH_take (i := 1) (oi := { dst := some 56, op := Go.Op.move (Go.Operand.tmp 14), type := 3, pos := "law.go:35", after := #[], guard := none }) (v := .int .i64 k1) rfl (by kernel_rfl) (by kernel_rfl) (by kernel_rfl) (fun _ _ _ h => h) (.inl ⟨by kernel_rfl, fun W hW => by go_simp⟩) hS ?_
      simp only [Act.put, List.setIfInBounds_toArray, List.set_cons_zero, List.set_cons_succ]
      refine wpAnyH_take (i := 2) (oi := { dst := some 57, op := Go.Op.indexAddr 26 (Go.Operand.tmp 55) (Go.Operand.tmp 56), type := 0, pos := "law.go:35", after := #[{ on := 0, ground := Go.Ground.data }, { on := 1, ground := Go.Ground.data }], guard := none }) (v := .pointer (some ⟨g1, k1, none⟩)) rfl (by kernel_rfl) (by kernel_rfl) (by kernel_rfl) (fun _ _ _ h => h) (.inl ⟨by kernel_rfl, fun W hW => by go_simp⟩) hS ?_
      simp only [Act.put, List.setIfInBounds_toArray, List.set_cons_zero, List.set_cons_succ]
      refine wpAnyH_take (i := 3) (oi := { dst := some 58, op := Go.Op.load 9 (Go.Operand.tmp 57), type := 9, pos := "law.go:35", after := #[{ on := 2, ground := Go.Ground.data }], guard := none }) (v := .string (bs f1)) rfl (by kernel_rfl) (by kernel_rfl) (by kernel_rfl) (fun _ _ _ h => h) (.inl ⟨by kernel_rfl, fun W hW => by simp [execOp, go_sem, keep_cell cA hW]⟩) hS ?_
      simp only [Act.put, List.setIfInBounds_toArray, List.set_cons_zero, List.set_cons_succ]
      refine wpAnyH_take (i := 5) (oi := { dst := some 60, op := Go.Op.move (Go.Operand.tmp 13), type := 26, pos := "law.go:35", after := #[], guard := none }) (v := .slice (some ⟨g1, 0, none⟩) 7 7) rfl (by kernel_rfl) (by kernel_rfl) (by kernel_rfl) (fun _ _ _ h => h) (.inl ⟨by kernel_rfl, fun W hW => by go_simp⟩) hS ?_
      simp only [Act.put, List.setIfInBounds_toArray, List.set_cons_zero, List.set_cons_succ]
      refine wpAnyH_take (i := 6) (oi := { dst := some 61, op := Go.Op.move (Go.Operand.tmp 14), type := 3, pos := "law.go:35", after := #[], guard := none }) (v := .int .i64 k1) rfl (by kernel_rfl) (by kernel_rfl) (by kernel_rfl) (fun _ _ _ h => h) (.inl ⟨by kernel_rfl, fun W hW => by go_simp⟩) hS ?_
      simp only [Act.put, List.setIfInBounds_toArray, List.set_cons_zero, List.set_cons_succ]
      refine wpAnyH_take (i := 7) (oi := { dst := some 62, op := Go.Op.indexAddr 26 (Go.Operand.tmp 60) (Go.Operand.tmp 61), type := 0, pos := "law.go:35", after := #[{ on := 5, ground := Go.Ground.data }, { on := 6, ground := Go.Ground.data }], guard := none }) (v := .pointer (some ⟨g1, k1, none⟩)) rfl (by kernel_rfl) (by kernel_rfl) (by kernel_rfl) (fun _ _ _ h => h) (.inl ⟨by kernel_rfl, fun W hW => by go_simp⟩) hS ?_
      simp only [Act.put, List.setIfInBounds_toArray, List.set_cons_zero, List.set_cons_succ]
      refine wpAnyH_take (i := 8) (oi := { dst := some 63, op := Go.Op.load 9 (Go.Operand.tmp 62), type := 9, pos := "law.go:35", after := #[{ on := 7, ground := Go.Ground.data }], guard := none }) (v := .string (bs f1)) rfl (by kernel_rfl) (by kernel_rfl) (by kernel_rfl) (fun _ _ _ h => h) (.inl ⟨by kernel_rfl, fun W hW => by simp [execOp, go_sem, keep_cell cA hW]⟩) hS ?_
      simp only [Act.put, List.setIfInBounds_toArray, List.set_cons_zero, List.set_cons_succ]
      refine wpAnyH_ready (rs := [4]) (by kernel_rfl) (by simp) ?_
      refine AllReadyH.cons (o := { dst := some 59, op := Go.Op.call { callee := Go.Callee.value (Go.Operand.func 12), args := #[Go.Operand.tmp 58], argTypes := #[9] }, type := 4, pos := "law.go:35", after := #[{ on := 3, ground := Go.Ground.data }], guard := none }) rfl (fun K hK => ?_) (AllReadyH.nil)
      rw [if_pos (by kernel_rfl)]
      go_wp2_with fail
      refine (cN _).mono ?_
      rintro e wa ⟨rfl, hba⟩
      go_wp2_with fail
      refine hK.out _ _ (thn hS hba) (fun hS' => ?_)
      clear hK hS hba
      have hS := hS'
      clear hS'
      refine wpAnyH_ready (rs := [9]) (by kernel_rfl) (by simp) ?_
      refine AllReadyH.cons (o := { dst := some 64, op := Go.Op.call { callee := Go.Callee.value (Go.Operand.func 13), args := #[Go.Operand.tmp 63], argTypes := #[9] }, type := 4, pos := "law.go:35", after := #[{ on := 8, ground := Go.Ground.data }, { on := 4, ground := Go.Ground.chain }], guard := none }) rfl (fun K hK => ?_) (AllReadyH.nil)
      rw [if_pos (by kernel_rfl)]
      go_wp2_with fail
      refine (cN2 _).mono ?_
      rintro e wb ⟨rfl, hbb⟩
      go_wp2_with fail
      refine hK.out _ _ (thn hS hbb) (fun hS' => ?_)
      clear hK hS hbb
      have hS := hS'
      clear hS'
      refine wpAnyH_take (i := 10) (oi := { dst := some 65, op := Go.Op.binOp Go.BinOp.neq 4 (Go.Operand.tmp 59) (Go.Operand.tmp 64) 4, type := 4, pos := "law.go:35", after := #[{ on := 4, ground := Go.Ground.data }, { on := 9, ground := Go.Ground.data }], guard := none }) (v := .bool false) rfl (by kernel_rfl) (by kernel_rfl) (by kernel_rfl) (fun _ _ _ h => h) (.inl ⟨by kernel_rfl, fun W hW => by go_simp⟩) hS ?_
      simp only [Act.put, List.setIfInBounds_toArray, List.set_cons_zero, List.set_cons_succ]
      refine wpAnyH_take (i := 11) (oi := { dst := some 66, op := Go.Op.move (Go.Operand.tmp 65), type := 4, pos := "law.go:35", after := #[{ on := 10, ground := Go.Ground.data }, { on := 9, ground := Go.Ground.chain }], guard := none }) (v := .bool false) rfl (by kernel_rfl) (by kernel_rfl) (by kernel_rfl) (fun _ _ _ h => h) (.inl ⟨by kernel_rfl, fun W hW => by go_simp⟩) hS ?_
      simp only [Act.put, List.setIfInBounds_toArray, List.set_cons_zero, List.set_cons_succ]
      refine wpAnyH_take (i := 12) (oi := { dst := some 67, op := Go.Op.move (Go.Operand.tmp 13), type := 26, pos := "law.go:35", after := #[{ on := 11, ground := Go.Ground.guard }], guard := some (11, false) }) (v := .slice (some ⟨g1, 0, none⟩) 7 7) rfl (by kernel_rfl) (by kernel_rfl) (by kernel_rfl) (fun _ _ _ h => h) (.inl ⟨by kernel_rfl, fun W hW => by go_simp⟩) hS ?_
      simp only [Act.put, List.setIfInBounds_toArray, List.set_cons_zero, List.set_cons_succ]
      refine wpAnyH_take (i := 13) (oi := { dst := some 68, op := Go.Op.move (Go.Operand.tmp 14), type := 3, pos := "law.go:35", after := #[{ on := 11, ground := Go.Ground.guard }], guard := some (11, false) }) (v := .int .i64 k1) rfl (by kernel_rfl) (by kernel_rfl) (by kernel_rfl) (fun _ _ _ h => h) (.inl ⟨by kernel_rfl, fun W hW => by go_simp⟩) hS ?_
      simp only [Act.put, List.setIfInBounds_toArray, List.set_cons_zero, List.set_cons_succ]
      refine wpAnyH_take (i := 14) (oi := { dst := some 69, op := Go.Op.indexAddr 26 (Go.Operand.tmp 67) (Go.Operand.tmp 68), type := 0, pos := "law.go:35", after := #[{ on := 12, ground := Go.Ground.data }, { on := 13, ground := Go.Ground.data }, { on := 11, ground := Go.Ground.guard }], guard := some (11, false) }) (v := .pointer (some ⟨g1, k1, none⟩)) rfl (by kernel_rfl) (by kernel_rfl) (by kernel_rfl) (fun _ _ _ h => h) (.inl ⟨by kernel_rfl, fun W hW => by go_simp⟩) hS ?_
      simp only [Act.put, List.setIfInBounds_toArray, List.set_cons_zero, List.set_cons_succ]
      refine wpAnyH_take (i := 15) (oi := { dst := some 70, op := Go.Op.load 9 (Go.Operand.tmp 69), type := 9, pos := "law.go:35", after := #[{ on := 14, ground := Go.Ground.data }, { on := 11, ground := Go.Ground.guard }], guard := some (11, false) }) (v := .string (bs f1)) rfl (by kernel_rfl) (by kernel_rfl) (by kernel_rfl) (fun _ _ _ h => h) (.inl ⟨by kernel_rfl, fun W hW => by simp [execOp, go_sem, keep_cell cA hW]⟩) hS ?_
      simp only [Act.put, List.setIfInBounds_toArray, List.set_cons_zero, List.set_cons_succ]
      refine wpAnyH_take (i := 17) (oi := { dst := some 72, op := Go.Op.move (Go.Operand.tmp 13), type := 26, pos := "law.go:35", after := #[{ on := 11, ground := Go.Ground.guard }], guard := some (11, false) }) (v := .slice (some ⟨g1, 0, none⟩) 7 7) rfl (by kernel_rfl) (by kernel_rfl) (by kernel_rfl) (fun _ _ _ h => h) (.inl ⟨by kernel_rfl, fun W hW => by go_simp⟩) hS ?_
      simp only [Act.put, List.setIfInBounds_toArray, List.set_cons_zero, List.set_cons_succ]
      refine wpAnyH_take (i := 18) (oi := { dst := some 73, op := Go.Op.move (Go.Operand.tmp 14), type := 3, pos := "law.go:35", after := #[{ on := 11, ground := Go.Ground.guard }], guard := some (11, false) }) (v := .int .i64 k1) rfl (by kernel_rfl) (by kernel_rfl) (by kernel_rfl) (fun _ _ _ h => h) (.inl ⟨by kernel_rfl, fun W hW => by go_simp⟩) hS ?_
      simp only [Act.put, List.setIfInBounds_toArray, List.set_cons_zero, List.set_cons_succ]
      refine wpAnyH_take (i := 19) (oi := { dst := some 74, op := Go.Op.indexAddr 26 (Go.Operand.tmp 72) (Go.Operand.tmp 73), type := 0, pos := "law.go:35", after := #[{ on := 17, ground := Go.Ground.data }, { on := 18, ground := Go.Ground.data }, { on := 11, ground := Go.Ground.guard }], guard := some (11, false) }) (v := .pointer (some ⟨g1, k1, none⟩)) rfl (by kernel_rfl) (by kernel_rfl) (by kernel_rfl) (fun _ _ _ h => h) (.inl ⟨by kernel_rfl, fun W hW => by go_simp⟩) hS ?_
      simp only [Act.put, List.setIfInBounds_toArray, List.set_cons_zero, List.set_cons_succ]
      refine wpAnyH_take (i := 20) (oi := { dst := some 75, op := Go.Op.load 9 (Go.Operand.tmp 74), type := 9, pos := "law.go:35", after := #[{ on := 19, ground := Go.Ground.data }, { on := 11, ground := Go.Ground.guard }], guard := some (11, false) }) (v := .string (bs f1)) rfl (by kernel_rfl) (by kernel_rfl) (by kernel_rfl) (fun _ _ _ h => h) (.inl ⟨by kernel_rfl, fun W hW => by simp [execOp, go_sem, keep_cell cA hW]⟩) hS ?_
      simp only [Act.put, List.setIfInBounds_toArray, List.set_cons_zero, List.set_cons_succ]
      refine wpAnyH_ready (rs := [16]) (by kernel_rfl) (by simp) ?_
      refine AllReadyH.cons (o := { dst := some 71, op := Go.Op.call { callee := Go.Callee.value (Go.Operand.func 14), args := #[Go.Operand.tmp 70], argTypes := #[9] }, type := 4, pos := "law.go:35", after := #[{ on := 15, ground := Go.Ground.data }, { on := 11, ground := Go.Ground.chain }, { on := 11, ground := Go.Ground.guard }], guard := some (11, false) }) rfl (fun K hK => ?_) (AllReadyH.nil)
      rw [if_pos (by kernel_rfl)]
      go_wp2_with fail
      refine (cF _ (hMr.on hS)).mono ?_
      rintro e wc ⟨rfl, hbc⟩
      go_wp2_with fail
      refine hK.out _ _ (thn hS hbc) (fun hS' => ?_)
      clear hK hS hbc
      have hS := hS'
      clear hS'
      refine wpAnyH_ready (rs := [21]) (by kernel_rfl) (by simp) ?_
      refine AllReadyH.cons (o := { dst := some 76, op := Go.Op.call { callee := Go.Callee.value (Go.Operand.func 15), args := #[Go.Operand.tmp 75], argTypes := #[9] }, type := 4, pos := "law.go:35", after := #[{ on := 20, ground := Go.Ground.data }, { on := 16, ground := Go.Ground.chain }, { on := 11, ground := Go.Ground.guard }], guard := some (11, false) }) rfl (fun K hK => ?_) (AllReadyH.nil)
      rw [if_pos (by kernel_rfl)]
      go_wp2_with fail
      refine (cF2 _).mono ?_
      rintro e wd ⟨rfl, hbd⟩
      go_wp2_with fail
      refine hK.out _ _ (thn hS hbd) (fun hS' => ?_)
      clear hK hS hbd
      have hS := hS'
      clear hS'
      refine wpAnyH_take (i := 22) (oi := { dst := some 77, op := Go.Op.binOp Go.BinOp.neq 4 (Go.Operand.tmp 71) (Go.Operand.tmp 76) 4, type := 4, pos := "law.go:35", after := #[{ on := 16, ground := Go.Ground.data }, { on := 21, ground := Go.Ground.data }, { on := 11, ground := Go.Ground.guard }], guard := some (11, false) }) (v := .bool false) rfl (by kernel_rfl) (by kernel_rfl) (by kernel_rfl) (fun _ _ _ h => h) (.inl ⟨by kernel_rfl, fun W hW => by go_simp⟩) hS ?_
      simp only [Act.put, List.setIfInBounds_toArray, List.set_cons_zero, List.set_cons_succ]
      refine wpAnyH_take (i := 23) (oi := { dst := some 78, op := Go.Op.pick (Go.Operand.tmp 66) (Go.Operand.const (Go.Value.bool true)) (Go.Operand.tmp 77), type := 4, pos := "law.go:35", after := #[{ on := 11, ground := Go.Ground.data }, { on := 22, ground := Go.Ground.data }], guard := none }) (v := .bool false) rfl (by kernel_rfl) (by kernel_rfl) (by kernel_rfl) (fun _ _ _ h => h) (.inl ⟨by kernel_rfl, fun W hW => by go_simp⟩) hS ?_
      simp only [Act.put, List.setIfInBounds_toArray, List.set_cons_zero, List.set_cons_succ]
      refine wpAnyH_take (i := 24) (oi := { dst := some 79, op := Go.Op.move (Go.Operand.tmp 78), type := 4, pos := "law.go:35", after := #[{ on := 23, ground := Go.Ground.data }, { on := 21, ground := Go.Ground.chain }], guard := none }) (v := .bool false) rfl (by kernel_rfl) (by kernel_rfl) (by kernel_rfl) (fun _ _ _ h => h) (.inl ⟨by kernel_rfl, fun W hW => by go_simp⟩) hS ?_
      simp only [Act.put, List.setIfInBounds_toArray, List.set_cons_zero, List.set_cons_succ]
      refine wpAnyH_take (i := 25) (oi := { dst := some 80, op := Go.Op.move (Go.Operand.tmp 13), type := 26, pos := "law.go:35", after := #[{ on := 24, ground := Go.Ground.guard }], guard := some (24, false) }) (v := .slice (some ⟨g1, 0, none⟩) 7 7) rfl (by kernel_rfl) (by kernel_rfl) (by kernel_rfl) (fun _ _ _ h => h) (.inl ⟨by kernel_rfl, fun W hW => by go_simp⟩) hS ?_
      simp only [Act.put, List.setIfInBounds_toArray, List.set_cons_zero, List.set_cons_succ]
      refine wpAnyH_take (i := 26) (oi := { dst := some 81, op := Go.Op.move (Go.Operand.tmp 14), type := 3, pos := "law.go:35", after := #[{ on := 24, ground := Go.Ground.guard }], guard := some (24, false) }) (v := .int .i64 k1) rfl (by kernel_rfl) (by kernel_rfl) (by kernel_rfl) (fun _ _ _ h => h) (.inl ⟨by kernel_rfl, fun W hW => by go_simp⟩) hS ?_
      simp only [Act.put, List.setIfInBounds_toArray, List.set_cons_zero, List.set_cons_succ]
      refine wpAnyH_take (i := 27) (oi := { dst := some 82, op := Go.Op.indexAddr 26 (Go.Operand.tmp 80) (Go.Operand.tmp 81), type := 0, pos := "law.go:35", after := #[{ on := 25, ground := Go.Ground.data }, { on := 26, ground := Go.Ground.data }, { on := 24, ground := Go.Ground.guard }], guard := some (24, false) }) (v := .pointer (some ⟨g1, k1, none⟩)) rfl (by kernel_rfl) (by kernel_rfl) (by kernel_rfl) (fun _ _ _ h => h) (.inl ⟨by kernel_rfl, fun W hW => by go_simp⟩) hS ?_
      simp only [Act.put, List.setIfInBounds_toArray, List.set_cons_zero, List.set_cons_succ]
      refine wpAnyH_take (i := 28) (oi := { dst := some 83, op := Go.Op.load 9 (Go.Operand.tmp 82), type := 9, pos := "law.go:35", after := #[{ on := 27, ground := Go.Ground.data }, { on := 24, ground := Go.Ground.guard }], guard := some (24, false) }) (v := .string (bs f1)) rfl (by kernel_rfl) (by kernel_rfl) (by kernel_rfl) (fun _ _ _ h => h) (.inl ⟨by kernel_rfl, fun W hW => by simp [execOp, go_sem, keep_cell cA hW]⟩) hS ?_
      simp only [Act.put, List.setIfInBounds_toArray, List.set_cons_zero, List.set_cons_succ]
      refine wpAnyH_take (i := 30) (oi := { dst := some 85, op := Go.Op.move (Go.Operand.tmp 13), type := 26, pos := "law.go:35", after := #[{ on := 24, ground := Go.Ground.guard }], guard := some (24, false) }) (v := .slice (some ⟨g1, 0, none⟩) 7 7) rfl (by kernel_rfl) (by kernel_rfl) (by kernel_rfl) (fun _ _ _ h => h) (.inl ⟨by kernel_rfl, fun W hW => by go_simp⟩) hS ?_
      simp only [Act.put, List.setIfInBounds_toArray, List.set_cons_zero, List.set_cons_succ]
      refine wpAnyH_take (i := 31) (oi := { dst := some 86, op := Go.Op.move (Go.Operand.tmp 14), type := 3, pos := "law.go:35", after := #[{ on := 24, ground := Go.Ground.guard }], guard := some (24, false) }) (v := .int .i64 k1) rfl (by kernel_rfl) (by kernel_rfl) (by kernel_rfl) (fun _ _ _ h => h) (.inl ⟨by kernel_rfl, fun W hW => by go_simp⟩) hS ?_
      simp only [Act.put, List.setIfInBounds_toArray, List.set_cons_zero, List.set_cons_succ]
      refine wpAnyH_take (i := 32) (oi := { dst := some 87, op := Go.Op.indexAddr 26 (Go.Operand.tmp 85) (Go.Operand.tmp 86), type := 0, pos := "law.go:35", after := #[{ on := 30, ground := Go.Ground.data }, { on := 31, ground := Go.Ground.data }, { on := 24, ground := Go.Ground.guard }], guard := some (24, false) }) (v := .pointer (some ⟨g1, k1, none⟩)) rfl (by kernel_rfl) (by kernel_rfl) (by kernel_rfl) (fun _ _ _ h => h) (.inl ⟨by kernel_rfl, fun W hW => by go_simp⟩) hS ?_
      simp only [Act.put, List.setIfInBounds_toArray, List.set_cons_zero, List.set_cons_succ]
      refine wpAnyH_take (i := 33) (oi := { dst := some 88, op := Go.Op.load 9 (Go.Operand.tmp 87), type := 9, pos := "law.go:35", after := #[{ on := 32, ground := Go.Ground.data }, { on := 24, ground := Go.Ground.guard }], guard := some (24, false) }) (v := .string (bs f1)) rfl (by kernel_rfl) (by kernel_rfl) (by kernel_rfl) (fun _ _ _ h => h) (.inl ⟨by kernel_rfl, fun W hW => by simp [execOp, go_sem, keep_cell cA hW]⟩) hS ?_
      simp only [Act.put, List.setIfInBounds_toArray, List.set_cons_zero, List.set_cons_succ]
      refine wpAnyH_ready (rs := [29]) (by kernel_rfl) (by simp) ?_
      refine AllReadyH.cons (o := { dst := some 84, op := Go.Op.call { callee := Go.Callee.value (Go.Operand.func 17), args := #[Go.Operand.tmp 83], argTypes := #[9] }, type := 26, pos := "law.go:35", after := #[{ on := 28, ground := Go.Ground.data }, { on := 24, ground := Go.Ground.chain }, { on := 24, ground := Go.Ground.guard }], guard := some (24, false) }) rfl (fun K hK => ?_) (AllReadyH.nil)
      rw [if_pos (by kernel_rfl)]
      go_wp2_with fail
      refine (cL _ (hMr.on hS)).mono ?_
      rintro e we ⟨gL, hgL, rfl, hrowL, hbe⟩
      have T1 := tx_of_row hrowL (by omega)
      clear hrowL hgL
      go_wp2_with fail
      refine hK.out _ _ (thn hS hbe) (fun hS' => ?_)
      clear hK hS hbe
      have hS := hS'
      clear hS'
      refine wpAnyH_ready (rs := [34]) (by kernel_rfl) (by simp) ?_
      refine AllReadyH.cons (o := { dst := some 89, op := Go.Op.call { callee := Go.Callee.value (Go.Operand.func 18), args := #[Go.Operand.tmp 88], argTypes := #[9] }, type := 26, pos := "law.go:35", after := #[{ on := 33, ground := Go.Ground.data }, { on := 29, ground := Go.Ground.chain }, { on := 24, ground := Go.Ground.guard }], guard := some (24, false) }) rfl (fun K hK => ?_) (AllReadyH.nil)
      rw [if_pos (by kernel_rfl)]
      go_wp2_with fail
      refine (cL2 _).mono ?_
      rintro e wf ⟨v, rfl, hownf, hbf⟩
      have T2 := tx_of_own hownf rfl (by omega)
      have T1 := T1.below hbf
      obtain ⟨gR, capR, rfl, _⟩ := row_form hownf (by omega)
      clear hownf
      go_wp2_with fail
      refine hK.out _ _ (thn hS hbf) (fun hS' => ?_)
      clear hK hS hbf
      have hS := hS'
      clear hS'
      refine wpAnyH_ready (rs := [35]) (by kernel_rfl) (by simp) ?_
      refine AllReadyH.cons (o := { dst := some 90, op := Go.Op.call { callee := Go.Callee.value (Go.Operand.func 16), args := #[Go.Operand.tmp 84, Go.Operand.tmp 89], argTypes := #[26, 26] }, type := 4, pos := "law.go:35", after := #[{ on := 29, ground := Go.Ground.data }, { on := 34, ground := Go.Ground.data }, { on := 34, ground := Go.Ground.chain }, { on := 24, ground := Go.Ground.guard }], guard := some (24, false) }) rfl (fun K hK => ?_) (AllReadyH.nil)
      rw [if_pos (by kernel_rfl)]
      go_wp2_with fail
      refine (strings_eq _ _ L1 _ (by omega) T1 T2).mono ?_
      rintro e wg ⟨rfl, hbg⟩
      go_wp2_with fail
      refine hK.out _ _ (thn hS hbg) (fun hS' => ?_)
      clear hK hS hbg
      have hS := hS'
      clear hS'
      refine wpAnyH_take (i := 36) (oi := { dst := some 91, op := Go.Op.unOp Go.UnOp.not 4 (Go.Operand.tmp 90), type := 4, pos := "law.go:35", after := #[{ on := 35, ground := Go.Ground.data }, { on := 24, ground := Go.Ground.guard }], guard := some (24, false) }) (v := .bool false) rfl (by kernel_rfl) (by kernel_rfl) (by kernel_rfl) (fun _ _ _ h => h) (.inl ⟨by kernel_rfl, fun W hW => by go_simp⟩) hS ?_
      simp only [Act.put, List.setIfInBounds_toArray, List.set_cons_zero, List.set_cons_succ]
      refine wpAnyH_take (i := 37) (oi := { dst := some 92, op := Go.Op.pick (Go.Operand.tmp 79) (Go.Operand.const (Go.Value.bool true)) (Go.Operand.tmp 91), type := 4, pos := "law.go:35", after := #[{ on := 24, ground := Go.Ground.data }, { on := 36, ground := Go.Ground.data }], guard := none }) (v := .bool false) rfl (by kernel_rfl) (by kernel_rfl) (by kernel_rfl) (fun _ _ _ h => h) (.inl ⟨by kernel_rfl, fun W hW => by go_simp⟩) hS ?_
      simp only [Act.put, List.setIfInBounds_toArray, List.set_cons_zero, List.set_cons_succ]
      refine wpAnyH_done (by kernel_rfl) ?_ _
      go_wp2_with fail
      clear cN cN2 cF cF2 cL cL2 e1 e2 hLl hLp T1 T2
      go_loopw [15] (fun i wq => ∃ k : Nat, k ≤ 7 ∧ i = .int .i64 k ∧ Below W.heap.size W wq) (fun i _ => 7 - (RowKit.intOf i).toNat)
      case atStart => exact ⟨0, by omega, rfl, thn hbx hS⟩
      case round =>
        obtain ⟨k2, hk2, rfl, hbz⟩ := hrel
        by_cases hlt2 : k2 < 7
        · clear cA lf1
          obtain ⟨f1, cA, lf1⟩ := row_pick7 wr g1 _ _ _ _ _ _ _ _ k1 hlt hlF.out (heap_below hbz RF.out)
          obtain ⟨f2, cB, lf2⟩ := row_pick7 wr g1 _ _ _ _ _ _ _ _ k2 hlt2 hlF.out (heap_below hbz RF.out)
          have hMz := hMW.on hbz
          have hs1 : (bs f1).size ≤ 1000000 := by rw [bs_size]; omega
          have hs2 : (bs f2).size ≤ 1000000 := by rw [bs_size]; omega
          have cM := fun W hM => match_any (bs f1) (bs f2) W hM hs1 hs2
          have cM2 := fun W => rmatch_any (bs f1) (bs f2) W hs1 hs2
          have cW := fun W hM => within_any (bs f1) (bs f2) W hM hs1 hs2
          have cW2 := fun W => rwithin_any (bs f1) (bs f2) W hs1 hs2
          rw [bs_data, bs_data] at cM cM2 cW cW2
          have hkl2 : (k2 : Int) < 7 := by omega
          have hk02 : (0 : Int) ≤ (k2 : Int) := by omega
          have e1 : (matchP f1 f2 != matchP f1 f2) = false := by simp
          have e2 : (withinP f1 f2 != withinP f1 f2) = false := by simp
          generalize matchP f1 f2 = x3 at *
          generalize withinP f1 f2 = x4 at *
          clear hs1 hs2 lf1 lf2
          go_wp2_with fail
          refine wp_region_held_drew (S := (fun W => Below wr.heap.size wr W)) (by rfl) (Below.refl _ _).drew ?_
          intro hS
          refine wpAnyH_take (i := 0) (oi := { dst := some 99, op := Go.Op.move (Go.Operand.tmp 13), type := 26, pos := "law.go:39", after := #[], guard := none }) (v := .slice (some ⟨g1, 0, none⟩) 7 7) rfl (by kernel_rfl) (by kernel_rfl) (by kernel_rfl) (fun _ _ _ h => h) (.inl ⟨by kernel_rfl, fun W hW => by go_simp⟩) hS ?_
          simp only [Act.put, List.setIfInBounds_toArray, List.set_cons_zero, List.set_cons_succ]
          refine wpAnyH_take (i := 1) (oi := { dst := some 100, op := Go.Op.move (Go.Operand.tmp 14), type := 3, pos := "law.go:39", after := #[], guard := none }) (v := .int .i64 k1) rfl (by kernel_rfl) (by kernel_rfl) (by kernel_rfl) (fun _ _ _ h => h) (.inl ⟨by kernel_rfl, fun W hW => by go_simp⟩) hS ?_
          simp only [Act.put, List.setIfInBounds_toArray, List.set_cons_zero, List.set_cons_succ]
          refine wpAnyH_take (i := 2) (oi := { dst := some 101, op := Go.Op.indexAddr 26 (Go.Operand.tmp 99) (Go.Operand.tmp 100), type := 0, pos := "law.go:39", after := #[{ on := 0, ground := Go.Ground.data }, { on := 1, ground := Go.Ground.data }], guard := none }) (v := .pointer (some ⟨g1, k1, none⟩)) rfl (by kernel_rfl) (by kernel_rfl) (by kernel_rfl) (fun _ _ _ h => h) (.inl ⟨by kernel_rfl, fun W hW => by go_simp⟩) hS ?_
          simp only [Act.put, List.setIfInBounds_toArray, List.set_cons_zero, List.set_cons_succ]
          refine wpAnyH_take (i := 3) (oi := { dst := some 102, op := Go.Op.load 9 (Go.Operand.tmp 101), type := 9, pos := "law.go:39", after := #[{ on := 2, ground := Go.Ground.data }], guard := none }) (v := .string (bs f1)) rfl (by kernel_rfl) (by kernel_rfl) (by kernel_rfl) (fun _ _ _ h => h) (.inl ⟨by kernel_rfl, fun W hW => by simp [execOp, go_sem, keep_cell cA hW]⟩) hS ?_
          simp only [Act.put, List.setIfInBounds_toArray, List.set_cons_zero, List.set_cons_succ]
          refine wpAnyH_take (i := 4) (oi := { dst := some 103, op := Go.Op.move (Go.Operand.tmp 13), type := 26, pos := "law.go:39", after := #[], guard := none }) (v := .slice (some ⟨g1, 0, none⟩) 7 7) rfl (by kernel_rfl) (by kernel_rfl) (by kernel_rfl) (fun _ _ _ h => h) (.inl ⟨by kernel_rfl, fun W hW => by go_simp⟩) hS ?_
          simp only [Act.put, List.setIfInBounds_toArray, List.set_cons_zero, List.set_cons_succ]
          refine wpAnyH_take (i := 5) (oi := { dst := some 104, op := Go.Op.move (Go.Operand.tmp 15), type := 3, pos := "law.go:39", after := #[], guard := none }) (v := .int .i64 k2) rfl (by kernel_rfl) (by kernel_rfl) (by kernel_rfl) (fun _ _ _ h => h) (.inl ⟨by kernel_rfl, fun W hW => by go_simp⟩) hS ?_
          simp only [Act.put, List.setIfInBounds_toArray, List.set_cons_zero, List.set_cons_succ]
          refine wpAnyH_take (i := 6) (oi := { dst := some 105, op := Go.Op.indexAddr 26 (Go.Operand.tmp 103) (Go.Operand.tmp 104), type := 0, pos := "law.go:39", after := #[{ on := 4, ground := Go.Ground.data }, { on := 5, ground := Go.Ground.data }], guard := none }) (v := .pointer (some ⟨g1, k2, none⟩)) rfl (by kernel_rfl) (by kernel_rfl) (by kernel_rfl) (fun _ _ _ h => h) (.inl ⟨by kernel_rfl, fun W hW => by go_simp⟩) hS ?_
          simp only [Act.put, List.setIfInBounds_toArray, List.set_cons_zero, List.set_cons_succ]
          refine wpAnyH_take (i := 7) (oi := { dst := some 106, op := Go.Op.load 9 (Go.Operand.tmp 105), type := 9, pos := "law.go:39", after := #[{ on := 6, ground := Go.Ground.data }], guard := none }) (v := .string (bs f2)) rfl (by kernel_rfl) (by kernel_rfl) (by kernel_rfl) (fun _ _ _ h => h) (.inl ⟨by kernel_rfl, fun W hW => by simp [execOp, go_sem, keep_cell cB hW]⟩) hS ?_
          simp only [Act.put, List.setIfInBounds_toArray, List.set_cons_zero, List.set_cons_succ]
          refine wpAnyH_take (i := 9) (oi := { dst := some 108, op := Go.Op.move (Go.Operand.tmp 13), type := 26, pos := "law.go:39", after := #[], guard := none }) (v := .slice (some ⟨g1, 0, none⟩) 7 7) rfl (by kernel_rfl) (by kernel_rfl) (by kernel_rfl) (fun _ _ _ h => h) (.inl ⟨by kernel_rfl, fun W hW => by go_simp⟩) hS ?_
          simp only [Act.put, List.setIfInBounds_toArray, List.set_cons_zero, List.set_cons_succ]
          refine wpAnyH_take (i := 10) (oi := { dst := some 109, op := Go.Op.move (Go.Operand.tmp 14), type := 3, pos := "law.go:39", after := #[], guard := none }) (v := .int .i64 k1) rfl (by kernel_rfl) (by kernel_rfl) (by kernel_rfl) (fun _ _ _ h => h) (.inl ⟨by kernel_rfl, fun W hW => by go_simp⟩) hS ?_
          simp only [Act.put, List.setIfInBounds_toArray, List.set_cons_zero, List.set_cons_succ]
          refine wpAnyH_take (i := 11) (oi := { dst := some 110, op := Go.Op.indexAddr 26 (Go.Operand.tmp 108) (Go.Operand.tmp 109), type := 0, pos := "law.go:39", after := #[{ on := 9, ground := Go.Ground.data }, { on := 10, ground := Go.Ground.data }], guard := none }) (v := .pointer (some ⟨g1, k1, none⟩)) rfl (by kernel_rfl) (by kernel_rfl) (by kernel_rfl) (fun _ _ _ h => h) (.inl ⟨by kernel_rfl, fun W hW => by go_simp⟩) hS ?_
          simp only [Act.put, List.setIfInBounds_toArray, List.set_cons_zero, List.set_cons_succ]
          refine wpAnyH_take (i := 12) (oi := { dst := some 111, op := Go.Op.load 9 (Go.Operand.tmp 110), type := 9, pos := "law.go:39", after := #[{ on := 11, ground := Go.Ground.data }], guard := none }) (v := .string (bs f1)) rfl (by kernel_rfl) (by kernel_rfl) (by kernel_rfl) (fun _ _ _ h => h) (.inl ⟨by kernel_rfl, fun W hW => by simp [execOp, go_sem, keep_cell cA hW]⟩) hS ?_
          simp only [Act.put, List.setIfInBounds_toArray, List.set_cons_zero, List.set_cons_succ]
          refine wpAnyH_take (i := 13) (oi := { dst := some 112, op := Go.Op.move (Go.Operand.tmp 13), type := 26, pos := "law.go:39", after := #[], guard := none }) (v := .slice (some ⟨g1, 0, none⟩) 7 7) rfl (by kernel_rfl) (by kernel_rfl) (by kernel_rfl) (fun _ _ _ h => h) (.inl ⟨by kernel_rfl, fun W hW => by go_simp⟩) hS ?_
          simp only [Act.put, List.setIfInBounds_toArray, List.set_cons_zero, List.set_cons_succ]
          refine wpAnyH_take (i := 14) (oi := { dst := some 113, op := Go.Op.move (Go.Operand.tmp 15), type := 3, pos := "law.go:39", after := #[], guard := none }) (v := .int .i64 k2) rfl (by kernel_rfl) (by kernel_rfl) (by kernel_rfl) (fun _ _ _ h => h) (.inl ⟨by kernel_rfl, fun W hW => by go_simp⟩) hS ?_
          simp only [Act.put, List.setIfInBounds_toArray, List.set_cons_zero, List.set_cons_succ]
          refine wpAnyH_take (i := 15) (oi := { dst := some 114, op := Go.Op.indexAddr 26 (Go.Operand.tmp 112) (Go.Operand.tmp 113), type := 0, pos := "law.go:39", after := #[{ on := 13, ground := Go.Ground.data }, { on := 14, ground := Go.Ground.data }], guard := none }) (v := .pointer (some ⟨g1, k2, none⟩)) rfl (by kernel_rfl) (by kernel_rfl) (by kernel_rfl) (fun _ _ _ h => h) (.inl ⟨by kernel_rfl, fun W hW => by go_simp⟩) hS ?_
          simp only [Act.put, List.setIfInBounds_toArray, List.set_cons_zero, List.set_cons_succ]
          refine wpAnyH_take (i := 16) (oi := { dst := some 115, op := Go.Op.load 9 (Go.Operand.tmp 114), type := 9, pos := "law.go:39", after := #[{ on := 15, ground := Go.Ground.data }], guard := none }) (v := .string (bs f2)) rfl (by kernel_rfl) (by kernel_rfl) (by kernel_rfl) (fun _ _ _ h => h) (.inl ⟨by kernel_rfl, fun W hW => by simp [execOp, go_sem, keep_cell cB hW]⟩) hS ?_
          simp only [Act.put, List.setIfInBounds_toArray, List.set_cons_zero, List.set_cons_succ]
          refine wpAnyH_ready (rs := [8]) (by kernel_rfl) (by simp) ?_
          refine AllReadyH.cons (o := { dst := some 107, op := Go.Op.call { callee := Go.Callee.value (Go.Operand.func 19), args := #[Go.Operand.tmp 102, Go.Operand.tmp 106], argTypes := #[9, 9] }, type := 4, pos := "law.go:39", after := #[{ on := 3, ground := Go.Ground.data }, { on := 7, ground := Go.Ground.data }], guard := none }) rfl (fun K hK => ?_) (AllReadyH.nil)
          rw [if_pos (by kernel_rfl)]
          go_wp2_with fail
          refine (cM _ (hMz.on hS)).mono ?_
          rintro e wa ⟨rfl, hba⟩
          go_wp2_with fail
          refine hK.out _ _ (thn hS hba) (fun hS' => ?_)
          clear hK hS hba
          have hS := hS'
          clear hS'
          refine wpAnyH_ready (rs := [17]) (by kernel_rfl) (by simp) ?_
          refine AllReadyH.cons (o := { dst := some 116, op := Go.Op.call { callee := Go.Callee.value (Go.Operand.func 20), args := #[Go.Operand.tmp 111, Go.Operand.tmp 115], argTypes := #[9, 9] }, type := 4, pos := "law.go:39", after := #[{ on := 12, ground := Go.Ground.data }, { on := 16, ground := Go.Ground.data }, { on := 8, ground := Go.Ground.chain }], guard := none }) rfl (fun K hK => ?_) (AllReadyH.nil)
          rw [if_pos (by kernel_rfl)]
          go_wp2_with fail
          refine (cM2 _).mono ?_
          rintro e wb ⟨rfl, hbb⟩
          go_wp2_with fail
          refine hK.out _ _ (thn hS hbb) (fun hS' => ?_)
          clear hK hS hbb
          have hS := hS'
          clear hS'
          refine wpAnyH_take (i := 18) (oi := { dst := some 117, op := Go.Op.binOp Go.BinOp.neq 4 (Go.Operand.tmp 107) (Go.Operand.tmp 116) 4, type := 4, pos := "law.go:39", after := #[{ on := 8, ground := Go.Ground.data }, { on := 17, ground := Go.Ground.data }], guard := none }) (v := .bool false) rfl (by kernel_rfl) (by kernel_rfl) (by kernel_rfl) (fun _ _ _ h => h) (.inl ⟨by kernel_rfl, fun W hW => by go_simp⟩) hS ?_
          simp only [Act.put, List.setIfInBounds_toArray, List.set_cons_zero, List.set_cons_succ]
          refine wpAnyH_take (i := 19) (oi := { dst := some 118, op := Go.Op.move (Go.Operand.tmp 117), type := 4, pos := "law.go:39", after := #[{ on := 18, ground := Go.Ground.data }, { on := 17, ground := Go.Ground.chain }], guard := none }) (v := .bool false) rfl (by kernel_rfl) (by kernel_rfl) (by kernel_rfl) (fun _ _ _ h => h) (.inl ⟨by kernel_rfl, fun W hW => by go_simp⟩) hS ?_
          simp only [Act.put, List.setIfInBounds_toArray, List.set_cons_zero, List.set_cons_succ]
          refine wpAnyH_take (i := 20) (oi := { dst := some 119, op := Go.Op.move (Go.Operand.tmp 13), type := 26, pos := "law.go:39", after := #[{ on := 19, ground := Go.Ground.guard }], guard := some (19, false) }) (v := .slice (some ⟨g1, 0, none⟩) 7 7) rfl (by kernel_rfl) (by kernel_rfl) (by kernel_rfl) (fun _ _ _ h => h) (.inl ⟨by kernel_rfl, fun W hW => by go_simp⟩) hS ?_
          simp only [Act.put, List.setIfInBounds_toArray, List.set_cons_zero, List.set_cons_succ]
          refine wpAnyH_take (i := 21) (oi := { dst := some 120, op := Go.Op.move (Go.Operand.tmp 14), type := 3, pos := "law.go:39", after := #[{ on := 19, ground := Go.Ground.guard }], guard := some (19, false) }) (v := .int .i64 k1) rfl (by kernel_rfl) (by kernel_rfl) (by kernel_rfl) (fun _ _ _ h => h) (.inl ⟨by kernel_rfl, fun W hW => by go_simp⟩) hS ?_
          simp only [Act.put, List.setIfInBounds_toArray, List.set_cons_zero, List.set_cons_succ]
          refine wpAnyH_take (i := 22) (oi := { dst := some 121, op := Go.Op.indexAddr 26 (Go.Operand.tmp 119) (Go.Operand.tmp 120), type := 0, pos := "law.go:39", after := #[{ on := 20, ground := Go.Ground.data }, { on := 21, ground := Go.Ground.data }, { on := 19, ground := Go.Ground.guard }], guard := some (19, false) }) (v := .pointer (some ⟨g1, k1, none⟩)) rfl (by kernel_rfl) (by kernel_rfl) (by kernel_rfl) (fun _ _ _ h => h) (.inl ⟨by kernel_rfl, fun W hW => by go_simp⟩) hS ?_
          simp only [Act.put, List.setIfInBounds_toArray, List.set_cons_zero, List.set_cons_succ]
          refine wpAnyH_take (i := 23) (oi := { dst := some 122, op := Go.Op.load 9 (Go.Operand.tmp 121), type := 9, pos := "law.go:39", after := #[{ on := 22, ground := Go.Ground.data }, { on := 19, ground := Go.Ground.guard }], guard := some (19, false) }) (v := .string (bs f1)) rfl (by kernel_rfl) (by kernel_rfl) (by kernel_rfl) (fun _ _ _ h => h) (.inl ⟨by kernel_rfl, fun W hW => by simp [execOp, go_sem, keep_cell cA hW]⟩) hS ?_
          simp only [Act.put, List.setIfInBounds_toArray, List.set_cons_zero, List.set_cons_succ]
          refine wpAnyH_take (i := 24) (oi := { dst := some 123, op := Go.Op.move (Go.Operand.tmp 13), type := 26, pos := "law.go:39", after := #[{ on := 19, ground := Go.Ground.guard }], guard := some (19, false) }) (v := .slice (some ⟨g1, 0, none⟩) 7 7) rfl (by kernel_rfl) (by kernel_rfl) (by kernel_rfl) (fun _ _ _ h => h) (.inl ⟨by kernel_rfl, fun W hW => by go_simp⟩) hS ?_
          simp only [Act.put, List.setIfInBounds_toArray, List.set_cons_zero, List.set_cons_succ]
          refine wpAnyH_take (i := 25) (oi := { dst := some 124, op := Go.Op.move (Go.Operand.tmp 15), type := 3, pos := "law.go:39", after := #[{ on := 19, ground := Go.Ground.guard }], guard := some (19, false) }) (v := .int .i64 k2) rfl (by kernel_rfl) (by kernel_rfl) (by kernel_rfl) (fun _ _ _ h => h) (.inl ⟨by kernel_rfl, fun W hW => by go_simp⟩) hS ?_
          simp only [Act.put, List.setIfInBounds_toArray, List.set_cons_zero, List.set_cons_succ]
          refine wpAnyH_take (i := 26) (oi := { dst := some 125, op := Go.Op.indexAddr 26 (Go.Operand.tmp 123) (Go.Operand.tmp 124), type := 0, pos := "law.go:39", after := #[{ on := 24, ground := Go.Ground.data }, { on := 25, ground := Go.Ground.data }, { on := 19, ground := Go.Ground.guard }], guard := some (19, false) }) (v := .pointer (some ⟨g1, k2, none⟩)) rfl (by kernel_rfl) (by kernel_rfl) (by kernel_rfl) (fun _ _ _ h => h) (.inl ⟨by kernel_rfl, fun W hW => by go_simp⟩) hS ?_
          simp only [Act.put, List.setIfInBounds_toArray, List.set_cons_zero, List.set_cons_succ]
          refine wpAnyH_take (i := 27) (oi := { dst := some 126, op := Go.Op.load 9 (Go.Operand.tmp 125), type := 9, pos := "law.go:39", after := #[{ on := 26, ground := Go.Ground.data }, { on := 19, ground := Go.Ground.guard }], guard := some (19, false) }) (v := .string (bs f2)) rfl (by kernel_rfl) (by kernel_rfl) (by kernel_rfl) (fun _ _ _ h => h) (.inl ⟨by kernel_rfl, fun W hW => by simp [execOp, go_sem, keep_cell cB hW]⟩) hS ?_
          simp only [Act.put, List.setIfInBounds_toArray, List.set_cons_zero, List.set_cons_succ]
          refine wpAnyH_take (i := 29) (oi := { dst := some 128, op := Go.Op.move (Go.Operand.tmp 13), type := 26, pos := "law.go:39", after := #[{ on := 19, ground := Go.Ground.guard }], guard := some (19, false) }) (v := .slice (some ⟨g1, 0, none⟩) 7 7) rfl (by kernel_rfl) (by kernel_rfl) (by kernel_rfl) (fun _ _ _ h => h) (.inl ⟨by kernel_rfl, fun W hW => by go_simp⟩) hS ?_
          simp only [Act.put, List.setIfInBounds_toArray, List.set_cons_zero, List.set_cons_succ]
          refine wpAnyH_take (i := 30) (oi := { dst := some 129, op := Go.Op.move (Go.Operand.tmp 14), type := 3, pos := "law.go:39", after := #[{ on := 19, ground := Go.Ground.guard }], guard := some (19, false) }) (v := .int .i64 k1) rfl (by kernel_rfl) (by kernel_rfl) (by kernel_rfl) (fun _ _ _ h => h) (.inl ⟨by kernel_rfl, fun W hW => by go_simp⟩) hS ?_
          simp only [Act.put, List.setIfInBounds_toArray, List.set_cons_zero, List.set_cons_succ]
          refine wpAnyH_take (i := 31) (oi := { dst := some 130, op := Go.Op.indexAddr 26 (Go.Operand.tmp 128) (Go.Operand.tmp 129), type := 0, pos := "law.go:39", after := #[{ on := 29, ground := Go.Ground.data }, { on := 30, ground := Go.Ground.data }, { on := 19, ground := Go.Ground.guard }], guard := some (19, false) }) (v := .pointer (some ⟨g1, k1, none⟩)) rfl (by kernel_rfl) (by kernel_rfl) (by kernel_rfl) (fun _ _ _ h => h) (.inl ⟨by kernel_rfl, fun W hW => by go_simp⟩) hS ?_
          simp only [Act.put, List.setIfInBounds_toArray, List.set_cons_zero, List.set_cons_succ]
          refine wpAnyH_take (i := 32) (oi := { dst := some 131, op := Go.Op.load 9 (Go.Operand.tmp 130), type := 9, pos := "law.go:39", after := #[{ on := 31, ground := Go.Ground.data }, { on := 19, ground := Go.Ground.guard }], guard := some (19, false) }) (v := .string (bs f1)) rfl (by kernel_rfl) (by kernel_rfl) (by kernel_rfl) (fun _ _ _ h => h) (.inl ⟨by kernel_rfl, fun W hW => by simp [execOp, go_sem, keep_cell cA hW]⟩) hS ?_
          simp only [Act.put, List.setIfInBounds_toArray, List.set_cons_zero, List.set_cons_succ]
          refine wpAnyH_take (i := 33) (oi := { dst := some 132, op := Go.Op.move (Go.Operand.tmp 13), type := 26, pos := "law.go:39", after := #[{ on := 19, ground := Go.Ground.guard }], guard := some (19, false) }) (v := .slice (some ⟨g1, 0, none⟩) 7 7) rfl (by kernel_rfl) (by kernel_rfl) (by kernel_rfl) (fun _ _ _ h => h) (.inl ⟨by kernel_rfl, fun W hW => by go_simp⟩) hS ?_
          simp only [Act.put, List.setIfInBounds_toArray, List.set_cons_zero, List.set_cons_succ]
          refine wpAnyH_take (i := 34) (oi := { dst := some 133, op := Go.Op.move (Go.Operand.tmp 15), type := 3, pos := "law.go:39", after := #[{ on := 19, ground := Go.Ground.guard }], guard := some (19, false) }) (v := .int .i64 k2) rfl (by kernel_rfl) (by kernel_rfl) (by kernel_rfl) (fun _ _ _ h => h) (.inl ⟨by kernel_rfl, fun W hW => by go_simp⟩) hS ?_
          simp only [Act.put, List.setIfInBounds_toArray, List.set_cons_zero, List.set_cons_succ]
          refine wpAnyH_take (i := 35) (oi := { dst := some 134, op := Go.Op.indexAddr 26 (Go.Operand.tmp 132) (Go.Operand.tmp 133), type := 0, pos := "law.go:39", after := #[{ on := 33, ground := Go.Ground.data }, { on := 34, ground := Go.Ground.data }, { on := 19, ground := Go.Ground.guard }], guard := some (19, false) }) (v := .pointer (some ⟨g1, k2, none⟩)) rfl (by kernel_rfl) (by kernel_rfl) (by kernel_rfl) (fun _ _ _ h => h) (.inl ⟨by kernel_rfl, fun W hW => by go_simp⟩) hS ?_
          simp only [Act.put, List.setIfInBounds_toArray, List.set_cons_zero, List.set_cons_succ]
          refine wpAnyH_take (i := 36) (oi := { dst := some 135, op := Go.Op.load 9 (Go.Operand.tmp 134), type := 9, pos := "law.go:39", after := #[{ on := 35, ground := Go.Ground.data }, { on := 19, ground := Go.Ground.guard }], guard := some (19, false) }) (v := .string (bs f2)) rfl (by kernel_rfl) (by kernel_rfl) (by kernel_rfl) (fun _ _ _ h => h) (.inl ⟨by kernel_rfl, fun W hW => by simp [execOp, go_sem, keep_cell cB hW]⟩) hS ?_
          simp only [Act.put, List.setIfInBounds_toArray, List.set_cons_zero, List.set_cons_succ]
          refine wpAnyH_ready (rs := [28]) (by kernel_rfl) (by simp) ?_
          refine AllReadyH.cons (o := { dst := some 127, op := Go.Op.call { callee := Go.Callee.value (Go.Operand.func 21), args := #[Go.Operand.tmp 122, Go.Operand.tmp 126], argTypes := #[9, 9] }, type := 4, pos := "law.go:39", after := #[{ on := 23, ground := Go.Ground.data }, { on := 27, ground := Go.Ground.data }, { on := 19, ground := Go.Ground.chain }, { on := 19, ground := Go.Ground.guard }], guard := some (19, false) }) rfl (fun K hK => ?_) (AllReadyH.nil)
          rw [if_pos (by kernel_rfl)]
          go_wp2_with fail
          refine (cW _ (hMz.on hS)).mono ?_
          rintro e wc ⟨rfl, hbc⟩
          go_wp2_with fail
          refine hK.out _ _ (thn hS hbc) (fun hS' => ?_)
          clear hK hS hbc
          have hS := hS'
          clear hS'
          refine wpAnyH_ready (rs := [37]) (by kernel_rfl) (by simp) ?_
          refine AllReadyH.cons (o := { dst := some 136, op := Go.Op.call { callee := Go.Callee.value (Go.Operand.func 22), args := #[Go.Operand.tmp 131, Go.Operand.tmp 135], argTypes := #[9, 9] }, type := 4, pos := "law.go:39", after := #[{ on := 32, ground := Go.Ground.data }, { on := 36, ground := Go.Ground.data }, { on := 28, ground := Go.Ground.chain }, { on := 19, ground := Go.Ground.guard }], guard := some (19, false) }) rfl (fun K hK => ?_) (AllReadyH.nil)
          rw [if_pos (by kernel_rfl)]
          go_wp2_with fail
          refine (cW2 _).mono ?_
          rintro e wd ⟨rfl, hbd⟩
          go_wp2_with fail
          refine hK.out _ _ (thn hS hbd) (fun hS' => ?_)
          clear hK hS hbd
          have hS := hS'
          clear hS'
          refine wpAnyH_take (i := 38) (oi := { dst := some 137, op := Go.Op.binOp Go.BinOp.neq 4 (Go.Operand.tmp 127) (Go.Operand.tmp 136) 4, type := 4, pos := "law.go:39", after := #[{ on := 28, ground := Go.Ground.data }, { on := 37, ground := Go.Ground.data }, { on := 19, ground := Go.Ground.guard }], guard := some (19, false) }) (v := .bool false) rfl (by kernel_rfl) (by kernel_rfl) (by kernel_rfl) (fun _ _ _ h => h) (.inl ⟨by kernel_rfl, fun W hW => by go_simp⟩) hS ?_
          simp only [Act.put, List.setIfInBounds_toArray, List.set_cons_zero, List.set_cons_succ]
          refine wpAnyH_take (i := 39) (oi := { dst := some 138, op := Go.Op.pick (Go.Operand.tmp 118) (Go.Operand.const (Go.Value.bool true)) (Go.Operand.tmp 137), type := 4, pos := "law.go:39", after := #[{ on := 19, ground := Go.Ground.data }, { on := 38, ground := Go.Ground.data }], guard := none }) (v := .bool false) rfl (by kernel_rfl) (by kernel_rfl) (by kernel_rfl) (fun _ _ _ h => h) (.inl ⟨by kernel_rfl, fun W hW => by go_simp⟩) hS ?_
          simp only [Act.put, List.setIfInBounds_toArray, List.set_cons_zero, List.set_cons_succ]
          refine wpAnyH_done (by kernel_rfl) ?_ _
          go_wp2_with fail
          go_roundw
          case rel => exact ⟨k2 + 1, by omega, by go_num, thn hbz hS⟩
          case measure => (simp [RowKit.intOf]; try omega)
        · have hkl2 : ¬ (k2 : Int) < 7 := by omega
          go_wp2_with fail
          go_roundw
          case rel => exact ⟨k1 + 1, by omega, by go_num, hbz⟩
          case measure => (simp [RowKit.intOf]; try omega)
    · have hkl : ¬ (k1 : Int) < 7 := by omega
      go_wp2
      go_ret
      exact ⟨rfl, thn bW hbx⟩
end Go.Proofs.YtdnbkllofbnpoaaDoor
