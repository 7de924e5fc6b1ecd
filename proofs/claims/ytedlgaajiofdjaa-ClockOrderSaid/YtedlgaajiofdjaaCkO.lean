/- The law ClockOrder: its walk. Written by gen_co.py. -/
import Derived.Test.YtedlgaajiofdjaaCk5
import Derived.Test.YtedlgaajiofdjaaCk9
import Derived.Deep.RegionHeld3
namespace Go.Proofs.Ytedlgaajiofdjaa
open Go.RowKit Go.Lib
set_option linter.unusedVariables false

theorem lessB_irr (a b c : Int) : lessB a b c a b c = false := by unfold lessB; simp
theorem lessB_asym {al ac an bl bc bn : Int} (h : lessB al ac an bl bc bn = true) : lessB bl bc bn al ac an = false := by
  unfold lessB at *
  generalize heldI al = x at *
  generalize heldI ac = y at *
  generalize heldI bl = u at *
  generalize heldI bc = v at *
  by_cases e : x = u
  · subst e
    by_cases f : y = v
    · subst f; simp at *; omega
    · rw [if_pos rfl, if_neg f] at h
      rw [if_pos rfl, if_neg (fun q => f q.symm)]
      simp at *; omega
  · rw [if_neg e] at h
    rw [if_neg (fun q => e q.symm)]
    simp at *; omega
theorem lessB_trans {al ac an bl bc bn cl cc cn : Int} (h : lessB al ac an bl bc bn = true) (k : lessB bl bc bn cl cc cn = true) : lessB al ac an cl cc cn = true := by
  unfold lessB at *
  generalize heldI al = x at *
  generalize heldI ac = y at *
  generalize heldI bl = u at *
  generalize heldI bc = v at *
  generalize heldI cl = p at *
  generalize heldI cc = q at *
  by_cases e : x = u
  · subst e
    rw [if_pos rfl] at h
    by_cases g : x = p
    · subst g
      rw [if_pos rfl] at k ⊢
      by_cases f : y = v
      · subst f
        rw [if_pos rfl] at h
        by_cases i : y = q
        · subst i
          rw [if_pos rfl] at k ⊢
          simp at *; omega
        · rw [if_neg i] at k ⊢
          exact k
      · rw [if_neg f] at h
        by_cases i : v = q
        · subst i
          rw [if_neg f]
          exact h
        · rw [if_neg i] at k
          simp only [decide_eq_true_eq] at h k
          rw [if_neg (by omega)]
          simp only [decide_eq_true_eq]; omega
    · rw [if_neg g] at k ⊢
      exact k
  · rw [if_neg e] at h
    by_cases g : u = p
    · subst g
      rw [if_neg e]
      exact h
    · rw [if_neg g] at k
      simp only [decide_eq_true_eq] at h k
      rw [if_neg (by omega)]
      simp only [decide_eq_true_eq]; omega

set_option maxRecDepth 100000 in
set_option maxHeartbeats 8000000 in
theorem order_walk (al ac an bl bc bn cl cc cn : Int) (w : World) :
    Calls Try.prog 5 #[.agg #[.int .i64 al, .int .i64 ac, .int .i64 an], .agg #[.int .i64 bl, .int .i64 bc, .int .i64 bn], .agg #[.int .i64 cl, .int .i64 cc, .int .i64 cn]] w fun e w' => e = .returned (.bool true) ∧ Below w.heap.size w w' := by
  have LAB := less_any al ac an bl bc bn
  have RAB := rless_any al ac an bl bc bn
  have LBC := less_any bl bc bn cl cc cn
  have RBC := rless_any bl bc bn cl cc cn
  have LAA := less_any al ac an al ac an
  have LAC := less_any al ac an cl cc cn
  have LBA := less_any bl bc bn al ac an
  rw [lessB_irr] at LAA
  have has : lessB al ac an bl bc bn = true → lessB bl bc bn al ac an = false := lessB_asym
  have htr : lessB al ac an bl bc bn = true → lessB bl bc bn cl cc cn = true → lessB al ac an cl cc cn = true := lessB_trans
  generalize lessB al ac an bl bc bn = t at *
  generalize lessB bl bc bn cl cc cn = u at *
  generalize lessB bl bc bn al ac an = v at *
  generalize lessB al ac an cl cc cn = z at *
  have AS := Lib.hid has
  have TR := Lib.hid htr
  clear has htr
  have hA : ClkAt (((w.alloc (.cells #[.int .i64 al, .int .i64 ac, .int .i64 an] 28)).alloc (.cells #[.int .i64 bl, .int .i64 bc, .int .i64 bn] 28)).alloc (.cells #[.int .i64 cl, .int .i64 cc, .int .i64 cn] 28)) 28 w.heap.size al ac an := row_keep (row_keep (ClkAt.new w _ _ _ _) _) _
  have hB : ClkAt (((w.alloc (.cells #[.int .i64 al, .int .i64 ac, .int .i64 an] 28)).alloc (.cells #[.int .i64 bl, .int .i64 bc, .int .i64 bn] 28)).alloc (.cells #[.int .i64 cl, .int .i64 cc, .int .i64 cn] 28)) 28 (w.heap.size + 1) bl bc bn := by
    have h := ClkAt.new (w.alloc (.cells #[.int .i64 al, .int .i64 ac, .int .i64 an] 28)) 28 bl bc bn
    rw [World.size_alloc] at h
    exact row_keep h _
  have hC : ClkAt (((w.alloc (.cells #[.int .i64 al, .int .i64 ac, .int .i64 an] 28)).alloc (.cells #[.int .i64 bl, .int .i64 bc, .int .i64 bn] 28)).alloc (.cells #[.int .i64 cl, .int .i64 cc, .int .i64 cn] 28)) 28 (w.heap.size + 1 + 1) cl cc cn := by
    have h := ClkAt.new ((w.alloc (.cells #[.int .i64 al, .int .i64 ac, .int .i64 an] 28)).alloc (.cells #[.int .i64 bl, .int .i64 bc, .int .i64 bn] 28)) 28 cl cc cn
    rw [World.size_alloc, World.size_alloc] at h
    exact h
  have hS : Below w.heap.size w (((w.alloc (.cells #[.int .i64 al, .int .i64 ac, .int .i64 an] 28)).alloc (.cells #[.int .i64 bl, .int .i64 bc, .int .i64 bn] 28)).alloc (.cells #[.int .i64 cl, .int .i64 cc, .int .i64 cn] 28)) := alB (alB (alB (Below.refl _ _) _) _) _
  go_enter Try.func5, Try.ntmps5
  go_wp2_with fail
  refine (known_any _).mono ?_
  rintro e w1 ⟨rfl, hb⟩
  have HA := Lib.hid (hA.on hb)
  have HB := Lib.hid (hB.on hb)
  have HC := Lib.hid (hC.on hb)
  have HS := Lib.hid (thn hS hb)
  clear hA hB hC hS hb
  go_wp2_with fail
  rcases t with _ | _
  · refine wp_region_held_drew (S := (fun W => Below w1.heap.size w1 W)) (by rfl) (Below.refl _ _).drew ?_
    intro hS
    refine wpAnyH_take (i := 0) (oi := { dst := some 9, op := Go.Op.load 28 (Go.Operand.tmp 3), type := 28, pos := "law.go:90", after := #[], guard := none }) (v := .agg #[.int .i64 al, .int .i64 ac, .int .i64 an]) rfl (by kernel_rfl) (by kernel_rfl) (by kernel_rfl) (fun _ _ _ h => h) (.inl ⟨by kernel_rfl, fun W hW => by obtain ⟨p0, p1, p2⟩ := (HA.out.on hW).cells; simp [execOp, go_sem, p0, p1, p2]⟩) hS ?_
    simp only [Act.put, List.setIfInBounds_toArray, List.set_cons_zero, List.set_cons_succ]
    refine wpAnyH_take (i := 1) (oi := { dst := some 10, op := Go.Op.load 28 (Go.Operand.tmp 4), type := 28, pos := "law.go:90", after := #[], guard := none }) (v := .agg #[.int .i64 bl, .int .i64 bc, .int .i64 bn]) rfl (by kernel_rfl) (by kernel_rfl) (by kernel_rfl) (fun _ _ _ h => h) (.inl ⟨by kernel_rfl, fun W hW => by obtain ⟨p0, p1, p2⟩ := (HB.out.on hW).cells; simp [execOp, go_sem, p0, p1, p2]⟩) hS ?_
    simp only [Act.put, List.setIfInBounds_toArray, List.set_cons_zero, List.set_cons_succ]
    refine wpAnyH_take (i := 3) (oi := { dst := some 12, op := Go.Op.load 28 (Go.Operand.tmp 3), type := 28, pos := "law.go:90", after := #[], guard := none }) (v := .agg #[.int .i64 al, .int .i64 ac, .int .i64 an]) rfl (by kernel_rfl) (by kernel_rfl) (by kernel_rfl) (fun _ _ _ h => h) (.inl ⟨by kernel_rfl, fun W hW => by obtain ⟨p0, p1, p2⟩ := (HA.out.on hW).cells; simp [execOp, go_sem, p0, p1, p2]⟩) hS ?_
    simp only [Act.put, List.setIfInBounds_toArray, List.set_cons_zero, List.set_cons_succ]
    refine wpAnyH_take (i := 4) (oi := { dst := some 13, op := Go.Op.load 28 (Go.Operand.tmp 4), type := 28, pos := "law.go:90", after := #[], guard := none }) (v := .agg #[.int .i64 bl, .int .i64 bc, .int .i64 bn]) rfl (by kernel_rfl) (by kernel_rfl) (by kernel_rfl) (fun _ _ _ h => h) (.inl ⟨by kernel_rfl, fun W hW => by obtain ⟨p0, p1, p2⟩ := (HB.out.on hW).cells; simp [execOp, go_sem, p0, p1, p2]⟩) hS ?_
    simp only [Act.put, List.setIfInBounds_toArray, List.set_cons_zero, List.set_cons_succ]
    refine wpAnyH_ready (rs := [2]) (by kernel_rfl) (by simp) ?_
    refine AllReadyH.cons (o := { dst := some 11, op := Go.Op.call { callee := Go.Callee.value (Go.Operand.func 15), args := #[Go.Operand.tmp 9, Go.Operand.tmp 10], argTypes := #[28, 28] }, type := 4, pos := "law.go:90", after := #[{ on := 0, ground := Go.Ground.data }, { on := 1, ground := Go.Ground.data }], guard := none }) rfl (fun K hK => ?_) (AllReadyH.nil)
    rw [if_pos (by kernel_rfl)]
    go_wp2_with fail
    refine (LAB _).mono ?_
    rintro e wr1 ⟨rfl, hbr1⟩
    go_wp2_with fail
    refine hK.out _ _ (thn hS hbr1) (fun hS' => ?_)
    clear hK hS hbr1
    have hS := hS'
    clear hS'
    refine wpAnyH_ready (rs := [5]) (by kernel_rfl) (by simp) ?_
    refine AllReadyH.cons (o := { dst := some 14, op := Go.Op.call { callee := Go.Callee.value (Go.Operand.func 16), args := #[Go.Operand.tmp 12, Go.Operand.tmp 13], argTypes := #[28, 28] }, type := 4, pos := "law.go:90", after := #[{ on := 3, ground := Go.Ground.data }, { on := 4, ground := Go.Ground.data }, { on := 2, ground := Go.Ground.chain }], guard := none }) rfl (fun K hK => ?_) (AllReadyH.nil)
    rw [if_pos (by kernel_rfl)]
    go_wp2_with fail
    refine (RAB _).mono ?_
    rintro e wr2 ⟨rfl, hbr2⟩
    go_wp2_with fail
    refine hK.out _ _ (thn hS hbr2) (fun hS' => ?_)
    clear hK hS hbr2
    have hS := hS'
    clear hS'
    refine wpAnyH_take (i := 6) (oi := { dst := some 15, op := Go.Op.binOp Go.BinOp.neq 4 (Go.Operand.tmp 11) (Go.Operand.tmp 14) 4, type := 4, pos := "law.go:90", after := #[{ on := 2, ground := Go.Ground.data }, { on := 5, ground := Go.Ground.data }], guard := none }) (v := .bool false) rfl (by kernel_rfl) (by kernel_rfl) (by kernel_rfl) (fun _ _ _ h => h) (.inl ⟨by kernel_rfl, fun W hW => by simp [execOp, go_sem]⟩) hS ?_
    simp only [Act.put, List.setIfInBounds_toArray, List.set_cons_zero, List.set_cons_succ]
    refine wpAnyH_take (i := 7) (oi := { dst := some 16, op := Go.Op.move (Go.Operand.tmp 15), type := 4, pos := "law.go:90", after := #[{ on := 6, ground := Go.Ground.data }, { on := 5, ground := Go.Ground.chain }], guard := none }) (v := .bool false) rfl (by kernel_rfl) (by kernel_rfl) (by kernel_rfl) (fun _ _ _ h => h) (.inl ⟨by kernel_rfl, fun W hW => by go_simp⟩) hS ?_
    simp only [Act.put, List.setIfInBounds_toArray, List.set_cons_zero, List.set_cons_succ]
    refine wpAnyH_take (i := 8) (oi := { dst := some 17, op := Go.Op.load 28 (Go.Operand.tmp 4), type := 28, pos := "law.go:90", after := #[{ on := 7, ground := Go.Ground.guard }], guard := some (7, false) }) (v := .agg #[.int .i64 bl, .int .i64 bc, .int .i64 bn]) rfl (by kernel_rfl) (by kernel_rfl) (by kernel_rfl) (fun _ _ _ h => h) (.inl ⟨by kernel_rfl, fun W hW => by obtain ⟨p0, p1, p2⟩ := (HB.out.on hW).cells; simp [execOp, go_sem, p0, p1, p2]⟩) hS ?_
    simp only [Act.put, List.setIfInBounds_toArray, List.set_cons_zero, List.set_cons_succ]
    refine wpAnyH_take (i := 9) (oi := { dst := some 18, op := Go.Op.load 28 (Go.Operand.tmp 5), type := 28, pos := "law.go:90", after := #[{ on := 7, ground := Go.Ground.guard }], guard := some (7, false) }) (v := .agg #[.int .i64 cl, .int .i64 cc, .int .i64 cn]) rfl (by kernel_rfl) (by kernel_rfl) (by kernel_rfl) (fun _ _ _ h => h) (.inl ⟨by kernel_rfl, fun W hW => by obtain ⟨p0, p1, p2⟩ := (HC.out.on hW).cells; simp [execOp, go_sem, p0, p1, p2]⟩) hS ?_
    simp only [Act.put, List.setIfInBounds_toArray, List.set_cons_zero, List.set_cons_succ]
    refine wpAnyH_take (i := 11) (oi := { dst := some 20, op := Go.Op.load 28 (Go.Operand.tmp 4), type := 28, pos := "law.go:90", after := #[{ on := 7, ground := Go.Ground.guard }], guard := some (7, false) }) (v := .agg #[.int .i64 bl, .int .i64 bc, .int .i64 bn]) rfl (by kernel_rfl) (by kernel_rfl) (by kernel_rfl) (fun _ _ _ h => h) (.inl ⟨by kernel_rfl, fun W hW => by obtain ⟨p0, p1, p2⟩ := (HB.out.on hW).cells; simp [execOp, go_sem, p0, p1, p2]⟩) hS ?_
    simp only [Act.put, List.setIfInBounds_toArray, List.set_cons_zero, List.set_cons_succ]
    refine wpAnyH_take (i := 12) (oi := { dst := some 21, op := Go.Op.load 28 (Go.Operand.tmp 5), type := 28, pos := "law.go:90", after := #[{ on := 7, ground := Go.Ground.guard }], guard := some (7, false) }) (v := .agg #[.int .i64 cl, .int .i64 cc, .int .i64 cn]) rfl (by kernel_rfl) (by kernel_rfl) (by kernel_rfl) (fun _ _ _ h => h) (.inl ⟨by kernel_rfl, fun W hW => by obtain ⟨p0, p1, p2⟩ := (HC.out.on hW).cells; simp [execOp, go_sem, p0, p1, p2]⟩) hS ?_
    simp only [Act.put, List.setIfInBounds_toArray, List.set_cons_zero, List.set_cons_succ]
    refine wpAnyH_ready (rs := [10]) (by kernel_rfl) (by simp) ?_
    refine AllReadyH.cons (o := { dst := some 19, op := Go.Op.call { callee := Go.Callee.value (Go.Operand.func 15), args := #[Go.Operand.tmp 17, Go.Operand.tmp 18], argTypes := #[28, 28] }, type := 4, pos := "law.go:90", after := #[{ on := 8, ground := Go.Ground.data }, { on := 9, ground := Go.Ground.data }, { on := 7, ground := Go.Ground.chain }, { on := 7, ground := Go.Ground.guard }], guard := some (7, false) }) rfl (fun K hK => ?_) (AllReadyH.nil)
    rw [if_pos (by kernel_rfl)]
    go_wp2_with fail
    refine (LBC _).mono ?_
    rintro e wr3 ⟨rfl, hbr3⟩
    go_wp2_with fail
    refine hK.out _ _ (thn hS hbr3) (fun hS' => ?_)
    clear hK hS hbr3
    have hS := hS'
    clear hS'
    refine wpAnyH_ready (rs := [13]) (by kernel_rfl) (by simp) ?_
    refine AllReadyH.cons (o := { dst := some 22, op := Go.Op.call { callee := Go.Callee.value (Go.Operand.func 16), args := #[Go.Operand.tmp 20, Go.Operand.tmp 21], argTypes := #[28, 28] }, type := 4, pos := "law.go:90", after := #[{ on := 11, ground := Go.Ground.data }, { on := 12, ground := Go.Ground.data }, { on := 10, ground := Go.Ground.chain }, { on := 7, ground := Go.Ground.guard }], guard := some (7, false) }) rfl (fun K hK => ?_) (AllReadyH.nil)
    rw [if_pos (by kernel_rfl)]
    go_wp2_with fail
    refine (RBC _).mono ?_
    rintro e wr4 ⟨rfl, hbr4⟩
    go_wp2_with fail
    refine hK.out _ _ (thn hS hbr4) (fun hS' => ?_)
    clear hK hS hbr4
    have hS := hS'
    clear hS'
    refine wpAnyH_take (i := 14) (oi := { dst := some 23, op := Go.Op.binOp Go.BinOp.neq 4 (Go.Operand.tmp 19) (Go.Operand.tmp 22) 4, type := 4, pos := "law.go:90", after := #[{ on := 10, ground := Go.Ground.data }, { on := 13, ground := Go.Ground.data }, { on := 7, ground := Go.Ground.guard }], guard := some (7, false) }) (v := .bool false) rfl (by kernel_rfl) (by kernel_rfl) (by kernel_rfl) (fun _ _ _ h => h) (.inl ⟨by kernel_rfl, fun W hW => by simp [execOp, go_sem]⟩) hS ?_
    simp only [Act.put, List.setIfInBounds_toArray, List.set_cons_zero, List.set_cons_succ]
    refine wpAnyH_take (i := 15) (oi := { dst := some 24, op := Go.Op.pick (Go.Operand.tmp 16) (Go.Operand.const (Go.Value.bool true)) (Go.Operand.tmp 23), type := 4, pos := "law.go:90", after := #[{ on := 7, ground := Go.Ground.data }, { on := 14, ground := Go.Ground.data }], guard := none }) (v := .bool false) rfl (by kernel_rfl) (by kernel_rfl) (by kernel_rfl) (fun _ _ _ h => h) (.inl ⟨by kernel_rfl, fun W hW => by go_simp⟩) hS ?_
    simp only [Act.put, List.setIfInBounds_toArray, List.set_cons_zero, List.set_cons_succ]
    refine wpAnyH_take (i := 16) (oi := { dst := some 25, op := Go.Op.move (Go.Operand.tmp 24), type := 4, pos := "law.go:90", after := #[{ on := 15, ground := Go.Ground.data }, { on := 13, ground := Go.Ground.chain }], guard := none }) (v := .bool false) rfl (by kernel_rfl) (by kernel_rfl) (by kernel_rfl) (fun _ _ _ h => h) (.inl ⟨by kernel_rfl, fun W hW => by go_simp⟩) hS ?_
    simp only [Act.put, List.setIfInBounds_toArray, List.set_cons_zero, List.set_cons_succ]
    refine wpAnyH_take (i := 17) (oi := { dst := some 26, op := Go.Op.load 28 (Go.Operand.tmp 3), type := 28, pos := "law.go:90", after := #[{ on := 16, ground := Go.Ground.guard }], guard := some (16, false) }) (v := .agg #[.int .i64 al, .int .i64 ac, .int .i64 an]) rfl (by kernel_rfl) (by kernel_rfl) (by kernel_rfl) (fun _ _ _ h => h) (.inl ⟨by kernel_rfl, fun W hW => by obtain ⟨p0, p1, p2⟩ := (HA.out.on hW).cells; simp [execOp, go_sem, p0, p1, p2]⟩) hS ?_
    simp only [Act.put, List.setIfInBounds_toArray, List.set_cons_zero, List.set_cons_succ]
    refine wpAnyH_take (i := 18) (oi := { dst := some 27, op := Go.Op.load 28 (Go.Operand.tmp 3), type := 28, pos := "law.go:90", after := #[{ on := 16, ground := Go.Ground.guard }], guard := some (16, false) }) (v := .agg #[.int .i64 al, .int .i64 ac, .int .i64 an]) rfl (by kernel_rfl) (by kernel_rfl) (by kernel_rfl) (fun _ _ _ h => h) (.inl ⟨by kernel_rfl, fun W hW => by obtain ⟨p0, p1, p2⟩ := (HA.out.on hW).cells; simp [execOp, go_sem, p0, p1, p2]⟩) hS ?_
    simp only [Act.put, List.setIfInBounds_toArray, List.set_cons_zero, List.set_cons_succ]
    refine wpAnyH_ready (rs := [19]) (by kernel_rfl) (by simp) ?_
    refine AllReadyH.cons (o := { dst := some 28, op := Go.Op.call { callee := Go.Callee.value (Go.Operand.func 15), args := #[Go.Operand.tmp 26, Go.Operand.tmp 27], argTypes := #[28, 28] }, type := 4, pos := "law.go:90", after := #[{ on := 17, ground := Go.Ground.data }, { on := 18, ground := Go.Ground.data }, { on := 16, ground := Go.Ground.chain }, { on := 16, ground := Go.Ground.guard }], guard := some (16, false) }) rfl (fun K hK => ?_) (AllReadyH.nil)
    rw [if_pos (by kernel_rfl)]
    go_wp2_with fail
    refine (LAA _).mono ?_
    rintro e wr5 ⟨rfl, hbr5⟩
    go_wp2_with fail
    refine hK.out _ _ (thn hS hbr5) (fun hS' => ?_)
    clear hK hS hbr5
    have hS := hS'
    clear hS'
    refine wpAnyH_take (i := 20) (oi := { dst := some 29, op := Go.Op.pick (Go.Operand.tmp 25) (Go.Operand.const (Go.Value.bool true)) (Go.Operand.tmp 28), type := 4, pos := "law.go:90", after := #[{ on := 16, ground := Go.Ground.data }, { on := 19, ground := Go.Ground.data }], guard := none }) (v := .bool false) rfl (by kernel_rfl) (by kernel_rfl) (by kernel_rfl) (fun _ _ _ h => h) (.inl ⟨by kernel_rfl, fun W hW => by go_simp⟩) hS ?_
    simp only [Act.put, List.setIfInBounds_toArray, List.set_cons_zero, List.set_cons_succ]
    refine wpAnyH_take (i := 21) (oi := { dst := some 30, op := Go.Op.move (Go.Operand.tmp 29), type := 4, pos := "law.go:90", after := #[{ on := 20, ground := Go.Ground.data }, { on := 19, ground := Go.Ground.chain }], guard := none }) (v := .bool false) rfl (by kernel_rfl) (by kernel_rfl) (by kernel_rfl) (fun _ _ _ h => h) (.inl ⟨by kernel_rfl, fun W hW => by go_simp⟩) hS ?_
    simp only [Act.put, List.setIfInBounds_toArray, List.set_cons_zero, List.set_cons_succ]
    refine wpAnyH_take (i := 22) (oi := { dst := some 31, op := Go.Op.load 28 (Go.Operand.tmp 3), type := 28, pos := "law.go:90", after := #[{ on := 21, ground := Go.Ground.guard }], guard := some (21, false) }) (v := .agg #[.int .i64 al, .int .i64 ac, .int .i64 an]) rfl (by kernel_rfl) (by kernel_rfl) (by kernel_rfl) (fun _ _ _ h => h) (.inl ⟨by kernel_rfl, fun W hW => by obtain ⟨p0, p1, p2⟩ := (HA.out.on hW).cells; simp [execOp, go_sem, p0, p1, p2]⟩) hS ?_
    simp only [Act.put, List.setIfInBounds_toArray, List.set_cons_zero, List.set_cons_succ]
    refine wpAnyH_take (i := 23) (oi := { dst := some 32, op := Go.Op.load 28 (Go.Operand.tmp 4), type := 28, pos := "law.go:90", after := #[{ on := 21, ground := Go.Ground.guard }], guard := some (21, false) }) (v := .agg #[.int .i64 bl, .int .i64 bc, .int .i64 bn]) rfl (by kernel_rfl) (by kernel_rfl) (by kernel_rfl) (fun _ _ _ h => h) (.inl ⟨by kernel_rfl, fun W hW => by obtain ⟨p0, p1, p2⟩ := (HB.out.on hW).cells; simp [execOp, go_sem, p0, p1, p2]⟩) hS ?_
    simp only [Act.put, List.setIfInBounds_toArray, List.set_cons_zero, List.set_cons_succ]
    refine wpAnyH_ready (rs := [24]) (by kernel_rfl) (by simp) ?_
    refine AllReadyH.cons (o := { dst := some 33, op := Go.Op.call { callee := Go.Callee.value (Go.Operand.func 15), args := #[Go.Operand.tmp 31, Go.Operand.tmp 32], argTypes := #[28, 28] }, type := 4, pos := "law.go:90", after := #[{ on := 22, ground := Go.Ground.data }, { on := 23, ground := Go.Ground.data }, { on := 21, ground := Go.Ground.chain }, { on := 21, ground := Go.Ground.guard }], guard := some (21, false) }) rfl (fun K hK => ?_) (AllReadyH.nil)
    rw [if_pos (by kernel_rfl)]
    go_wp2_with fail
    refine (LAB _).mono ?_
    rintro e wr6 ⟨rfl, hbr6⟩
    go_wp2_with fail
    refine hK.out _ _ (thn hS hbr6) (fun hS' => ?_)
    clear hK hS hbr6
    have hS := hS'
    clear hS'
    refine wpAnyH_take (i := 25) (oi := { dst := some 34, op := Go.Op.move (Go.Operand.tmp 33), type := 4, pos := "law.go:90", after := #[{ on := 24, ground := Go.Ground.data }, { on := 24, ground := Go.Ground.chain }, { on := 21, ground := Go.Ground.guard }], guard := some (21, false) }) (v := .bool false) rfl (by kernel_rfl) (by kernel_rfl) (by kernel_rfl) (fun _ _ _ h => h) (.inl ⟨by kernel_rfl, fun W hW => by go_simp⟩) hS ?_
    simp only [Act.put, List.setIfInBounds_toArray, List.set_cons_zero, List.set_cons_succ]
    refine wpAnyH_take (i := 26) (oi := { dst := some 35, op := Go.Op.load 28 (Go.Operand.tmp 4), type := 28, pos := "law.go:90", after := #[{ on := 25, ground := Go.Ground.guard }], guard := some (25, true) }) (v := undef) rfl (by kernel_rfl) (by kernel_rfl) (by kernel_rfl) (fun _ _ _ h => h) (.inr ⟨by kernel_rfl, rfl⟩) hS ?_
    simp only [Act.put, List.setIfInBounds_toArray, List.set_cons_zero, List.set_cons_succ]
    refine wpAnyH_take (i := 27) (oi := { dst := some 36, op := Go.Op.load 28 (Go.Operand.tmp 3), type := 28, pos := "law.go:90", after := #[{ on := 25, ground := Go.Ground.guard }], guard := some (25, true) }) (v := undef) rfl (by kernel_rfl) (by kernel_rfl) (by kernel_rfl) (fun _ _ _ h => h) (.inr ⟨by kernel_rfl, rfl⟩) hS ?_
    simp only [Act.put, List.setIfInBounds_toArray, List.set_cons_zero, List.set_cons_succ]
    refine wpAnyH_take (i := 28) (oi := { dst := some 37, op := Go.Op.call { callee := Go.Callee.value (Go.Operand.func 15), args := #[Go.Operand.tmp 35, Go.Operand.tmp 36], argTypes := #[28, 28] }, type := 4, pos := "law.go:90", after := #[{ on := 26, ground := Go.Ground.data }, { on := 27, ground := Go.Ground.data }, { on := 25, ground := Go.Ground.chain }, { on := 25, ground := Go.Ground.guard }], guard := some (25, true) }) (v := undef) rfl (by kernel_rfl) (by kernel_rfl) (by kernel_rfl) (fun _ _ _ h => h) (.inr ⟨by kernel_rfl, rfl⟩) hS ?_
    simp only [Act.put, List.setIfInBounds_toArray, List.set_cons_zero, List.set_cons_succ]
    refine wpAnyH_take (i := 29) (oi := { dst := some 38, op := Go.Op.pick (Go.Operand.tmp 34) (Go.Operand.tmp 37) (Go.Operand.const (Go.Value.bool false)), type := 4, pos := "law.go:90", after := #[{ on := 25, ground := Go.Ground.data }, { on := 28, ground := Go.Ground.data }, { on := 21, ground := Go.Ground.guard }], guard := some (21, false) }) (v := .bool false) rfl (by kernel_rfl) (by kernel_rfl) (by kernel_rfl) (fun _ _ _ h => h) (.inl ⟨by kernel_rfl, fun W hW => by go_simp⟩) hS ?_
    simp only [Act.put, List.setIfInBounds_toArray, List.set_cons_zero, List.set_cons_succ]
    refine wpAnyH_take (i := 30) (oi := { dst := some 39, op := Go.Op.pick (Go.Operand.tmp 30) (Go.Operand.const (Go.Value.bool true)) (Go.Operand.tmp 38), type := 4, pos := "law.go:90", after := #[{ on := 21, ground := Go.Ground.data }, { on := 29, ground := Go.Ground.data }], guard := none }) (v := .bool false) rfl (by kernel_rfl) (by kernel_rfl) (by kernel_rfl) (fun _ _ _ h => h) (.inl ⟨by kernel_rfl, fun W hW => by go_simp⟩) hS ?_
    simp only [Act.put, List.setIfInBounds_toArray, List.set_cons_zero, List.set_cons_succ]
    refine wpAnyH_done (by kernel_rfl) ?_ _
    have TS := Lib.hid (thn HS.out hS)
    have ga := HA.out.on hS
    have gb := HB.out.on hS
    have gc := HC.out.on hS
    obtain ⟨p0, p1, p2⟩ := ga.cells
    obtain ⟨q0, q1, q2⟩ := gb.cells
    obtain ⟨r0, r1, r2⟩ := gc.cells
    clear hS HA HB HC
    go_wp2_with (go_at_call 15; refine (LAB _).mono ?_; rintro e w' ⟨rfl, hb⟩; have ga := ClkAt.on ga hb; have gb := ClkAt.on gb hb; have gc := ClkAt.on gc hb; obtain ⟨p0, p1, p2⟩ := ga.cells; obtain ⟨q0, q1, q2⟩ := gb.cells; obtain ⟨r0, r1, r2⟩ := gc.cells; have TS := Lib.hid (thn TS.out hb); clear hb)
    go_ret
    exact ⟨rfl, TS.out⟩
  · obtain rfl : v = false := AS.out rfl
    refine wp_region_held_drew (S := (fun W => Below w1.heap.size w1 W)) (by rfl) (Below.refl _ _).drew ?_
    intro hS
    refine wpAnyH_take (i := 0) (oi := { dst := some 9, op := Go.Op.load 28 (Go.Operand.tmp 3), type := 28, pos := "law.go:90", after := #[], guard := none }) (v := .agg #[.int .i64 al, .int .i64 ac, .int .i64 an]) rfl (by kernel_rfl) (by kernel_rfl) (by kernel_rfl) (fun _ _ _ h => h) (.inl ⟨by kernel_rfl, fun W hW => by obtain ⟨p0, p1, p2⟩ := (HA.out.on hW).cells; simp [execOp, go_sem, p0, p1, p2]⟩) hS ?_
    simp only [Act.put, List.setIfInBounds_toArray, List.set_cons_zero, List.set_cons_succ]
    refine wpAnyH_take (i := 1) (oi := { dst := some 10, op := Go.Op.load 28 (Go.Operand.tmp 4), type := 28, pos := "law.go:90", after := #[], guard := none }) (v := .agg #[.int .i64 bl, .int .i64 bc, .int .i64 bn]) rfl (by kernel_rfl) (by kernel_rfl) (by kernel_rfl) (fun _ _ _ h => h) (.inl ⟨by kernel_rfl, fun W hW => by obtain ⟨p0, p1, p2⟩ := (HB.out.on hW).cells; simp [execOp, go_sem, p0, p1, p2]⟩) hS ?_
    simp only [Act.put, List.setIfInBounds_toArray, List.set_cons_zero, List.set_cons_succ]
    refine wpAnyH_take (i := 3) (oi := { dst := some 12, op := Go.Op.load 28 (Go.Operand.tmp 3), type := 28, pos := "law.go:90", after := #[], guard := none }) (v := .agg #[.int .i64 al, .int .i64 ac, .int .i64 an]) rfl (by kernel_rfl) (by kernel_rfl) (by kernel_rfl) (fun _ _ _ h => h) (.inl ⟨by kernel_rfl, fun W hW => by obtain ⟨p0, p1, p2⟩ := (HA.out.on hW).cells; simp [execOp, go_sem, p0, p1, p2]⟩) hS ?_
    simp only [Act.put, List.setIfInBounds_toArray, List.set_cons_zero, List.set_cons_succ]
    refine wpAnyH_take (i := 4) (oi := { dst := some 13, op := Go.Op.load 28 (Go.Operand.tmp 4), type := 28, pos := "law.go:90", after := #[], guard := none }) (v := .agg #[.int .i64 bl, .int .i64 bc, .int .i64 bn]) rfl (by kernel_rfl) (by kernel_rfl) (by kernel_rfl) (fun _ _ _ h => h) (.inl ⟨by kernel_rfl, fun W hW => by obtain ⟨p0, p1, p2⟩ := (HB.out.on hW).cells; simp [execOp, go_sem, p0, p1, p2]⟩) hS ?_
    simp only [Act.put, List.setIfInBounds_toArray, List.set_cons_zero, List.set_cons_succ]
    refine wpAnyH_ready (rs := [2]) (by kernel_rfl) (by simp) ?_
    refine AllReadyH.cons (o := { dst := some 11, op := Go.Op.call { callee := Go.Callee.value (Go.Operand.func 15), args := #[Go.Operand.tmp 9, Go.Operand.tmp 10], argTypes := #[28, 28] }, type := 4, pos := "law.go:90", after := #[{ on := 0, ground := Go.Ground.data }, { on := 1, ground := Go.Ground.data }], guard := none }) rfl (fun K hK => ?_) (AllReadyH.nil)
    rw [if_pos (by kernel_rfl)]
    go_wp2_with fail
    refine (LAB _).mono ?_
    rintro e wr1 ⟨rfl, hbr1⟩
    go_wp2_with fail
    refine hK.out _ _ (thn hS hbr1) (fun hS' => ?_)
    clear hK hS hbr1
    have hS := hS'
    clear hS'
    refine wpAnyH_ready (rs := [5]) (by kernel_rfl) (by simp) ?_
    refine AllReadyH.cons (o := { dst := some 14, op := Go.Op.call { callee := Go.Callee.value (Go.Operand.func 16), args := #[Go.Operand.tmp 12, Go.Operand.tmp 13], argTypes := #[28, 28] }, type := 4, pos := "law.go:90", after := #[{ on := 3, ground := Go.Ground.data }, { on := 4, ground := Go.Ground.data }, { on := 2, ground := Go.Ground.chain }], guard := none }) rfl (fun K hK => ?_) (AllReadyH.nil)
    rw [if_pos (by kernel_rfl)]
    go_wp2_with fail
    refine (RAB _).mono ?_
    rintro e wr2 ⟨rfl, hbr2⟩
    go_wp2_with fail
    refine hK.out _ _ (thn hS hbr2) (fun hS' => ?_)
    clear hK hS hbr2
    have hS := hS'
    clear hS'
    refine wpAnyH_take (i := 6) (oi := { dst := some 15, op := Go.Op.binOp Go.BinOp.neq 4 (Go.Operand.tmp 11) (Go.Operand.tmp 14) 4, type := 4, pos := "law.go:90", after := #[{ on := 2, ground := Go.Ground.data }, { on := 5, ground := Go.Ground.data }], guard := none }) (v := .bool false) rfl (by kernel_rfl) (by kernel_rfl) (by kernel_rfl) (fun _ _ _ h => h) (.inl ⟨by kernel_rfl, fun W hW => by simp [execOp, go_sem]⟩) hS ?_
    simp only [Act.put, List.setIfInBounds_toArray, List.set_cons_zero, List.set_cons_succ]
    refine wpAnyH_take (i := 7) (oi := { dst := some 16, op := Go.Op.move (Go.Operand.tmp 15), type := 4, pos := "law.go:90", after := #[{ on := 6, ground := Go.Ground.data }, { on := 5, ground := Go.Ground.chain }], guard := none }) (v := .bool false) rfl (by kernel_rfl) (by kernel_rfl) (by kernel_rfl) (fun _ _ _ h => h) (.inl ⟨by kernel_rfl, fun W hW => by go_simp⟩) hS ?_
    simp only [Act.put, List.setIfInBounds_toArray, List.set_cons_zero, List.set_cons_succ]
    refine wpAnyH_take (i := 8) (oi := { dst := some 17, op := Go.Op.load 28 (Go.Operand.tmp 4), type := 28, pos := "law.go:90", after := #[{ on := 7, ground := Go.Ground.guard }], guard := some (7, false) }) (v := .agg #[.int .i64 bl, .int .i64 bc, .int .i64 bn]) rfl (by kernel_rfl) (by kernel_rfl) (by kernel_rfl) (fun _ _ _ h => h) (.inl ⟨by kernel_rfl, fun W hW => by obtain ⟨p0, p1, p2⟩ := (HB.out.on hW).cells; simp [execOp, go_sem, p0, p1, p2]⟩) hS ?_
    simp only [Act.put, List.setIfInBounds_toArray, List.set_cons_zero, List.set_cons_succ]
    refine wpAnyH_take (i := 9) (oi := { dst := some 18, op := Go.Op.load 28 (Go.Operand.tmp 5), type := 28, pos := "law.go:90", after := #[{ on := 7, ground := Go.Ground.guard }], guard := some (7, false) }) (v := .agg #[.int .i64 cl, .int .i64 cc, .int .i64 cn]) rfl (by kernel_rfl) (by kernel_rfl) (by kernel_rfl) (fun _ _ _ h => h) (.inl ⟨by kernel_rfl, fun W hW => by obtain ⟨p0, p1, p2⟩ := (HC.out.on hW).cells; simp [execOp, go_sem, p0, p1, p2]⟩) hS ?_
    simp only [Act.put, List.setIfInBounds_toArray, List.set_cons_zero, List.set_cons_succ]
    refine wpAnyH_take (i := 11) (oi := { dst := some 20, op := Go.Op.load 28 (Go.Operand.tmp 4), type := 28, pos := "law.go:90", after := #[{ on := 7, ground := Go.Ground.guard }], guard := some (7, false) }) (v := .agg #[.int .i64 bl, .int .i64 bc, .int .i64 bn]) rfl (by kernel_rfl) (by kernel_rfl) (by kernel_rfl) (fun _ _ _ h => h) (.inl ⟨by kernel_rfl, fun W hW => by obtain ⟨p0, p1, p2⟩ := (HB.out.on hW).cells; simp [execOp, go_sem, p0, p1, p2]⟩) hS ?_
    simp only [Act.put, List.setIfInBounds_toArray, List.set_cons_zero, List.set_cons_succ]
    refine wpAnyH_take (i := 12) (oi := { dst := some 21, op := Go.Op.load 28 (Go.Operand.tmp 5), type := 28, pos := "law.go:90", after := #[{ on := 7, ground := Go.Ground.guard }], guard := some (7, false) }) (v := .agg #[.int .i64 cl, .int .i64 cc, .int .i64 cn]) rfl (by kernel_rfl) (by kernel_rfl) (by kernel_rfl) (fun _ _ _ h => h) (.inl ⟨by kernel_rfl, fun W hW => by obtain ⟨p0, p1, p2⟩ := (HC.out.on hW).cells; simp [execOp, go_sem, p0, p1, p2]⟩) hS ?_
    simp only [Act.put, List.setIfInBounds_toArray, List.set_cons_zero, List.set_cons_succ]
    refine wpAnyH_ready (rs := [10]) (by kernel_rfl) (by simp) ?_
    refine AllReadyH.cons (o := { dst := some 19, op := Go.Op.call { callee := Go.Callee.value (Go.Operand.func 15), args := #[Go.Operand.tmp 17, Go.Operand.tmp 18], argTypes := #[28, 28] }, type := 4, pos := "law.go:90", after := #[{ on := 8, ground := Go.Ground.data }, { on := 9, ground := Go.Ground.data }, { on := 7, ground := Go.Ground.chain }, { on := 7, ground := Go.Ground.guard }], guard := some (7, false) }) rfl (fun K hK => ?_) (AllReadyH.nil)
    rw [if_pos (by kernel_rfl)]
    go_wp2_with fail
    refine (LBC _).mono ?_
    rintro e wr3 ⟨rfl, hbr3⟩
    go_wp2_with fail
    refine hK.out _ _ (thn hS hbr3) (fun hS' => ?_)
    clear hK hS hbr3
    have hS := hS'
    clear hS'
    refine wpAnyH_ready (rs := [13]) (by kernel_rfl) (by simp) ?_
    refine AllReadyH.cons (o := { dst := some 22, op := Go.Op.call { callee := Go.Callee.value (Go.Operand.func 16), args := #[Go.Operand.tmp 20, Go.Operand.tmp 21], argTypes := #[28, 28] }, type := 4, pos := "law.go:90", after := #[{ on := 11, ground := Go.Ground.data }, { on := 12, ground := Go.Ground.data }, { on := 10, ground := Go.Ground.chain }, { on := 7, ground := Go.Ground.guard }], guard := some (7, false) }) rfl (fun K hK => ?_) (AllReadyH.nil)
    rw [if_pos (by kernel_rfl)]
    go_wp2_with fail
    refine (RBC _).mono ?_
    rintro e wr4 ⟨rfl, hbr4⟩
    go_wp2_with fail
    refine hK.out _ _ (thn hS hbr4) (fun hS' => ?_)
    clear hK hS hbr4
    have hS := hS'
    clear hS'
    refine wpAnyH_take (i := 14) (oi := { dst := some 23, op := Go.Op.binOp Go.BinOp.neq 4 (Go.Operand.tmp 19) (Go.Operand.tmp 22) 4, type := 4, pos := "law.go:90", after := #[{ on := 10, ground := Go.Ground.data }, { on := 13, ground := Go.Ground.data }, { on := 7, ground := Go.Ground.guard }], guard := some (7, false) }) (v := .bool false) rfl (by kernel_rfl) (by kernel_rfl) (by kernel_rfl) (fun _ _ _ h => h) (.inl ⟨by kernel_rfl, fun W hW => by simp [execOp, go_sem]⟩) hS ?_
    simp only [Act.put, List.setIfInBounds_toArray, List.set_cons_zero, List.set_cons_succ]
    refine wpAnyH_take (i := 15) (oi := { dst := some 24, op := Go.Op.pick (Go.Operand.tmp 16) (Go.Operand.const (Go.Value.bool true)) (Go.Operand.tmp 23), type := 4, pos := "law.go:90", after := #[{ on := 7, ground := Go.Ground.data }, { on := 14, ground := Go.Ground.data }], guard := none }) (v := .bool false) rfl (by kernel_rfl) (by kernel_rfl) (by kernel_rfl) (fun _ _ _ h => h) (.inl ⟨by kernel_rfl, fun W hW => by go_simp⟩) hS ?_
    simp only [Act.put, List.setIfInBounds_toArray, List.set_cons_zero, List.set_cons_succ]
    refine wpAnyH_take (i := 16) (oi := { dst := some 25, op := Go.Op.move (Go.Operand.tmp 24), type := 4, pos := "law.go:90", after := #[{ on := 15, ground := Go.Ground.data }, { on := 13, ground := Go.Ground.chain }], guard := none }) (v := .bool false) rfl (by kernel_rfl) (by kernel_rfl) (by kernel_rfl) (fun _ _ _ h => h) (.inl ⟨by kernel_rfl, fun W hW => by go_simp⟩) hS ?_
    simp only [Act.put, List.setIfInBounds_toArray, List.set_cons_zero, List.set_cons_succ]
    refine wpAnyH_take (i := 17) (oi := { dst := some 26, op := Go.Op.load 28 (Go.Operand.tmp 3), type := 28, pos := "law.go:90", after := #[{ on := 16, ground := Go.Ground.guard }], guard := some (16, false) }) (v := .agg #[.int .i64 al, .int .i64 ac, .int .i64 an]) rfl (by kernel_rfl) (by kernel_rfl) (by kernel_rfl) (fun _ _ _ h => h) (.inl ⟨by kernel_rfl, fun W hW => by obtain ⟨p0, p1, p2⟩ := (HA.out.on hW).cells; simp [execOp, go_sem, p0, p1, p2]⟩) hS ?_
    simp only [Act.put, List.setIfInBounds_toArray, List.set_cons_zero, List.set_cons_succ]
    refine wpAnyH_take (i := 18) (oi := { dst := some 27, op := Go.Op.load 28 (Go.Operand.tmp 3), type := 28, pos := "law.go:90", after := #[{ on := 16, ground := Go.Ground.guard }], guard := some (16, false) }) (v := .agg #[.int .i64 al, .int .i64 ac, .int .i64 an]) rfl (by kernel_rfl) (by kernel_rfl) (by kernel_rfl) (fun _ _ _ h => h) (.inl ⟨by kernel_rfl, fun W hW => by obtain ⟨p0, p1, p2⟩ := (HA.out.on hW).cells; simp [execOp, go_sem, p0, p1, p2]⟩) hS ?_
    simp only [Act.put, List.setIfInBounds_toArray, List.set_cons_zero, List.set_cons_succ]
    refine wpAnyH_ready (rs := [19]) (by kernel_rfl) (by simp) ?_
    refine AllReadyH.cons (o := { dst := some 28, op := Go.Op.call { callee := Go.Callee.value (Go.Operand.func 15), args := #[Go.Operand.tmp 26, Go.Operand.tmp 27], argTypes := #[28, 28] }, type := 4, pos := "law.go:90", after := #[{ on := 17, ground := Go.Ground.data }, { on := 18, ground := Go.Ground.data }, { on := 16, ground := Go.Ground.chain }, { on := 16, ground := Go.Ground.guard }], guard := some (16, false) }) rfl (fun K hK => ?_) (AllReadyH.nil)
    rw [if_pos (by kernel_rfl)]
    go_wp2_with fail
    refine (LAA _).mono ?_
    rintro e wr5 ⟨rfl, hbr5⟩
    go_wp2_with fail
    refine hK.out _ _ (thn hS hbr5) (fun hS' => ?_)
    clear hK hS hbr5
    have hS := hS'
    clear hS'
    refine wpAnyH_take (i := 20) (oi := { dst := some 29, op := Go.Op.pick (Go.Operand.tmp 25) (Go.Operand.const (Go.Value.bool true)) (Go.Operand.tmp 28), type := 4, pos := "law.go:90", after := #[{ on := 16, ground := Go.Ground.data }, { on := 19, ground := Go.Ground.data }], guard := none }) (v := .bool false) rfl (by kernel_rfl) (by kernel_rfl) (by kernel_rfl) (fun _ _ _ h => h) (.inl ⟨by kernel_rfl, fun W hW => by go_simp⟩) hS ?_
    simp only [Act.put, List.setIfInBounds_toArray, List.set_cons_zero, List.set_cons_succ]
    refine wpAnyH_take (i := 21) (oi := { dst := some 30, op := Go.Op.move (Go.Operand.tmp 29), type := 4, pos := "law.go:90", after := #[{ on := 20, ground := Go.Ground.data }, { on := 19, ground := Go.Ground.chain }], guard := none }) (v := .bool false) rfl (by kernel_rfl) (by kernel_rfl) (by kernel_rfl) (fun _ _ _ h => h) (.inl ⟨by kernel_rfl, fun W hW => by go_simp⟩) hS ?_
    simp only [Act.put, List.setIfInBounds_toArray, List.set_cons_zero, List.set_cons_succ]
    refine wpAnyH_take (i := 22) (oi := { dst := some 31, op := Go.Op.load 28 (Go.Operand.tmp 3), type := 28, pos := "law.go:90", after := #[{ on := 21, ground := Go.Ground.guard }], guard := some (21, false) }) (v := .agg #[.int .i64 al, .int .i64 ac, .int .i64 an]) rfl (by kernel_rfl) (by kernel_rfl) (by kernel_rfl) (fun _ _ _ h => h) (.inl ⟨by kernel_rfl, fun W hW => by obtain ⟨p0, p1, p2⟩ := (HA.out.on hW).cells; simp [execOp, go_sem, p0, p1, p2]⟩) hS ?_
    simp only [Act.put, List.setIfInBounds_toArray, List.set_cons_zero, List.set_cons_succ]
    refine wpAnyH_take (i := 23) (oi := { dst := some 32, op := Go.Op.load 28 (Go.Operand.tmp 4), type := 28, pos := "law.go:90", after := #[{ on := 21, ground := Go.Ground.guard }], guard := some (21, false) }) (v := .agg #[.int .i64 bl, .int .i64 bc, .int .i64 bn]) rfl (by kernel_rfl) (by kernel_rfl) (by kernel_rfl) (fun _ _ _ h => h) (.inl ⟨by kernel_rfl, fun W hW => by obtain ⟨p0, p1, p2⟩ := (HB.out.on hW).cells; simp [execOp, go_sem, p0, p1, p2]⟩) hS ?_
    simp only [Act.put, List.setIfInBounds_toArray, List.set_cons_zero, List.set_cons_succ]
    refine wpAnyH_ready (rs := [24]) (by kernel_rfl) (by simp) ?_
    refine AllReadyH.cons (o := { dst := some 33, op := Go.Op.call { callee := Go.Callee.value (Go.Operand.func 15), args := #[Go.Operand.tmp 31, Go.Operand.tmp 32], argTypes := #[28, 28] }, type := 4, pos := "law.go:90", after := #[{ on := 22, ground := Go.Ground.data }, { on := 23, ground := Go.Ground.data }, { on := 21, ground := Go.Ground.chain }, { on := 21, ground := Go.Ground.guard }], guard := some (21, false) }) rfl (fun K hK => ?_) (AllReadyH.nil)
    rw [if_pos (by kernel_rfl)]
    go_wp2_with fail
    refine (LAB _).mono ?_
    rintro e wr6 ⟨rfl, hbr6⟩
    go_wp2_with fail
    refine hK.out _ _ (thn hS hbr6) (fun hS' => ?_)
    clear hK hS hbr6
    have hS := hS'
    clear hS'
    refine wpAnyH_take (i := 25) (oi := { dst := some 34, op := Go.Op.move (Go.Operand.tmp 33), type := 4, pos := "law.go:90", after := #[{ on := 24, ground := Go.Ground.data }, { on := 24, ground := Go.Ground.chain }, { on := 21, ground := Go.Ground.guard }], guard := some (21, false) }) (v := .bool true) rfl (by kernel_rfl) (by kernel_rfl) (by kernel_rfl) (fun _ _ _ h => h) (.inl ⟨by kernel_rfl, fun W hW => by go_simp⟩) hS ?_
    simp only [Act.put, List.setIfInBounds_toArray, List.set_cons_zero, List.set_cons_succ]
    refine wpAnyH_take (i := 26) (oi := { dst := some 35, op := Go.Op.load 28 (Go.Operand.tmp 4), type := 28, pos := "law.go:90", after := #[{ on := 25, ground := Go.Ground.guard }], guard := some (25, true) }) (v := .agg #[.int .i64 bl, .int .i64 bc, .int .i64 bn]) rfl (by kernel_rfl) (by kernel_rfl) (by kernel_rfl) (fun _ _ _ h => h) (.inl ⟨by kernel_rfl, fun W hW => by obtain ⟨p0, p1, p2⟩ := (HB.out.on hW).cells; simp [execOp, go_sem, p0, p1, p2]⟩) hS ?_
    simp only [Act.put, List.setIfInBounds_toArray, List.set_cons_zero, List.set_cons_succ]
    refine wpAnyH_take (i := 27) (oi := { dst := some 36, op := Go.Op.load 28 (Go.Operand.tmp 3), type := 28, pos := "law.go:90", after := #[{ on := 25, ground := Go.Ground.guard }], guard := some (25, true) }) (v := .agg #[.int .i64 al, .int .i64 ac, .int .i64 an]) rfl (by kernel_rfl) (by kernel_rfl) (by kernel_rfl) (fun _ _ _ h => h) (.inl ⟨by kernel_rfl, fun W hW => by obtain ⟨p0, p1, p2⟩ := (HA.out.on hW).cells; simp [execOp, go_sem, p0, p1, p2]⟩) hS ?_
    simp only [Act.put, List.setIfInBounds_toArray, List.set_cons_zero, List.set_cons_succ]
    refine wpAnyH_ready (rs := [28]) (by kernel_rfl) (by simp) ?_
    refine AllReadyH.cons (o := { dst := some 37, op := Go.Op.call { callee := Go.Callee.value (Go.Operand.func 15), args := #[Go.Operand.tmp 35, Go.Operand.tmp 36], argTypes := #[28, 28] }, type := 4, pos := "law.go:90", after := #[{ on := 26, ground := Go.Ground.data }, { on := 27, ground := Go.Ground.data }, { on := 25, ground := Go.Ground.chain }, { on := 25, ground := Go.Ground.guard }], guard := some (25, true) }) rfl (fun K hK => ?_) (AllReadyH.nil)
    rw [if_pos (by kernel_rfl)]
    go_wp2_with fail
    refine (LBA _).mono ?_
    rintro e wr7 ⟨rfl, hbr7⟩
    go_wp2_with fail
    refine hK.out _ _ (thn hS hbr7) (fun hS' => ?_)
    clear hK hS hbr7
    have hS := hS'
    clear hS'
    refine wpAnyH_take (i := 29) (oi := { dst := some 38, op := Go.Op.pick (Go.Operand.tmp 34) (Go.Operand.tmp 37) (Go.Operand.const (Go.Value.bool false)), type := 4, pos := "law.go:90", after := #[{ on := 25, ground := Go.Ground.data }, { on := 28, ground := Go.Ground.data }, { on := 21, ground := Go.Ground.guard }], guard := some (21, false) }) (v := .bool false) rfl (by kernel_rfl) (by kernel_rfl) (by kernel_rfl) (fun _ _ _ h => h) (.inl ⟨by kernel_rfl, fun W hW => by go_simp⟩) hS ?_
    simp only [Act.put, List.setIfInBounds_toArray, List.set_cons_zero, List.set_cons_succ]
    refine wpAnyH_take (i := 30) (oi := { dst := some 39, op := Go.Op.pick (Go.Operand.tmp 30) (Go.Operand.const (Go.Value.bool true)) (Go.Operand.tmp 38), type := 4, pos := "law.go:90", after := #[{ on := 21, ground := Go.Ground.data }, { on := 29, ground := Go.Ground.data }], guard := none }) (v := .bool false) rfl (by kernel_rfl) (by kernel_rfl) (by kernel_rfl) (fun _ _ _ h => h) (.inl ⟨by kernel_rfl, fun W hW => by go_simp⟩) hS ?_
    simp only [Act.put, List.setIfInBounds_toArray, List.set_cons_zero, List.set_cons_succ]
    refine wpAnyH_done (by kernel_rfl) ?_ _
    have TS := Lib.hid (thn HS.out hS)
    have ga := HA.out.on hS
    have gb := HB.out.on hS
    have gc := HC.out.on hS
    obtain ⟨p0, p1, p2⟩ := ga.cells
    obtain ⟨q0, q1, q2⟩ := gb.cells
    obtain ⟨r0, r1, r2⟩ := gc.cells
    clear hS HA HB HC
    rcases u with _ | _
    · go_wp2_with (go_at_call 15; (first | with_reducible refine (LAB _).mono ?_ | with_reducible refine (LBC _).mono ?_); rintro e w' ⟨rfl, hb⟩; have ga := ClkAt.on ga hb; have gb := ClkAt.on gb hb; have gc := ClkAt.on gc hb; obtain ⟨p0, p1, p2⟩ := ga.cells; obtain ⟨q0, q1, q2⟩ := gb.cells; obtain ⟨r0, r1, r2⟩ := gc.cells; have TS := Lib.hid (thn TS.out hb); clear hb)
      go_ret
      exact ⟨rfl, TS.out⟩
    · obtain rfl : z = true := by simpa using TR.out
      go_wp2_with (go_at_call 15; (first | with_reducible refine (LAB _).mono ?_ | with_reducible refine (LBC _).mono ?_ | with_reducible refine (LAC _).mono ?_); rintro e w' ⟨rfl, hb⟩; have ga := ClkAt.on ga hb; have gb := ClkAt.on gb hb; have gc := ClkAt.on gc hb; obtain ⟨p0, p1, p2⟩ := ga.cells; obtain ⟨q0, q1, q2⟩ := gb.cells; obtain ⟨r0, r1, r2⟩ := gc.cells; have TS := Lib.hid (thn TS.out hb); clear hb)
      go_ret
      exact ⟨rfl, TS.out⟩
end Go.Proofs.Ytedlgaajiofdjaa
