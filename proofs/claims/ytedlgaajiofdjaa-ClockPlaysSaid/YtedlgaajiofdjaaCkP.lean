/- The law ClockPlays: its walk. -/
import Derived.Test.YtedlgaajiofdjaaCkA
namespace Go.Proofs.Ytedlgaajiofdjaa
open Go.RowKit Go.Lib
set_option linter.unusedVariables false
set_option maxRecDepth 100000 in
set_option maxHeartbeats 8000000 in
theorem plays_walk (node : Int) (A : Option Addr) (len cap : Nat) (hm : len ≤ 9223372036854775807) (w : World) (hA : ActsAt w A len) :
    Calls Try.prog 3 #[.int .i64 node, .slice A len cap] w fun e w' => e = .returned (.bool true) ∧ Below w.heap.size w w' := by
  have HA := Lib.hid hA
  clear hA
  by_cases h60 : 60 < len
  · go_enter Try.func3, Try.ntmps3
    go_wp2_with fail
    refine (known_any _).mono ?_
    rintro e w1 ⟨rfl, hb⟩
    go_wp2_with fail
    go_ret
    exact ⟨rfl, hb⟩
  · go_enter Try.func3, Try.ntmps3
    go_wp2_with fail
    refine (known_any _).mono ?_
    rintro e w1 ⟨rfl, hb⟩
    have B1 := Lib.hid hb
    clear hb
    go_wp2_with fail
    refine (new_any node w1).mono ?_
    rintro e w3 ⟨rfl, hb, hs, hk⟩
    have B3 := Lib.hid (thn B1.out hb)
    have K3 := Lib.hid hk
    have hwg := B1.out.size
    clear hb hk B1
    generalize w1.heap.size = cb at *
    go_wp2_with fail
    have E4 : Hid (PlayR w cb w3.heap.size node (w3.alloc (.cells #[.int .i64 0, .int .i64 0, .int .i64 node] 30))) := Lib.hid ⟨0, 0, by unfold In; omega, row_keep K3.out _, ClkAt.new _ _ _ _ _, alB B3.out _⟩
    clear K3 B3
    have hsz : w3.heap.size < (w3.alloc (.cells #[.int .i64 0, .int .i64 0, .int .i64 node] 30)).heap.size := by simp
    generalize w3.alloc (.cells #[.int .i64 0, .int .i64 0, .int .i64 node] 30) = W4 at *
    generalize w3.heap.size = rb at *
    go_loopw [7] (fun i wr => ∃ n : Nat, n ≤ len ∧ i = .int .i64 n ∧ PlayR w cb rb node wr) (fun i _ => len - (intOf i).toNat)
    case atStart =>
      exact ⟨0, by omega, rfl, E4.out⟩
    case round =>
      obtain ⟨n, hn, rfl, hE⟩ := hrel
      have E := Lib.hid hE
      clear hE E4
      by_cases hlt : n < len
      · obtain ⟨l, c, hi, hC, hR, hS⟩ := E.out
        clear E
        obtain ⟨x, s, wl, sl, sc, sn, rfl, hx, c0, c1, c2, c3, c4⟩ := HA.out.on hS n hlt
        have hcr : cb ≠ rb := by omega
        have hwc : w.heap.size ≤ cb := by omega
        have hwr : w.heap.size ≤ rb := by omega
        have hC0 := hC
        have hR0 := hR
        by_cases h3 : 0 < n % 3
        · rcases s with _ | _
          · go_wp2_with fail
            generalize bits .and .i64 wl 7 = vw at *
            generalize bits .and .i64 sl 7 = vl at *
            generalize bits .and .i64 sc 3 = vc at *
            have hX : (wr.alloc (.cells #[.bool false, .int .i64 vw, .int .i64 vl, .int .i64 vc, .int .i64 sn] 32)).heap[wr.heap.size]? = some (.cells #[.bool false, .int .i64 vw, .int .i64 vl, .int .i64 vc, .int .i64 sn] 32) := row_new _ _
            have hC : ClkAt (wr.alloc (.cells #[.bool false, .int .i64 vw, .int .i64 vl, .int .i64 vc, .int .i64 sn] 32)) 48 cb l c node := row_keep hC _
            have hR : ClkAt (wr.alloc (.cells #[.bool false, .int .i64 vw, .int .i64 vl, .int .i64 vc, .int .i64 sn] 32)) 30 rb l c node := row_keep hR _
            have hS : Below w.heap.size w (wr.alloc (.cells #[.bool false, .int .i64 vw, .int .i64 vl, .int .i64 vc, .int .i64 sn] 32)) := alB hS _
            have hcx : cb ≠ wr.heap.size := by have := ClkAt.lt hC0; omega
            have hrx : rb ≠ wr.heap.size := by have := ClkAt.lt hR0; omega
            clear c0 c1 c2 c3 c4 hx hC0 hR0
            generalize (wr.alloc (.cells #[.bool false, .int .i64 vw, .int .i64 vl, .int .i64 vc, .int .i64 sn] 32)) = X at *
            generalize wr.heap.size = g at *
            have hC : ClkAt X.drew 48 cb l c node := hC
            have hR : ClkAt X.drew 30 rb l c node := hR
            have hS : Below w.heap.size w X.drew := hS.drew
            have hZ : X.cell? ⟨g, 1, none⟩ = some (.int .i64 vw) := cell_row hX 1
            have hX : X.drew.heap[g]? = some (.cells #[.bool false, .int .i64 vw, .int .i64 vl, .int .i64 vc, .int .i64 sn] 32) := hX
            refine wp_region_held_drew (S := (fun W => W.cell? ⟨g, 1, none⟩ = some (.int .i64 vw))) (by rfl) hZ ?_
            intro hZ
            refine wpAnyH_take (i := 0) (oi := { dst := some 63, op := Go.Op.move (Go.Operand.tmp 5), type := 24, pos := "law.go:44", after := #[], guard := none }) (v := .pointer (some ⟨cb, 0, none⟩)) rfl (by kernel_rfl) (by kernel_rfl) (by kernel_rfl) (fun _ _ _ h => h) (.inl ⟨by kernel_rfl, fun W hW => by go_simp⟩) hZ ?_
            simp only [Act.put, List.setIfInBounds_toArray, List.set_cons_zero, List.set_cons_succ]
            refine wpAnyH_take (i := 1) (oi := { dst := some 64, op := Go.Op.fieldAddr 32 (Go.Operand.tmp 8) 1, type := 0, pos := "law.go:44", after := #[], guard := none }) (v := .pointer (some ⟨g, 1, none⟩)) rfl (by kernel_rfl) (by kernel_rfl) (by kernel_rfl) (fun _ _ _ h => h) (.inl ⟨by kernel_rfl, fun W hW => by go_simp⟩) hZ ?_
            simp only [Act.put, List.setIfInBounds_toArray, List.set_cons_zero, List.set_cons_succ]
            refine wpAnyH_take (i := 2) (oi := { dst := some 65, op := Go.Op.load 2 (Go.Operand.tmp 64), type := 2, pos := "law.go:44", after := #[{ on := 1, ground := Go.Ground.data }], guard := none }) (v := .int .i64 vw) rfl (by kernel_rfl) (by kernel_rfl) (by kernel_rfl) (fun _ _ _ h => h) (.inl ⟨by kernel_rfl, fun W hW => by simp [execOp, go_sem, hW]⟩) hZ ?_
            simp only [Act.put, List.setIfInBounds_toArray, List.set_cons_zero, List.set_cons_succ]
            refine wpAnyH_take (i := 4) (oi := { dst := some 67, op := Go.Op.move (Go.Operand.tmp 6), type := 26, pos := "law.go:44", after := #[], guard := none }) (v := .pointer (some ⟨rb, 0, none⟩)) rfl (by kernel_rfl) (by kernel_rfl) (by kernel_rfl) (fun _ _ _ h => h) (.inl ⟨by kernel_rfl, fun W hW => by go_simp⟩) hZ ?_
            simp only [Act.put, List.setIfInBounds_toArray, List.set_cons_zero, List.set_cons_succ]
            refine wpAnyH_take (i := 5) (oi := { dst := some 68, op := Go.Op.fieldAddr 32 (Go.Operand.tmp 8) 1, type := 0, pos := "law.go:44", after := #[], guard := none }) (v := .pointer (some ⟨g, 1, none⟩)) rfl (by kernel_rfl) (by kernel_rfl) (by kernel_rfl) (fun _ _ _ h => h) (.inl ⟨by kernel_rfl, fun W hW => by go_simp⟩) hZ ?_
            simp only [Act.put, List.setIfInBounds_toArray, List.set_cons_zero, List.set_cons_succ]
            refine wpAnyH_take (i := 6) (oi := { dst := some 69, op := Go.Op.load 2 (Go.Operand.tmp 68), type := 2, pos := "law.go:44", after := #[{ on := 5, ground := Go.Ground.data }], guard := none }) (v := .int .i64 vw) rfl (by kernel_rfl) (by kernel_rfl) (by kernel_rfl) (fun _ _ _ h => h) (.inl ⟨by kernel_rfl, fun W hW => by simp [execOp, go_sem, hW]⟩) hZ ?_
            simp only [Act.put, List.setIfInBounds_toArray, List.set_cons_zero, List.set_cons_succ]
            refine wpAnyH_ready (rs := [3]) (by kernel_rfl) (by simp) ?_
            refine AllReadyH.cons (o := { dst := some 66, op := Go.Op.call { callee := Go.Callee.value (Go.Operand.func 12), args := #[Go.Operand.tmp 63, Go.Operand.tmp 65], argTypes := #[24, 2] }, type := 28, pos := "law.go:44", after := #[{ on := 0, ground := Go.Ground.data }, { on := 2, ground := Go.Ground.data }], guard := none }) rfl (fun K hK => ?_) (AllReadyH.nil)
            rw [if_pos (by kernel_rfl)]
            go_wp2_with fail
            refine (now_any _ _ _ _ _ _ hC hi).mono ?_
            rintro e wb ⟨rfl, ht, hk⟩
            replace hR := ClkAt.to hR ht hcr
            replace hX := row_to hX ht hcx
            replace hZ := cell_row hX 1
            replace hS := hS.trans (ht.below.mono hwc)
            replace hC := hk
            clear ht hk
            go_wp2_with fail
            refine hK.out _ _ hZ (fun _ => ?_)
            clear hK
            refine wpAnyH_ready (rs := [7]) (by kernel_rfl) (by simp) ?_
            refine AllReadyH.cons (o := { dst := some 70, op := Go.Op.call { callee := Go.Callee.value (Go.Operand.func 13), args := #[Go.Operand.tmp 67, Go.Operand.tmp 69], argTypes := #[26, 2] }, type := 28, pos := "law.go:44", after := #[{ on := 4, ground := Go.Ground.data }, { on := 6, ground := Go.Ground.data }, { on := 3, ground := Go.Ground.chain }], guard := none }) rfl (fun K hK => ?_) (AllReadyH.nil)
            rw [if_pos (by kernel_rfl)]
            go_wp2_with fail
            refine (rnow_any _ _ _ _ _ _ hR hi).mono ?_
            rintro e wc ⟨rfl, ht, hk⟩
            replace hC := ClkAt.to hC ht hcr.symm
            replace hX := row_to hX ht hrx
            replace hZ := cell_row hX 1
            replace hS := hS.trans (ht.below.mono hwr)
            replace hR := hk
            clear ht hk
            go_wp2_with fail
            refine hK.out _ _ hZ (fun _ => ?_)
            clear hK
            refine wpAnyH_take (i := 8) (oi := { dst := some 71, op := Go.Op.binOp Go.BinOp.neq 28 (Go.Operand.tmp 66) (Go.Operand.tmp 70) 28, type := 4, pos := "law.go:44", after := #[{ on := 3, ground := Go.Ground.data }, { on := 7, ground := Go.Ground.data }], guard := none }) (v := .bool false) rfl (by kernel_rfl) (by kernel_rfl) (by kernel_rfl) (fun _ _ _ h => h) (.inl ⟨by kernel_rfl, fun W hW => by simp [execOp, go_sem]⟩) hZ ?_
            simp only [Act.put, List.setIfInBounds_toArray, List.set_cons_zero, List.set_cons_succ]
            refine wpAnyH_done (by kernel_rfl) ?_ _
            replace hi := now_in (wall := vw) hi
            clear hZ hX
            generalize nowL vw l c = l2 at *
            generalize nowC vw l c = c2 at *
            go_wp2_with fail
            have hC : ClkAt wc.drew 48 cb l2 c2 node := hC
            have hR : ClkAt wc.drew 30 rb l2 c2 node := hR
            have hS : Below w.heap.size w wc.drew := hS.drew
            refine wp_region_held_drew (S := (fun W => ClkAt W 30 rb l2 c2 node)) (by rfl) hR ?_
            intro hR
            refine wpAnyH_take (i := 0) (oi := { dst := some 72, op := Go.Op.move (Go.Operand.tmp 5), type := 24, pos := "law.go:47", after := #[], guard := none }) (v := .pointer (some ⟨cb, 0, none⟩)) rfl (by kernel_rfl) (by kernel_rfl) (by kernel_rfl) (fun _ _ _ h => h) (.inl ⟨by kernel_rfl, fun W hW => by go_simp⟩) hR ?_
            simp only [Act.put, List.setIfInBounds_toArray, List.set_cons_zero, List.set_cons_succ]
            refine wpAnyH_take (i := 2) (oi := { dst := some 74, op := Go.Op.move (Go.Operand.tmp 6), type := 26, pos := "law.go:47", after := #[], guard := none }) (v := .pointer (some ⟨rb, 0, none⟩)) rfl (by kernel_rfl) (by kernel_rfl) (by kernel_rfl) (fun _ _ _ h => h) (.inl ⟨by kernel_rfl, fun W hW => by go_simp⟩) hR ?_
            simp only [Act.put, List.setIfInBounds_toArray, List.set_cons_zero, List.set_cons_succ]
            refine wpAnyH_take (i := 3) (oi := { dst := some 75, op := Go.Op.nilCheck (Go.Operand.tmp 74), type := 0, pos := "law.go:47", after := #[{ on := 2, ground := Go.Ground.data }], guard := none }) (v := .pointer (some ⟨rb, 0, none⟩)) rfl (by kernel_rfl) (by kernel_rfl) (by kernel_rfl) (fun _ _ _ h => h) (.inl ⟨by kernel_rfl, fun W hW => by go_simp⟩) hR ?_
            simp only [Act.put, List.setIfInBounds_toArray, List.set_cons_zero, List.set_cons_succ]
            refine wpAnyH_take (i := 4) (oi := { dst := some 76, op := Go.Op.fieldAddr 30 (Go.Operand.tmp 75) 0, type := 0, pos := "law.go:47", after := #[{ on := 3, ground := Go.Ground.data }], guard := none }) (v := .pointer (some ⟨rb, 0, none⟩)) rfl (by kernel_rfl) (by kernel_rfl) (by kernel_rfl) (fun _ _ _ h => h) (.inl ⟨by kernel_rfl, fun W hW => by go_simp⟩) hR ?_
            simp only [Act.put, List.setIfInBounds_toArray, List.set_cons_zero, List.set_cons_succ]
            refine wpAnyH_take (i := 5) (oi := { dst := some 77, op := Go.Op.load 28 (Go.Operand.tmp 76), type := 28, pos := "law.go:47", after := #[{ on := 4, ground := Go.Ground.data }], guard := none }) (v := .agg #[.int .i64 l2, .int .i64 c2, .int .i64 node]) rfl (by kernel_rfl) (by kernel_rfl) (by kernel_rfl) (fun _ _ _ h => h) (.inl ⟨by kernel_rfl, fun W hW => by obtain ⟨p0, p1, p2⟩ := ClkAt.cells hW; simp [execOp, go_sem, p0, p1, p2]⟩) hR ?_
            simp only [Act.put, List.setIfInBounds_toArray, List.set_cons_zero, List.set_cons_succ]
            refine wpAnyH_ready (rs := [1]) (by kernel_rfl) (by simp) ?_
            refine AllReadyH.cons (o := { dst := some 73, op := Go.Op.call { callee := Go.Callee.value (Go.Operand.func 14), args := #[Go.Operand.tmp 72], argTypes := #[24] }, type := 28, pos := "law.go:47", after := #[{ on := 0, ground := Go.Ground.data }], guard := none }) rfl (fun K hK => ?_) (AllReadyH.nil)
            rw [if_pos (by kernel_rfl)]
            go_wp2_with fail
            refine (last_any _ _ _ _ _ hC).mono ?_
            rintro e wd ⟨rfl, hb⟩
            replace hC := ClkAt.on hC hb
            replace hR := ClkAt.on hR hb
            replace hS := thn hS hb
            clear hb
            go_wp2_with fail
            refine hK.out _ _ hR (fun _ => ?_)
            clear hK
            refine wpAnyH_take (i := 6) (oi := { dst := some 78, op := Go.Op.binOp Go.BinOp.neq 28 (Go.Operand.tmp 73) (Go.Operand.tmp 77) 28, type := 4, pos := "law.go:47", after := #[{ on := 1, ground := Go.Ground.data }, { on := 5, ground := Go.Ground.data }], guard := none }) (v := .bool false) rfl (by kernel_rfl) (by kernel_rfl) (by kernel_rfl) (fun _ _ _ h => h) (.inl ⟨by kernel_rfl, fun W hW => by simp [execOp, go_sem]⟩) hR ?_
            simp only [Act.put, List.setIfInBounds_toArray, List.set_cons_zero, List.set_cons_succ]
            refine wpAnyH_done (by kernel_rfl) ?_ _
            have E2 : Hid (PlayR w cb rb node wd) := Lib.hid ⟨_, _, hi, hC, hR, hS⟩
            clear hC hR hS hi
            go_wp2_with fail
            go_roundw
            case rel => exact ⟨n + 1, by omega, by go_num, E2.out⟩
            case measure => simp [intOf]; omega
          · go_wp2_with fail
            generalize bits .and .i64 wl 7 = vw at *
            generalize bits .and .i64 sl 7 = vl at *
            generalize bits .and .i64 sc 3 = vc at *
            have hX : (wr.alloc (.cells #[.bool true, .int .i64 vw, .int .i64 vl, .int .i64 vc, .int .i64 sn] 32)).heap[wr.heap.size]? = some (.cells #[.bool true, .int .i64 vw, .int .i64 vl, .int .i64 vc, .int .i64 sn] 32) := row_new _ _
            have hC : ClkAt (wr.alloc (.cells #[.bool true, .int .i64 vw, .int .i64 vl, .int .i64 vc, .int .i64 sn] 32)) 48 cb l c node := row_keep hC _
            have hR : ClkAt (wr.alloc (.cells #[.bool true, .int .i64 vw, .int .i64 vl, .int .i64 vc, .int .i64 sn] 32)) 30 rb l c node := row_keep hR _
            have hS : Below w.heap.size w (wr.alloc (.cells #[.bool true, .int .i64 vw, .int .i64 vl, .int .i64 vc, .int .i64 sn] 32)) := alB hS _
            have hcx : cb ≠ wr.heap.size := by have := ClkAt.lt hC0; omega
            have hrx : rb ≠ wr.heap.size := by have := ClkAt.lt hR0; omega
            clear c0 c1 c2 c3 c4 hx hC0 hR0
            generalize (wr.alloc (.cells #[.bool true, .int .i64 vw, .int .i64 vl, .int .i64 vc, .int .i64 sn] 32)) = X at *
            generalize wr.heap.size = g at *
            refine (see_any _ _ _ _ _ _ _ _ _ hC hi).mono ?_
            rintro e wb ⟨rfl, ht, hk⟩
            replace hR := ClkAt.to hR ht hcr
            replace hX := row_to hX ht hcx
            replace hS := hS.trans (ht.below.mono hwc)
            replace hC := hk
            have x1 := cell_row hX 1
            have x2 := cell_row hX 2
            have x3 := cell_row hX 3
            have x4 := cell_row hX 4
            clear ht hk
            go_wp2_with fail
            refine (rsee_any _ _ _ _ _ _ _ _ _ hR hi).mono ?_
            rintro e wc ⟨rfl, ht, hk⟩
            replace hC := ClkAt.to hC ht hcr.symm
            replace hS := hS.trans (ht.below.mono hwr)
            replace hR := hk
            clear ht hk x1 x2 x3 x4 hX
            replace hi := see_in hi (heldI_in vl) (heldI_in vc) (heldI_in vw)
            generalize seeL l (heldI vl) (heldI vw) = l2 at *
            generalize seeC l c (heldI vl) (heldI vc) (heldI vw) = c2 at *
            go_wp2_with fail
            have hC : ClkAt wc.drew 48 cb l2 c2 node := hC
            have hR : ClkAt wc.drew 30 rb l2 c2 node := hR
            have hS : Below w.heap.size w wc.drew := hS.drew
            refine wp_region_held_drew (S := (fun W => ClkAt W 30 rb l2 c2 node)) (by rfl) hR ?_
            intro hR
            refine wpAnyH_take (i := 0) (oi := { dst := some 72, op := Go.Op.move (Go.Operand.tmp 5), type := 24, pos := "law.go:47", after := #[], guard := none }) (v := .pointer (some ⟨cb, 0, none⟩)) rfl (by kernel_rfl) (by kernel_rfl) (by kernel_rfl) (fun _ _ _ h => h) (.inl ⟨by kernel_rfl, fun W hW => by go_simp⟩) hR ?_
            simp only [Act.put, List.setIfInBounds_toArray, List.set_cons_zero, List.set_cons_succ]
            refine wpAnyH_take (i := 2) (oi := { dst := some 74, op := Go.Op.move (Go.Operand.tmp 6), type := 26, pos := "law.go:47", after := #[], guard := none }) (v := .pointer (some ⟨rb, 0, none⟩)) rfl (by kernel_rfl) (by kernel_rfl) (by kernel_rfl) (fun _ _ _ h => h) (.inl ⟨by kernel_rfl, fun W hW => by go_simp⟩) hR ?_
            simp only [Act.put, List.setIfInBounds_toArray, List.set_cons_zero, List.set_cons_succ]
            refine wpAnyH_take (i := 3) (oi := { dst := some 75, op := Go.Op.nilCheck (Go.Operand.tmp 74), type := 0, pos := "law.go:47", after := #[{ on := 2, ground := Go.Ground.data }], guard := none }) (v := .pointer (some ⟨rb, 0, none⟩)) rfl (by kernel_rfl) (by kernel_rfl) (by kernel_rfl) (fun _ _ _ h => h) (.inl ⟨by kernel_rfl, fun W hW => by go_simp⟩) hR ?_
            simp only [Act.put, List.setIfInBounds_toArray, List.set_cons_zero, List.set_cons_succ]
            refine wpAnyH_take (i := 4) (oi := { dst := some 76, op := Go.Op.fieldAddr 30 (Go.Operand.tmp 75) 0, type := 0, pos := "law.go:47", after := #[{ on := 3, ground := Go.Ground.data }], guard := none }) (v := .pointer (some ⟨rb, 0, none⟩)) rfl (by kernel_rfl) (by kernel_rfl) (by kernel_rfl) (fun _ _ _ h => h) (.inl ⟨by kernel_rfl, fun W hW => by go_simp⟩) hR ?_
            simp only [Act.put, List.setIfInBounds_toArray, List.set_cons_zero, List.set_cons_succ]
            refine wpAnyH_take (i := 5) (oi := { dst := some 77, op := Go.Op.load 28 (Go.Operand.tmp 76), type := 28, pos := "law.go:47", after := #[{ on := 4, ground := Go.Ground.data }], guard := none }) (v := .agg #[.int .i64 l2, .int .i64 c2, .int .i64 node]) rfl (by kernel_rfl) (by kernel_rfl) (by kernel_rfl) (fun _ _ _ h => h) (.inl ⟨by kernel_rfl, fun W hW => by obtain ⟨p0, p1, p2⟩ := ClkAt.cells hW; simp [execOp, go_sem, p0, p1, p2]⟩) hR ?_
            simp only [Act.put, List.setIfInBounds_toArray, List.set_cons_zero, List.set_cons_succ]
            refine wpAnyH_ready (rs := [1]) (by kernel_rfl) (by simp) ?_
            refine AllReadyH.cons (o := { dst := some 73, op := Go.Op.call { callee := Go.Callee.value (Go.Operand.func 14), args := #[Go.Operand.tmp 72], argTypes := #[24] }, type := 28, pos := "law.go:47", after := #[{ on := 0, ground := Go.Ground.data }], guard := none }) rfl (fun K hK => ?_) (AllReadyH.nil)
            rw [if_pos (by kernel_rfl)]
            go_wp2_with fail
            refine (last_any _ _ _ _ _ hC).mono ?_
            rintro e wd ⟨rfl, hb⟩
            replace hC := ClkAt.on hC hb
            replace hR := ClkAt.on hR hb
            replace hS := thn hS hb
            clear hb
            go_wp2_with fail
            refine hK.out _ _ hR (fun _ => ?_)
            clear hK
            refine wpAnyH_take (i := 6) (oi := { dst := some 78, op := Go.Op.binOp Go.BinOp.neq 28 (Go.Operand.tmp 73) (Go.Operand.tmp 77) 28, type := 4, pos := "law.go:47", after := #[{ on := 1, ground := Go.Ground.data }, { on := 5, ground := Go.Ground.data }], guard := none }) (v := .bool false) rfl (by kernel_rfl) (by kernel_rfl) (by kernel_rfl) (fun _ _ _ h => h) (.inl ⟨by kernel_rfl, fun W hW => by simp [execOp, go_sem]⟩) hR ?_
            simp only [Act.put, List.setIfInBounds_toArray, List.set_cons_zero, List.set_cons_succ]
            refine wpAnyH_done (by kernel_rfl) ?_ _
            have E2 : Hid (PlayR w cb rb node wd) := Lib.hid ⟨_, _, hi, hC, hR, hS⟩
            clear hC hR hS hi
            go_wp2_with fail
            go_roundw
            case rel => exact ⟨n + 1, by omega, by go_num, E2.out⟩
            case measure => simp [intOf]; omega
        · rcases s with _ | _
          · go_wp2_with fail
            have hX : (wr.alloc (.cells #[.bool false, .int .i64 wl, .int .i64 sl, .int .i64 sc, .int .i64 sn] 32)).heap[wr.heap.size]? = some (.cells #[.bool false, .int .i64 wl, .int .i64 sl, .int .i64 sc, .int .i64 sn] 32) := row_new _ _
            have hC : ClkAt (wr.alloc (.cells #[.bool false, .int .i64 wl, .int .i64 sl, .int .i64 sc, .int .i64 sn] 32)) 48 cb l c node := row_keep hC _
            have hR : ClkAt (wr.alloc (.cells #[.bool false, .int .i64 wl, .int .i64 sl, .int .i64 sc, .int .i64 sn] 32)) 30 rb l c node := row_keep hR _
            have hS : Below w.heap.size w (wr.alloc (.cells #[.bool false, .int .i64 wl, .int .i64 sl, .int .i64 sc, .int .i64 sn] 32)) := alB hS _
            have hcx : cb ≠ wr.heap.size := by have := ClkAt.lt hC0; omega
            have hrx : rb ≠ wr.heap.size := by have := ClkAt.lt hR0; omega
            clear c0 c1 c2 c3 c4 hx hC0 hR0
            generalize (wr.alloc (.cells #[.bool false, .int .i64 wl, .int .i64 sl, .int .i64 sc, .int .i64 sn] 32)) = X at *
            generalize wr.heap.size = g at *
            have hC : ClkAt X.drew 48 cb l c node := hC
            have hR : ClkAt X.drew 30 rb l c node := hR
            have hS : Below w.heap.size w X.drew := hS.drew
            have hZ : X.cell? ⟨g, 1, none⟩ = some (.int .i64 wl) := cell_row hX 1
            have hX : X.drew.heap[g]? = some (.cells #[.bool false, .int .i64 wl, .int .i64 sl, .int .i64 sc, .int .i64 sn] 32) := hX
            refine wp_region_held_drew (S := (fun W => W.cell? ⟨g, 1, none⟩ = some (.int .i64 wl))) (by rfl) hZ ?_
            intro hZ
            refine wpAnyH_take (i := 0) (oi := { dst := some 63, op := Go.Op.move (Go.Operand.tmp 5), type := 24, pos := "law.go:44", after := #[], guard := none }) (v := .pointer (some ⟨cb, 0, none⟩)) rfl (by kernel_rfl) (by kernel_rfl) (by kernel_rfl) (fun _ _ _ h => h) (.inl ⟨by kernel_rfl, fun W hW => by go_simp⟩) hZ ?_
            simp only [Act.put, List.setIfInBounds_toArray, List.set_cons_zero, List.set_cons_succ]
            refine wpAnyH_take (i := 1) (oi := { dst := some 64, op := Go.Op.fieldAddr 32 (Go.Operand.tmp 8) 1, type := 0, pos := "law.go:44", after := #[], guard := none }) (v := .pointer (some ⟨g, 1, none⟩)) rfl (by kernel_rfl) (by kernel_rfl) (by kernel_rfl) (fun _ _ _ h => h) (.inl ⟨by kernel_rfl, fun W hW => by go_simp⟩) hZ ?_
            simp only [Act.put, List.setIfInBounds_toArray, List.set_cons_zero, List.set_cons_succ]
            refine wpAnyH_take (i := 2) (oi := { dst := some 65, op := Go.Op.load 2 (Go.Operand.tmp 64), type := 2, pos := "law.go:44", after := #[{ on := 1, ground := Go.Ground.data }], guard := none }) (v := .int .i64 wl) rfl (by kernel_rfl) (by kernel_rfl) (by kernel_rfl) (fun _ _ _ h => h) (.inl ⟨by kernel_rfl, fun W hW => by simp [execOp, go_sem, hW]⟩) hZ ?_
            simp only [Act.put, List.setIfInBounds_toArray, List.set_cons_zero, List.set_cons_succ]
            refine wpAnyH_take (i := 4) (oi := { dst := some 67, op := Go.Op.move (Go.Operand.tmp 6), type := 26, pos := "law.go:44", after := #[], guard := none }) (v := .pointer (some ⟨rb, 0, none⟩)) rfl (by kernel_rfl) (by kernel_rfl) (by kernel_rfl) (fun _ _ _ h => h) (.inl ⟨by kernel_rfl, fun W hW => by go_simp⟩) hZ ?_
            simp only [Act.put, List.setIfInBounds_toArray, List.set_cons_zero, List.set_cons_succ]
            refine wpAnyH_take (i := 5) (oi := { dst := some 68, op := Go.Op.fieldAddr 32 (Go.Operand.tmp 8) 1, type := 0, pos := "law.go:44", after := #[], guard := none }) (v := .pointer (some ⟨g, 1, none⟩)) rfl (by kernel_rfl) (by kernel_rfl) (by kernel_rfl) (fun _ _ _ h => h) (.inl ⟨by kernel_rfl, fun W hW => by go_simp⟩) hZ ?_
            simp only [Act.put, List.setIfInBounds_toArray, List.set_cons_zero, List.set_cons_succ]
            refine wpAnyH_take (i := 6) (oi := { dst := some 69, op := Go.Op.load 2 (Go.Operand.tmp 68), type := 2, pos := "law.go:44", after := #[{ on := 5, ground := Go.Ground.data }], guard := none }) (v := .int .i64 wl) rfl (by kernel_rfl) (by kernel_rfl) (by kernel_rfl) (fun _ _ _ h => h) (.inl ⟨by kernel_rfl, fun W hW => by simp [execOp, go_sem, hW]⟩) hZ ?_
            simp only [Act.put, List.setIfInBounds_toArray, List.set_cons_zero, List.set_cons_succ]
            refine wpAnyH_ready (rs := [3]) (by kernel_rfl) (by simp) ?_
            refine AllReadyH.cons (o := { dst := some 66, op := Go.Op.call { callee := Go.Callee.value (Go.Operand.func 12), args := #[Go.Operand.tmp 63, Go.Operand.tmp 65], argTypes := #[24, 2] }, type := 28, pos := "law.go:44", after := #[{ on := 0, ground := Go.Ground.data }, { on := 2, ground := Go.Ground.data }], guard := none }) rfl (fun K hK => ?_) (AllReadyH.nil)
            rw [if_pos (by kernel_rfl)]
            go_wp2_with fail
            refine (now_any _ _ _ _ _ _ hC hi).mono ?_
            rintro e wb ⟨rfl, ht, hk⟩
            replace hR := ClkAt.to hR ht hcr
            replace hX := row_to hX ht hcx
            replace hZ := cell_row hX 1
            replace hS := hS.trans (ht.below.mono hwc)
            replace hC := hk
            clear ht hk
            go_wp2_with fail
            refine hK.out _ _ hZ (fun _ => ?_)
            clear hK
            refine wpAnyH_ready (rs := [7]) (by kernel_rfl) (by simp) ?_
            refine AllReadyH.cons (o := { dst := some 70, op := Go.Op.call { callee := Go.Callee.value (Go.Operand.func 13), args := #[Go.Operand.tmp 67, Go.Operand.tmp 69], argTypes := #[26, 2] }, type := 28, pos := "law.go:44", after := #[{ on := 4, ground := Go.Ground.data }, { on := 6, ground := Go.Ground.data }, { on := 3, ground := Go.Ground.chain }], guard := none }) rfl (fun K hK => ?_) (AllReadyH.nil)
            rw [if_pos (by kernel_rfl)]
            go_wp2_with fail
            refine (rnow_any _ _ _ _ _ _ hR hi).mono ?_
            rintro e wc ⟨rfl, ht, hk⟩
            replace hC := ClkAt.to hC ht hcr.symm
            replace hX := row_to hX ht hrx
            replace hZ := cell_row hX 1
            replace hS := hS.trans (ht.below.mono hwr)
            replace hR := hk
            clear ht hk
            go_wp2_with fail
            refine hK.out _ _ hZ (fun _ => ?_)
            clear hK
            refine wpAnyH_take (i := 8) (oi := { dst := some 71, op := Go.Op.binOp Go.BinOp.neq 28 (Go.Operand.tmp 66) (Go.Operand.tmp 70) 28, type := 4, pos := "law.go:44", after := #[{ on := 3, ground := Go.Ground.data }, { on := 7, ground := Go.Ground.data }], guard := none }) (v := .bool false) rfl (by kernel_rfl) (by kernel_rfl) (by kernel_rfl) (fun _ _ _ h => h) (.inl ⟨by kernel_rfl, fun W hW => by simp [execOp, go_sem]⟩) hZ ?_
            simp only [Act.put, List.setIfInBounds_toArray, List.set_cons_zero, List.set_cons_succ]
            refine wpAnyH_done (by kernel_rfl) ?_ _
            replace hi := now_in (wall := wl) hi
            clear hZ hX
            generalize nowL wl l c = l2 at *
            generalize nowC wl l c = c2 at *
            go_wp2_with fail
            have hC : ClkAt wc.drew 48 cb l2 c2 node := hC
            have hR : ClkAt wc.drew 30 rb l2 c2 node := hR
            have hS : Below w.heap.size w wc.drew := hS.drew
            refine wp_region_held_drew (S := (fun W => ClkAt W 30 rb l2 c2 node)) (by rfl) hR ?_
            intro hR
            refine wpAnyH_take (i := 0) (oi := { dst := some 72, op := Go.Op.move (Go.Operand.tmp 5), type := 24, pos := "law.go:47", after := #[], guard := none }) (v := .pointer (some ⟨cb, 0, none⟩)) rfl (by kernel_rfl) (by kernel_rfl) (by kernel_rfl) (fun _ _ _ h => h) (.inl ⟨by kernel_rfl, fun W hW => by go_simp⟩) hR ?_
            simp only [Act.put, List.setIfInBounds_toArray, List.set_cons_zero, List.set_cons_succ]
            refine wpAnyH_take (i := 2) (oi := { dst := some 74, op := Go.Op.move (Go.Operand.tmp 6), type := 26, pos := "law.go:47", after := #[], guard := none }) (v := .pointer (some ⟨rb, 0, none⟩)) rfl (by kernel_rfl) (by kernel_rfl) (by kernel_rfl) (fun _ _ _ h => h) (.inl ⟨by kernel_rfl, fun W hW => by go_simp⟩) hR ?_
            simp only [Act.put, List.setIfInBounds_toArray, List.set_cons_zero, List.set_cons_succ]
            refine wpAnyH_take (i := 3) (oi := { dst := some 75, op := Go.Op.nilCheck (Go.Operand.tmp 74), type := 0, pos := "law.go:47", after := #[{ on := 2, ground := Go.Ground.data }], guard := none }) (v := .pointer (some ⟨rb, 0, none⟩)) rfl (by kernel_rfl) (by kernel_rfl) (by kernel_rfl) (fun _ _ _ h => h) (.inl ⟨by kernel_rfl, fun W hW => by go_simp⟩) hR ?_
            simp only [Act.put, List.setIfInBounds_toArray, List.set_cons_zero, List.set_cons_succ]
            refine wpAnyH_take (i := 4) (oi := { dst := some 76, op := Go.Op.fieldAddr 30 (Go.Operand.tmp 75) 0, type := 0, pos := "law.go:47", after := #[{ on := 3, ground := Go.Ground.data }], guard := none }) (v := .pointer (some ⟨rb, 0, none⟩)) rfl (by kernel_rfl) (by kernel_rfl) (by kernel_rfl) (fun _ _ _ h => h) (.inl ⟨by kernel_rfl, fun W hW => by go_simp⟩) hR ?_
            simp only [Act.put, List.setIfInBounds_toArray, List.set_cons_zero, List.set_cons_succ]
            refine wpAnyH_take (i := 5) (oi := { dst := some 77, op := Go.Op.load 28 (Go.Operand.tmp 76), type := 28, pos := "law.go:47", after := #[{ on := 4, ground := Go.Ground.data }], guard := none }) (v := .agg #[.int .i64 l2, .int .i64 c2, .int .i64 node]) rfl (by kernel_rfl) (by kernel_rfl) (by kernel_rfl) (fun _ _ _ h => h) (.inl ⟨by kernel_rfl, fun W hW => by obtain ⟨p0, p1, p2⟩ := ClkAt.cells hW; simp [execOp, go_sem, p0, p1, p2]⟩) hR ?_
            simp only [Act.put, List.setIfInBounds_toArray, List.set_cons_zero, List.set_cons_succ]
            refine wpAnyH_ready (rs := [1]) (by kernel_rfl) (by simp) ?_
            refine AllReadyH.cons (o := { dst := some 73, op := Go.Op.call { callee := Go.Callee.value (Go.Operand.func 14), args := #[Go.Operand.tmp 72], argTypes := #[24] }, type := 28, pos := "law.go:47", after := #[{ on := 0, ground := Go.Ground.data }], guard := none }) rfl (fun K hK => ?_) (AllReadyH.nil)
            rw [if_pos (by kernel_rfl)]
            go_wp2_with fail
            refine (last_any _ _ _ _ _ hC).mono ?_
            rintro e wd ⟨rfl, hb⟩
            replace hC := ClkAt.on hC hb
            replace hR := ClkAt.on hR hb
            replace hS := thn hS hb
            clear hb
            go_wp2_with fail
            refine hK.out _ _ hR (fun _ => ?_)
            clear hK
            refine wpAnyH_take (i := 6) (oi := { dst := some 78, op := Go.Op.binOp Go.BinOp.neq 28 (Go.Operand.tmp 73) (Go.Operand.tmp 77) 28, type := 4, pos := "law.go:47", after := #[{ on := 1, ground := Go.Ground.data }, { on := 5, ground := Go.Ground.data }], guard := none }) (v := .bool false) rfl (by kernel_rfl) (by kernel_rfl) (by kernel_rfl) (fun _ _ _ h => h) (.inl ⟨by kernel_rfl, fun W hW => by simp [execOp, go_sem]⟩) hR ?_
            simp only [Act.put, List.setIfInBounds_toArray, List.set_cons_zero, List.set_cons_succ]
            refine wpAnyH_done (by kernel_rfl) ?_ _
            have E2 : Hid (PlayR w cb rb node wd) := Lib.hid ⟨_, _, hi, hC, hR, hS⟩
            clear hC hR hS hi
            go_wp2_with fail
            go_roundw
            case rel => exact ⟨n + 1, by omega, by go_num, E2.out⟩
            case measure => simp [intOf]; omega
          · go_wp2_with fail
            have hX : (wr.alloc (.cells #[.bool true, .int .i64 wl, .int .i64 sl, .int .i64 sc, .int .i64 sn] 32)).heap[wr.heap.size]? = some (.cells #[.bool true, .int .i64 wl, .int .i64 sl, .int .i64 sc, .int .i64 sn] 32) := row_new _ _
            have hC : ClkAt (wr.alloc (.cells #[.bool true, .int .i64 wl, .int .i64 sl, .int .i64 sc, .int .i64 sn] 32)) 48 cb l c node := row_keep hC _
            have hR : ClkAt (wr.alloc (.cells #[.bool true, .int .i64 wl, .int .i64 sl, .int .i64 sc, .int .i64 sn] 32)) 30 rb l c node := row_keep hR _
            have hS : Below w.heap.size w (wr.alloc (.cells #[.bool true, .int .i64 wl, .int .i64 sl, .int .i64 sc, .int .i64 sn] 32)) := alB hS _
            have hcx : cb ≠ wr.heap.size := by have := ClkAt.lt hC0; omega
            have hrx : rb ≠ wr.heap.size := by have := ClkAt.lt hR0; omega
            clear c0 c1 c2 c3 c4 hx hC0 hR0
            generalize (wr.alloc (.cells #[.bool true, .int .i64 wl, .int .i64 sl, .int .i64 sc, .int .i64 sn] 32)) = X at *
            generalize wr.heap.size = g at *
            refine (see_any _ _ _ _ _ _ _ _ _ hC hi).mono ?_
            rintro e wb ⟨rfl, ht, hk⟩
            replace hR := ClkAt.to hR ht hcr
            replace hX := row_to hX ht hcx
            replace hS := hS.trans (ht.below.mono hwc)
            replace hC := hk
            have x1 := cell_row hX 1
            have x2 := cell_row hX 2
            have x3 := cell_row hX 3
            have x4 := cell_row hX 4
            clear ht hk
            go_wp2_with fail
            refine (rsee_any _ _ _ _ _ _ _ _ _ hR hi).mono ?_
            rintro e wc ⟨rfl, ht, hk⟩
            replace hC := ClkAt.to hC ht hcr.symm
            replace hS := hS.trans (ht.below.mono hwr)
            replace hR := hk
            clear ht hk x1 x2 x3 x4 hX
            replace hi := see_in hi (heldI_in sl) (heldI_in sc) (heldI_in wl)
            generalize seeL l (heldI sl) (heldI wl) = l2 at *
            generalize seeC l c (heldI sl) (heldI sc) (heldI wl) = c2 at *
            go_wp2_with fail
            have hC : ClkAt wc.drew 48 cb l2 c2 node := hC
            have hR : ClkAt wc.drew 30 rb l2 c2 node := hR
            have hS : Below w.heap.size w wc.drew := hS.drew
            refine wp_region_held_drew (S := (fun W => ClkAt W 30 rb l2 c2 node)) (by rfl) hR ?_
            intro hR
            refine wpAnyH_take (i := 0) (oi := { dst := some 72, op := Go.Op.move (Go.Operand.tmp 5), type := 24, pos := "law.go:47", after := #[], guard := none }) (v := .pointer (some ⟨cb, 0, none⟩)) rfl (by kernel_rfl) (by kernel_rfl) (by kernel_rfl) (fun _ _ _ h => h) (.inl ⟨by kernel_rfl, fun W hW => by go_simp⟩) hR ?_
            simp only [Act.put, List.setIfInBounds_toArray, List.set_cons_zero, List.set_cons_succ]
            refine wpAnyH_take (i := 2) (oi := { dst := some 74, op := Go.Op.move (Go.Operand.tmp 6), type := 26, pos := "law.go:47", after := #[], guard := none }) (v := .pointer (some ⟨rb, 0, none⟩)) rfl (by kernel_rfl) (by kernel_rfl) (by kernel_rfl) (fun _ _ _ h => h) (.inl ⟨by kernel_rfl, fun W hW => by go_simp⟩) hR ?_
            simp only [Act.put, List.setIfInBounds_toArray, List.set_cons_zero, List.set_cons_succ]
            refine wpAnyH_take (i := 3) (oi := { dst := some 75, op := Go.Op.nilCheck (Go.Operand.tmp 74), type := 0, pos := "law.go:47", after := #[{ on := 2, ground := Go.Ground.data }], guard := none }) (v := .pointer (some ⟨rb, 0, none⟩)) rfl (by kernel_rfl) (by kernel_rfl) (by kernel_rfl) (fun _ _ _ h => h) (.inl ⟨by kernel_rfl, fun W hW => by go_simp⟩) hR ?_
            simp only [Act.put, List.setIfInBounds_toArray, List.set_cons_zero, List.set_cons_succ]
            refine wpAnyH_take (i := 4) (oi := { dst := some 76, op := Go.Op.fieldAddr 30 (Go.Operand.tmp 75) 0, type := 0, pos := "law.go:47", after := #[{ on := 3, ground := Go.Ground.data }], guard := none }) (v := .pointer (some ⟨rb, 0, none⟩)) rfl (by kernel_rfl) (by kernel_rfl) (by kernel_rfl) (fun _ _ _ h => h) (.inl ⟨by kernel_rfl, fun W hW => by go_simp⟩) hR ?_
            simp only [Act.put, List.setIfInBounds_toArray, List.set_cons_zero, List.set_cons_succ]
            refine wpAnyH_take (i := 5) (oi := { dst := some 77, op := Go.Op.load 28 (Go.Operand.tmp 76), type := 28, pos := "law.go:47", after := #[{ on := 4, ground := Go.Ground.data }], guard := none }) (v := .agg #[.int .i64 l2, .int .i64 c2, .int .i64 node]) rfl (by kernel_rfl) (by kernel_rfl) (by kernel_rfl) (fun _ _ _ h => h) (.inl ⟨by kernel_rfl, fun W hW => by obtain ⟨p0, p1, p2⟩ := ClkAt.cells hW; simp [execOp, go_sem, p0, p1, p2]⟩) hR ?_
            simp only [Act.put, List.setIfInBounds_toArray, List.set_cons_zero, List.set_cons_succ]
            refine wpAnyH_ready (rs := [1]) (by kernel_rfl) (by simp) ?_
            refine AllReadyH.cons (o := { dst := some 73, op := Go.Op.call { callee := Go.Callee.value (Go.Operand.func 14), args := #[Go.Operand.tmp 72], argTypes := #[24] }, type := 28, pos := "law.go:47", after := #[{ on := 0, ground := Go.Ground.data }], guard := none }) rfl (fun K hK => ?_) (AllReadyH.nil)
            rw [if_pos (by kernel_rfl)]
            go_wp2_with fail
            refine (last_any _ _ _ _ _ hC).mono ?_
            rintro e wd ⟨rfl, hb⟩
            replace hC := ClkAt.on hC hb
            replace hR := ClkAt.on hR hb
            replace hS := thn hS hb
            clear hb
            go_wp2_with fail
            refine hK.out _ _ hR (fun _ => ?_)
            clear hK
            refine wpAnyH_take (i := 6) (oi := { dst := some 78, op := Go.Op.binOp Go.BinOp.neq 28 (Go.Operand.tmp 73) (Go.Operand.tmp 77) 28, type := 4, pos := "law.go:47", after := #[{ on := 1, ground := Go.Ground.data }, { on := 5, ground := Go.Ground.data }], guard := none }) (v := .bool false) rfl (by kernel_rfl) (by kernel_rfl) (by kernel_rfl) (fun _ _ _ h => h) (.inl ⟨by kernel_rfl, fun W hW => by simp [execOp, go_sem]⟩) hR ?_
            simp only [Act.put, List.setIfInBounds_toArray, List.set_cons_zero, List.set_cons_succ]
            refine wpAnyH_done (by kernel_rfl) ?_ _
            have E2 : Hid (PlayR w cb rb node wd) := Lib.hid ⟨_, _, hi, hC, hR, hS⟩
            clear hC hR hS hi
            go_wp2_with fail
            go_roundw
            case rel => exact ⟨n + 1, by omega, by go_num, E2.out⟩
            case measure => simp [intOf]; omega
      · go_wp2_with fail
        go_ret
        obtain ⟨l, c, hi, hC, hR, hS⟩ := E.out
        exact ⟨rfl, hS⟩
end Go.Proofs.Ytedlgaajiofdjaa
