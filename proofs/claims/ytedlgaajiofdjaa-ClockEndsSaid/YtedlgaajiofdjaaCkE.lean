/- The law ClockEnds: its walk. -/
import Derived.Test.YtedlgaajiofdjaaCk8
import Derived.Test.YtedlgaajiofdjaaCk9
import Derived.Deep.RegionHeld3
namespace Go.Proofs.Ytedlgaajiofdjaa
open Go.RowKit Go.Lib
set_option linter.unusedVariables false

/-- A row of six numbers. -/
def SixRow (w : World) (g : Nat) : Prop := g < w.heap.size ∧ ∀ j, j < 6 → ∃ z : Int, w.cell? ⟨g, j, none⟩ = some (.int .i64 z)
theorem SixRow.to {w w' : World} {g r : Nat} (h : SixRow w g) (k : RdTo r w w') (hr : r ≠ g) : SixRow w' g := by
  have hb : w'.heap[g]? = w.heap[g]? := by
    rcases Nat.lt_or_gt_of_ne hr with q | q
    · exact k.above g q h.1
    · exact k.below.block g q
  refine ⟨Nat.lt_of_lt_of_le h.1 k.below.size, fun j hj => ?_⟩
  obtain ⟨z, hz⟩ := h.2 j hj
  exact ⟨z, by rw [← hz]; exact World.cell?_of_block hb⟩
theorem SixRow.on {w w' : World} {g : Nat} (h : SixRow w g) (k : Below w.heap.size w w') : SixRow w' g := by
  refine ⟨Nat.lt_of_lt_of_le h.1 k.size, fun j hj => ?_⟩
  obtain ⟨z, hz⟩ := h.2 j hj
  exact ⟨z, (k.cell (p := ⟨g, j, none⟩) h.1).trans hz⟩
theorem six_new (w : World) (a b c d e f : Int) (t : TypeId) : SixRow (w.alloc (.cells #[.int .i64 a, .int .i64 b, .int .i64 c, .int .i64 d, .int .i64 e, .int .i64 f] t)) w.heap.size := by
  have h : (w.alloc (.cells #[.int .i64 a, .int .i64 b, .int .i64 c, .int .i64 d, .int .i64 e, .int .i64 f] t)).heap[w.heap.size]? = some (.cells #[.int .i64 a, .int .i64 b, .int .i64 c, .int .i64 d, .int .i64 e, .int .i64 f] t) := by
    show (w.heap.push _)[w.heap.size]? = _
    simp
  refine ⟨row_lt h, fun j hj => ?_⟩
  rw [cell_row h j]
  match j, hj with
  | 0, _ => exact ⟨a, rfl⟩
  | 1, _ => exact ⟨b, rfl⟩
  | 2, _ => exact ⟨c, rfl⟩
  | 3, _ => exact ⟨d, rfl⟩
  | 4, _ => exact ⟨e, rfl⟩
  | 5, _ => exact ⟨f, rfl⟩

/-- A number in a block. -/
def CellAt (w : World) (g i : Nat) (z : Int) : Prop := g < w.heap.size ∧ w.cell? ⟨g, i, none⟩ = some (.int .i64 z)
theorem CellAt.to {w w' : World} {g i r : Nat} {z : Int} (h : CellAt w g i z) (k : RdTo r w w') (hr : r ≠ g) : CellAt w' g i z := by
  have hb : w'.heap[g]? = w.heap[g]? := by
    rcases Nat.lt_or_gt_of_ne hr with q | q
    · exact k.above g q h.1
    · exact k.below.block g q
  exact ⟨Nat.lt_of_lt_of_le h.1 k.below.size, by rw [← h.2]; exact World.cell?_of_block hb⟩
theorem CellAt.on {w w' : World} {g i : Nat} {z : Int} (h : CellAt w g i z) (k : Below w.heap.size w w') : CellAt w' g i z :=
  ⟨Nat.lt_of_lt_of_le h.1 k.size, (k.cell (p := ⟨g, i, none⟩) h.1).trans h.2⟩
def EndR (w : World) (g cb rb : Nat) (W : World) : Prop :=
  ∃ l c : Int, In l c ∧ ClkAt W 48 cb l c 2 ∧ ClkAt W 30 rb l c 2 ∧ SixRow W g ∧ Below w.heap.size w W
set_option maxRecDepth 100000 in
set_option maxHeartbeats 8000000 in
theorem ends_walk (k j wall : Int) (hk : 0 ≤ k ∧ k ≤ 255) (hj : 0 ≤ j ∧ j ≤ 255) (w : World) :
    Calls Try.prog 7 #[.int .u8 k, .int .u8 j, .int .i64 wall] w fun e w' => e = .returned (.bool true) ∧ Below w.heap.size w w' := by
  go_enter Try.func7, Try.ntmps7
  go_wp2_with fail
  refine (known_any _).mono ?_
  rintro e w1 ⟨rfl, hb⟩
  have B1 := Lib.hid hb
  clear hb
  go_wp2_with fail
  have hX0 := six_new w1 4611686018427387904 4611686018427387903 4611686018427387905 9223372036854775807 0 (-9223372036854775808) 2
  have hB0 := alB B1.out (.cells #[.int .i64 4611686018427387904, .int .i64 4611686018427387903, .int .i64 4611686018427387905, .int .i64 9223372036854775807, .int .i64 0, .int .i64 (-9223372036854775808)] 2)
  clear B1
  generalize w1.alloc (.cells #[.int .i64 4611686018427387904, .int .i64 4611686018427387903, .int .i64 4611686018427387905, .int .i64 9223372036854775807, .int .i64 0, .int .i64 (-9223372036854775808)] 2) = W2 at *
  generalize w1.heap.size = g at *
  refine (new_any 2 W2).mono ?_
  rintro e w3 ⟨rfl, hb, hs, hk⟩
  have X3 := Lib.hid (hX0.on hb)
  have B3 := Lib.hid (thn hB0 hb)
  have K3 := Lib.hid hk
  have hg := hX0.1
  have hwg := hB0.size
  clear hX0 hB0 hb hk
  generalize W2.heap.size = cb at *
  go_wp2_with fail
  have hk4 : ClkAt (w3.alloc (.cells #[.int .i64 0, .int .i64 0, .int .i64 2] 30)) 48 cb 0 0 2 := row_keep K3.out _
  have hr4 := ClkAt.new w3 30 0 0 2
  have hx4 := X3.out.on (alB (Below.refl _ _) (.cells #[.int .i64 0, .int .i64 0, .int .i64 2] 30))
  have hb4 := alB B3.out (.cells #[.int .i64 0, .int .i64 0, .int .i64 2] 30)
  clear X3 B3 K3
  have hsz : w3.heap.size < (w3.alloc (.cells #[.int .i64 0, .int .i64 0, .int .i64 2] 30)).heap.size := by simp
  generalize w3.alloc (.cells #[.int .i64 0, .int .i64 0, .int .i64 2] 30) = W4 at *
  generalize w3.heap.size = rb at *
  have K4 := Lib.hid hk4
  have R4 := Lib.hid hr4
  have X4 := Lib.hid hx4
  have B4 := Lib.hid hb4
  clear hk4 hr4 hx4 hb4
  obtain ⟨a, ha⟩ := X4.out.2 (k % 6).toNat (by omega)
  obtain ⟨b, hbb⟩ := X4.out.2 (j % 6).toNat (by omega)
  have hgW : g < W4.heap.size := by omega
  have ha2 : ∀ C t q, (W4.alloc (.cells C t q)).cell? ⟨g, (k % 6).toNat, none⟩ = some (.int .i64 a) := fun C t q => by rw [← ha]; exact (alB (Below.refl _ _) _).cell (p := ⟨g, (k % 6).toNat, none⟩) hgW
  have hb2 : ∀ C t q, (W4.alloc (.cells C t q)).cell? ⟨g, (j % 6).toNat, none⟩ = some (.int .i64 b) := fun C t q => by rw [← hbb]; exact (alB (Below.refl _ _) _).cell (p := ⟨g, (j % 6).toNat, none⟩) hgW
  go_region
  have hk5 : ClkAt (W4.alloc (.cells #[.int .i64 a, .int .i64 b, .int .i64 1] 28)).drew 48 cb 0 0 2 := row_keep K4.out _
  have hr5 : ClkAt (W4.alloc (.cells #[.int .i64 a, .int .i64 b, .int .i64 1] 28)).drew 30 rb 0 0 2 := row_keep R4.out _
  have hs5 : ClkAt (W4.alloc (.cells #[.int .i64 a, .int .i64 b, .int .i64 1] 28)).drew 28 W4.heap.size a b 1 := ClkAt.new W4 _ _ _ _
  have hx5 : SixRow (W4.alloc (.cells #[.int .i64 a, .int .i64 b, .int .i64 1] 28)).drew g := X4.out.on (alB (Below.refl _ _) _).drew
  have hb5 : Below w.heap.size w (W4.alloc (.cells #[.int .i64 a, .int .i64 b, .int .i64 1] 28)).drew := (alB B4.out _).drew
  clear K4 R4 X4 B4 ha hbb ha2 hb2
  generalize (W4.alloc (.cells #[.int .i64 a, .int .i64 b, .int .i64 1] 28)).drew = W5 at *
  generalize W4.heap.size = sb at *
  obtain ⟨p0, p1, p2⟩ := hs5.cells
  have K5 := Lib.hid hk5
  have R5 := Lib.hid hr5
  have S5 := Lib.hid hs5
  have X5 := Lib.hid hx5
  have B5 := Lib.hid hb5
  clear hk5 hr5 hs5 hx5 hb5
  have in0 : In 0 0 := by unfold In; omega
  go_wp2_with fail
  refine (see_any cb wall 0 0 2 a b 1 W5 K5.out in0).mono ?_
  rintro e w6 ⟨rfl, ht, hk⟩
  have K6 := Lib.hid hk
  have R6 := Lib.hid (R5.out.to ht (by omega))
  have hs6 := S5.out.to ht (by omega)
  have X6 := Lib.hid (X5.out.to ht (by omega))
  have B6 : Hid (Below w.heap.size w w6) := Lib.hid (B5.out.trans (ht.below.mono (by omega)))
  clear p0 p1 p2 ht hk K5 R5 S5 X5 B5
  obtain ⟨p0, p1, p2⟩ := hs6.cells
  clear hs6
  go_wp2_with fail
  refine (rsee_any rb wall 0 0 2 a b 1 w6 R6.out in0).mono ?_
  rintro e w7 ⟨rfl, ht, hk⟩
  have E7 : Hid (EndR w g cb rb w7) := Lib.hid ⟨_, _, see_in in0 (heldI_in a) (heldI_in b) (heldI_in wall), K6.out.to ht (by omega), hk, X6.out.to ht (by omega), B6.out.trans (ht.below.mono (by omega))⟩
  clear p0 p1 p2 ht hk K6 R6 X6 B6 in0
  go_wp2_with fail
  go_loopw [11] (fun i wr => ∃ n : Nat, n ≤ 3 ∧ i = .int .i64 n ∧ EndR w g cb rb wr) (fun i _ => 3 - (intOf i).toNat)
  case atStart =>
    exact ⟨0, by omega, rfl, E7.out⟩
  case round =>
    obtain ⟨n, hn, rfl, hE⟩ := hrel
    have E := Lib.hid hE
    clear hE E7
    by_cases hlt : n < 3
    · obtain ⟨l, c, hi, hC, hR, hX, hS⟩ := E.out
      clear E
      have hcr : cb ≠ rb := by omega
      have hcg : cb ≠ g := by omega
      have hrg : rb ≠ g := by omega
      have hwc : w.heap.size ≤ cb := by omega
      have hwr : w.heap.size ≤ rb := by omega
      have e1 : IntKind.u8.wrap (k + j) = (k + j) % 256 := IntKind.wrap_u8 _
      have e2 : ((k + j) % 256).tmod 6 = (k + j) % 256 % 6 := Int.tmod_eq_emod_of_nonneg (by omega)
      have e3 : 0 ≤ (k + j) % 256 % 6 := by omega
      have e4 : (k + j) % 256 % 6 < 6 := by omega
      obtain ⟨z, hz⟩ := hX.2 ((k + j) % 256 % 6).toNat (by omega)
      go_wp2_with fail
      have hC : ClkAt wr.drew 48 cb l c 2 := hC
      have hR : ClkAt wr.drew 30 rb l c 2 := hR
      have hZ : CellAt wr.drew g ((k + j) % 256 % 6).toNat z := ⟨hX.1, hz⟩
      have hX : SixRow wr.drew g := hX
      have hS : Below w.heap.size w wr.drew := hS.drew
      refine wp_region_held_drew (S := (fun W => CellAt W g ((k + j) % 256 % 6).toNat z)) (by rfl) hZ ?_
      intro hZ
      refine wpAnyH_take (i := 0) (oi := { dst := some 42, op := Go.Op.move (Go.Operand.tmp 8), type := 24, pos := "more.go:49", after := #[], guard := none }) (v := .pointer (some ⟨cb, 0, none⟩)) rfl (by kernel_rfl) (by kernel_rfl) (by kernel_rfl) (fun _ _ _ h => h) (.inl ⟨by kernel_rfl, fun W hW => by go_simp⟩) hZ ?_
      simp only [Act.put, List.setIfInBounds_toArray, List.set_cons_zero, List.set_cons_succ]
      refine wpAnyH_take (i := 2) (oi := { dst := some 44, op := Go.Op.move (Go.Operand.tmp 9), type := 26, pos := "more.go:49", after := #[], guard := none }) (v := .pointer (some ⟨rb, 0, none⟩)) rfl (by kernel_rfl) (by kernel_rfl) (by kernel_rfl) (fun _ _ _ h => h) (.inl ⟨by kernel_rfl, fun W hW => by go_simp⟩) hZ ?_
      simp only [Act.put, List.setIfInBounds_toArray, List.set_cons_zero, List.set_cons_succ]
      refine wpAnyH_take (i := 3) (oi := { dst := some 45, op := Go.Op.nilCheck (Go.Operand.tmp 44), type := 0, pos := "more.go:49", after := #[{ on := 2, ground := Go.Ground.data }], guard := none }) (v := .pointer (some ⟨rb, 0, none⟩)) rfl (by kernel_rfl) (by kernel_rfl) (by kernel_rfl) (fun _ _ _ h => h) (.inl ⟨by kernel_rfl, fun W hW => by go_simp⟩) hZ ?_
      simp only [Act.put, List.setIfInBounds_toArray, List.set_cons_zero, List.set_cons_succ]
      refine wpAnyH_take (i := 4) (oi := { dst := some 46, op := Go.Op.fieldAddr 30 (Go.Operand.tmp 45) 0, type := 0, pos := "more.go:49", after := #[{ on := 3, ground := Go.Ground.data }], guard := none }) (v := .pointer (some ⟨rb, 0, none⟩)) rfl (by kernel_rfl) (by kernel_rfl) (by kernel_rfl) (fun _ _ _ h => h) (.inl ⟨by kernel_rfl, fun W hW => by go_simp⟩) hZ ?_
      simp only [Act.put, List.setIfInBounds_toArray, List.set_cons_zero, List.set_cons_succ]
      refine wpAnyH_ready (rs := [1, 5]) (by kernel_rfl) (by simp) ?_
      refine AllReadyH.cons (o := { dst := some 43, op := Go.Op.call { callee := Go.Callee.value (Go.Operand.func 14), args := #[Go.Operand.tmp 42], argTypes := #[24] }, type := 28, pos := "more.go:49", after := #[{ on := 0, ground := Go.Ground.data }], guard := none }) rfl (fun K hK => ?_) (AllReadyH.cons (o := { dst := some 47, op := Go.Op.load 28 (Go.Operand.tmp 46), type := 28, pos := "more.go:49", after := #[{ on := 4, ground := Go.Ground.data }], guard := none }) rfl (fun K hK => ?_) (AllReadyH.nil))
      · rw [if_pos (by kernel_rfl)]
        go_wp2_with fail
        refine (last_any _ _ _ _ _ hC).mono ?_
        rintro e wa ⟨rfl, hb⟩
        replace hC := ClkAt.on hC hb
        replace hR := ClkAt.on hR hb
        replace hX := SixRow.on hX hb
        replace hZ := CellAt.on hZ hb
        replace hS := thn hS hb
        clear hb
        go_wp2_with fail
        refine hK.out _ _ hZ (fun _ => ?_)
        clear hK
        refine wpAnyH_ready (rs := [5]) (by kernel_rfl) (by simp) ?_
        refine AllReadyH.cons (o := { dst := some 47, op := Go.Op.load 28 (Go.Operand.tmp 46), type := 28, pos := "more.go:49", after := #[{ on := 4, ground := Go.Ground.data }], guard := none }) rfl (fun K hK => ?_) (AllReadyH.nil)
        rw [if_pos (by kernel_rfl)]
        obtain ⟨q0, q1, q2⟩ := hR.cells
        go_wp2_with fail
        refine hK.out _ _ hZ (fun _ => ?_)
        clear hK q0 q1 q2
        refine wpAnyH_take (i := 6) (oi := { dst := some 48, op := Go.Op.binOp Go.BinOp.neq 28 (Go.Operand.tmp 43) (Go.Operand.tmp 47) 28, type := 4, pos := "more.go:49", after := #[{ on := 1, ground := Go.Ground.data }, { on := 5, ground := Go.Ground.data }], guard := none }) (v := .bool false) rfl (by kernel_rfl) (by kernel_rfl) (by kernel_rfl) (fun _ _ _ h => h) (.inl ⟨by kernel_rfl, fun W hW => by simp [execOp, go_sem]⟩) hZ ?_
        simp only [Act.put, List.setIfInBounds_toArray, List.set_cons_zero, List.set_cons_succ]
        refine wpAnyH_take (i := 7) (oi := { dst := some 49, op := Go.Op.move (Go.Operand.tmp 48), type := 4, pos := "more.go:49", after := #[{ on := 6, ground := Go.Ground.data }, { on := 1, ground := Go.Ground.chain }], guard := none }) (v := .bool false) rfl (by kernel_rfl) (by kernel_rfl) (by kernel_rfl) (fun _ _ _ h => h) (.inl ⟨by kernel_rfl, fun W hW => by go_simp⟩) hZ ?_
        simp only [Act.put, List.setIfInBounds_toArray, List.set_cons_zero, List.set_cons_succ]
        refine wpAnyH_take (i := 8) (oi := { dst := some 50, op := Go.Op.move (Go.Operand.tmp 8), type := 24, pos := "more.go:49", after := #[{ on := 7, ground := Go.Ground.guard }], guard := some (7, false) }) (v := .pointer (some ⟨cb, 0, none⟩)) rfl (by kernel_rfl) (by kernel_rfl) (by kernel_rfl) (fun _ _ _ h => h) (.inl ⟨by kernel_rfl, fun W hW => by go_simp⟩) hZ ?_
        simp only [Act.put, List.setIfInBounds_toArray, List.set_cons_zero, List.set_cons_succ]
        refine wpAnyH_take (i := 9) (oi := { dst := some 51, op := Go.Op.move (Go.Operand.tmp 7), type := 45, pos := "more.go:49", after := #[{ on := 7, ground := Go.Ground.guard }], guard := some (7, false) }) (v := .slice (some ⟨g, 0, none⟩) 6 6) rfl (by kernel_rfl) (by kernel_rfl) (by kernel_rfl) (fun _ _ _ h => h) (.inl ⟨by kernel_rfl, fun W hW => by go_simp⟩) hZ ?_
        simp only [Act.put, List.setIfInBounds_toArray, List.set_cons_zero, List.set_cons_succ]
        refine wpAnyH_take (i := 10) (oi := { dst := some 52, op := Go.Op.move (Go.Operand.tmp 0), type := 5, pos := "more.go:49", after := #[{ on := 7, ground := Go.Ground.guard }], guard := some (7, false) }) (v := .int .u8 k) rfl (by kernel_rfl) (by kernel_rfl) (by kernel_rfl) (fun _ _ _ h => h) (.inl ⟨by kernel_rfl, fun W hW => by go_simp⟩) hZ ?_
        simp only [Act.put, List.setIfInBounds_toArray, List.set_cons_zero, List.set_cons_succ]
        refine wpAnyH_take (i := 11) (oi := { dst := some 53, op := Go.Op.move (Go.Operand.tmp 1), type := 5, pos := "more.go:49", after := #[{ on := 7, ground := Go.Ground.guard }], guard := some (7, false) }) (v := .int .u8 j) rfl (by kernel_rfl) (by kernel_rfl) (by kernel_rfl) (fun _ _ _ h => h) (.inl ⟨by kernel_rfl, fun W hW => by go_simp⟩) hZ ?_
        simp only [Act.put, List.setIfInBounds_toArray, List.set_cons_zero, List.set_cons_succ]
        refine wpAnyH_take (i := 12) (oi := { dst := some 54, op := Go.Op.binOp Go.BinOp.add 5 (Go.Operand.tmp 52) (Go.Operand.tmp 53) 5, type := 5, pos := "more.go:49", after := #[{ on := 10, ground := Go.Ground.data }, { on := 11, ground := Go.Ground.data }, { on := 7, ground := Go.Ground.guard }], guard := some (7, false) }) (v := .int .u8 ((k + j) % 256)) rfl (by kernel_rfl) (by kernel_rfl) (by kernel_rfl) (fun _ _ _ h => h) (.inl ⟨by kernel_rfl, fun W hW => by simp [execOp, go_sem, e1]⟩) hZ ?_
        simp only [Act.put, List.setIfInBounds_toArray, List.set_cons_zero, List.set_cons_succ]
        refine wpAnyH_take (i := 13) (oi := { dst := some 55, op := Go.Op.binOp Go.BinOp.rem 5 (Go.Operand.tmp 54) (Go.Operand.const (Go.Value.int Go.IntKind.u8 6)) 5, type := 5, pos := "more.go:49", after := #[{ on := 12, ground := Go.Ground.data }, { on := 7, ground := Go.Ground.guard }], guard := some (7, false) }) (v := .int .u8 ((k + j) % 256 % 6)) rfl (by kernel_rfl) (by kernel_rfl) (by kernel_rfl) (fun _ _ _ h => h) (.inl ⟨by kernel_rfl, fun W hW => by simp [execOp, go_sem, e2]⟩) hZ ?_
        simp only [Act.put, List.setIfInBounds_toArray, List.set_cons_zero, List.set_cons_succ]
        refine wpAnyH_take (i := 14) (oi := { dst := some 56, op := Go.Op.indexAddr 45 (Go.Operand.tmp 51) (Go.Operand.tmp 55), type := 0, pos := "more.go:49", after := #[{ on := 9, ground := Go.Ground.data }, { on := 13, ground := Go.Ground.data }, { on := 7, ground := Go.Ground.guard }], guard := some (7, false) }) (v := .pointer (some ⟨g, ((k + j) % 256 % 6).toNat, none⟩)) rfl (by kernel_rfl) (by kernel_rfl) (by kernel_rfl) (fun _ _ _ h => h) (.inl ⟨by kernel_rfl, fun W hW => by simp [execOp, go_sem, e3, e4]⟩) hZ ?_
        simp only [Act.put, List.setIfInBounds_toArray, List.set_cons_zero, List.set_cons_succ]
        refine wpAnyH_take (i := 15) (oi := { dst := some 57, op := Go.Op.load 2 (Go.Operand.tmp 56), type := 2, pos := "more.go:49", after := #[{ on := 14, ground := Go.Ground.data }, { on := 7, ground := Go.Ground.guard }], guard := some (7, false) }) (v := .int .i64 z) rfl (by kernel_rfl) (by kernel_rfl) (by kernel_rfl) (fun _ _ _ h => h) (.inl ⟨by kernel_rfl, fun W hW => by simp [execOp, go_sem, hW.2]⟩) hZ ?_
        simp only [Act.put, List.setIfInBounds_toArray, List.set_cons_zero, List.set_cons_succ]
        refine wpAnyH_take (i := 17) (oi := { dst := some 59, op := Go.Op.move (Go.Operand.tmp 9), type := 26, pos := "more.go:49", after := #[{ on := 7, ground := Go.Ground.guard }], guard := some (7, false) }) (v := .pointer (some ⟨rb, 0, none⟩)) rfl (by kernel_rfl) (by kernel_rfl) (by kernel_rfl) (fun _ _ _ h => h) (.inl ⟨by kernel_rfl, fun W hW => by go_simp⟩) hZ ?_
        simp only [Act.put, List.setIfInBounds_toArray, List.set_cons_zero, List.set_cons_succ]
        refine wpAnyH_take (i := 18) (oi := { dst := some 60, op := Go.Op.move (Go.Operand.tmp 7), type := 45, pos := "more.go:49", after := #[{ on := 7, ground := Go.Ground.guard }], guard := some (7, false) }) (v := .slice (some ⟨g, 0, none⟩) 6 6) rfl (by kernel_rfl) (by kernel_rfl) (by kernel_rfl) (fun _ _ _ h => h) (.inl ⟨by kernel_rfl, fun W hW => by go_simp⟩) hZ ?_
        simp only [Act.put, List.setIfInBounds_toArray, List.set_cons_zero, List.set_cons_succ]
        refine wpAnyH_take (i := 19) (oi := { dst := some 61, op := Go.Op.move (Go.Operand.tmp 0), type := 5, pos := "more.go:49", after := #[{ on := 7, ground := Go.Ground.guard }], guard := some (7, false) }) (v := .int .u8 k) rfl (by kernel_rfl) (by kernel_rfl) (by kernel_rfl) (fun _ _ _ h => h) (.inl ⟨by kernel_rfl, fun W hW => by go_simp⟩) hZ ?_
        simp only [Act.put, List.setIfInBounds_toArray, List.set_cons_zero, List.set_cons_succ]
        refine wpAnyH_take (i := 20) (oi := { dst := some 62, op := Go.Op.move (Go.Operand.tmp 1), type := 5, pos := "more.go:49", after := #[{ on := 7, ground := Go.Ground.guard }], guard := some (7, false) }) (v := .int .u8 j) rfl (by kernel_rfl) (by kernel_rfl) (by kernel_rfl) (fun _ _ _ h => h) (.inl ⟨by kernel_rfl, fun W hW => by go_simp⟩) hZ ?_
        simp only [Act.put, List.setIfInBounds_toArray, List.set_cons_zero, List.set_cons_succ]
        refine wpAnyH_take (i := 21) (oi := { dst := some 63, op := Go.Op.binOp Go.BinOp.add 5 (Go.Operand.tmp 61) (Go.Operand.tmp 62) 5, type := 5, pos := "more.go:49", after := #[{ on := 19, ground := Go.Ground.data }, { on := 20, ground := Go.Ground.data }, { on := 7, ground := Go.Ground.guard }], guard := some (7, false) }) (v := .int .u8 ((k + j) % 256)) rfl (by kernel_rfl) (by kernel_rfl) (by kernel_rfl) (fun _ _ _ h => h) (.inl ⟨by kernel_rfl, fun W hW => by simp [execOp, go_sem, e1]⟩) hZ ?_
        simp only [Act.put, List.setIfInBounds_toArray, List.set_cons_zero, List.set_cons_succ]
        refine wpAnyH_take (i := 22) (oi := { dst := some 64, op := Go.Op.binOp Go.BinOp.rem 5 (Go.Operand.tmp 63) (Go.Operand.const (Go.Value.int Go.IntKind.u8 6)) 5, type := 5, pos := "more.go:49", after := #[{ on := 21, ground := Go.Ground.data }, { on := 7, ground := Go.Ground.guard }], guard := some (7, false) }) (v := .int .u8 ((k + j) % 256 % 6)) rfl (by kernel_rfl) (by kernel_rfl) (by kernel_rfl) (fun _ _ _ h => h) (.inl ⟨by kernel_rfl, fun W hW => by simp [execOp, go_sem, e2]⟩) hZ ?_
        simp only [Act.put, List.setIfInBounds_toArray, List.set_cons_zero, List.set_cons_succ]
        refine wpAnyH_take (i := 23) (oi := { dst := some 65, op := Go.Op.indexAddr 45 (Go.Operand.tmp 60) (Go.Operand.tmp 64), type := 0, pos := "more.go:49", after := #[{ on := 18, ground := Go.Ground.data }, { on := 22, ground := Go.Ground.data }, { on := 7, ground := Go.Ground.guard }], guard := some (7, false) }) (v := .pointer (some ⟨g, ((k + j) % 256 % 6).toNat, none⟩)) rfl (by kernel_rfl) (by kernel_rfl) (by kernel_rfl) (fun _ _ _ h => h) (.inl ⟨by kernel_rfl, fun W hW => by simp [execOp, go_sem, e3, e4]⟩) hZ ?_
        simp only [Act.put, List.setIfInBounds_toArray, List.set_cons_zero, List.set_cons_succ]
        refine wpAnyH_take (i := 24) (oi := { dst := some 66, op := Go.Op.load 2 (Go.Operand.tmp 65), type := 2, pos := "more.go:49", after := #[{ on := 23, ground := Go.Ground.data }, { on := 7, ground := Go.Ground.guard }], guard := some (7, false) }) (v := .int .i64 z) rfl (by kernel_rfl) (by kernel_rfl) (by kernel_rfl) (fun _ _ _ h => h) (.inl ⟨by kernel_rfl, fun W hW => by simp [execOp, go_sem, hW.2]⟩) hZ ?_
        simp only [Act.put, List.setIfInBounds_toArray, List.set_cons_zero, List.set_cons_succ]
        refine wpAnyH_ready (rs := [16]) (by kernel_rfl) (by simp) ?_
        refine AllReadyH.cons (o := { dst := some 58, op := Go.Op.call { callee := Go.Callee.value (Go.Operand.func 12), args := #[Go.Operand.tmp 50, Go.Operand.tmp 57], argTypes := #[24, 2] }, type := 28, pos := "more.go:49", after := #[{ on := 8, ground := Go.Ground.data }, { on := 15, ground := Go.Ground.data }, { on := 7, ground := Go.Ground.chain }, { on := 7, ground := Go.Ground.guard }], guard := some (7, false) }) rfl (fun K hK => ?_) (AllReadyH.nil)
        rw [if_pos (by kernel_rfl)]
        go_wp2_with fail
        refine (now_any _ _ _ _ _ _ hC hi).mono ?_
        rintro e wb ⟨rfl, ht, hk⟩
        replace hR := ClkAt.to hR ht hcr
        replace hX := SixRow.to hX ht hcg
        replace hZ := CellAt.to hZ ht hcg
        replace hS := hS.trans (ht.below.mono hwc)
        replace hC := hk
        clear ht hk
        go_wp2_with fail
        refine hK.out _ _ hZ (fun _ => ?_)
        clear hK
        refine wpAnyH_ready (rs := [25]) (by kernel_rfl) (by simp) ?_
        refine AllReadyH.cons (o := { dst := some 67, op := Go.Op.call { callee := Go.Callee.value (Go.Operand.func 13), args := #[Go.Operand.tmp 59, Go.Operand.tmp 66], argTypes := #[26, 2] }, type := 28, pos := "more.go:49", after := #[{ on := 17, ground := Go.Ground.data }, { on := 24, ground := Go.Ground.data }, { on := 16, ground := Go.Ground.chain }, { on := 7, ground := Go.Ground.guard }], guard := some (7, false) }) rfl (fun K hK => ?_) (AllReadyH.nil)
        rw [if_pos (by kernel_rfl)]
        go_wp2_with fail
        refine (rnow_any _ _ _ _ _ _ hR hi).mono ?_
        rintro e wc ⟨rfl, ht, hk⟩
        replace hC := ClkAt.to hC ht hcr.symm
        replace hX := SixRow.to hX ht hrg
        replace hZ := CellAt.to hZ ht hrg
        replace hS := hS.trans (ht.below.mono hwr)
        replace hR := hk
        clear ht hk
        go_wp2_with fail
        refine hK.out _ _ hZ (fun _ => ?_)
        clear hK
        refine wpAnyH_take (i := 26) (oi := { dst := some 68, op := Go.Op.binOp Go.BinOp.neq 28 (Go.Operand.tmp 58) (Go.Operand.tmp 67) 28, type := 4, pos := "more.go:49", after := #[{ on := 16, ground := Go.Ground.data }, { on := 25, ground := Go.Ground.data }, { on := 7, ground := Go.Ground.guard }], guard := some (7, false) }) (v := .bool false) rfl (by kernel_rfl) (by kernel_rfl) (by kernel_rfl) (fun _ _ _ h => h) (.inl ⟨by kernel_rfl, fun W hW => by simp [execOp, go_sem]⟩) hZ ?_
        simp only [Act.put, List.setIfInBounds_toArray, List.set_cons_zero, List.set_cons_succ]
        refine wpAnyH_take (i := 27) (oi := { dst := some 69, op := Go.Op.pick (Go.Operand.tmp 49) (Go.Operand.const (Go.Value.bool true)) (Go.Operand.tmp 68), type := 4, pos := "more.go:49", after := #[{ on := 7, ground := Go.Ground.data }, { on := 26, ground := Go.Ground.data }], guard := none }) (v := .bool false) rfl (by kernel_rfl) (by kernel_rfl) (by kernel_rfl) (fun _ _ _ h => h) (.inl ⟨by kernel_rfl, fun W hW => by go_simp⟩) hZ ?_
        simp only [Act.put, List.setIfInBounds_toArray, List.set_cons_zero, List.set_cons_succ]
        refine wpAnyH_done (by kernel_rfl) ?_ _
        have E2 : Hid (EndR w g cb rb wc) := Lib.hid ⟨_, _, now_in hi, hC, hR, hX, hS⟩
        clear hC hR hX hS hZ
        go_wp2_with fail
        go_roundw
        case rel => exact ⟨n + 1, by omega, by go_num, E2.out⟩
        case measure => simp [intOf]; omega
      · rw [if_pos (by kernel_rfl)]
        obtain ⟨q0, q1, q2⟩ := hR.cells
        go_wp2_with fail
        refine hK.out _ _ hZ (fun _ => ?_)
        clear hK q0 q1 q2
        refine wpAnyH_ready (rs := [1]) (by kernel_rfl) (by simp) ?_
        refine AllReadyH.cons (o := { dst := some 43, op := Go.Op.call { callee := Go.Callee.value (Go.Operand.func 14), args := #[Go.Operand.tmp 42], argTypes := #[24] }, type := 28, pos := "more.go:49", after := #[{ on := 0, ground := Go.Ground.data }], guard := none }) rfl (fun K hK => ?_) (AllReadyH.nil)
        rw [if_pos (by kernel_rfl)]
        go_wp2_with fail
        refine (last_any _ _ _ _ _ hC).mono ?_
        rintro e wa ⟨rfl, hb⟩
        replace hC := ClkAt.on hC hb
        replace hR := ClkAt.on hR hb
        replace hX := SixRow.on hX hb
        replace hZ := CellAt.on hZ hb
        replace hS := thn hS hb
        clear hb
        go_wp2_with fail
        refine hK.out _ _ hZ (fun _ => ?_)
        clear hK
        refine wpAnyH_take (i := 6) (oi := { dst := some 48, op := Go.Op.binOp Go.BinOp.neq 28 (Go.Operand.tmp 43) (Go.Operand.tmp 47) 28, type := 4, pos := "more.go:49", after := #[{ on := 1, ground := Go.Ground.data }, { on := 5, ground := Go.Ground.data }], guard := none }) (v := .bool false) rfl (by kernel_rfl) (by kernel_rfl) (by kernel_rfl) (fun _ _ _ h => h) (.inl ⟨by kernel_rfl, fun W hW => by simp [execOp, go_sem]⟩) hZ ?_
        simp only [Act.put, List.setIfInBounds_toArray, List.set_cons_zero, List.set_cons_succ]
        refine wpAnyH_take (i := 7) (oi := { dst := some 49, op := Go.Op.move (Go.Operand.tmp 48), type := 4, pos := "more.go:49", after := #[{ on := 6, ground := Go.Ground.data }, { on := 1, ground := Go.Ground.chain }], guard := none }) (v := .bool false) rfl (by kernel_rfl) (by kernel_rfl) (by kernel_rfl) (fun _ _ _ h => h) (.inl ⟨by kernel_rfl, fun W hW => by go_simp⟩) hZ ?_
        simp only [Act.put, List.setIfInBounds_toArray, List.set_cons_zero, List.set_cons_succ]
        refine wpAnyH_take (i := 8) (oi := { dst := some 50, op := Go.Op.move (Go.Operand.tmp 8), type := 24, pos := "more.go:49", after := #[{ on := 7, ground := Go.Ground.guard }], guard := some (7, false) }) (v := .pointer (some ⟨cb, 0, none⟩)) rfl (by kernel_rfl) (by kernel_rfl) (by kernel_rfl) (fun _ _ _ h => h) (.inl ⟨by kernel_rfl, fun W hW => by go_simp⟩) hZ ?_
        simp only [Act.put, List.setIfInBounds_toArray, List.set_cons_zero, List.set_cons_succ]
        refine wpAnyH_take (i := 9) (oi := { dst := some 51, op := Go.Op.move (Go.Operand.tmp 7), type := 45, pos := "more.go:49", after := #[{ on := 7, ground := Go.Ground.guard }], guard := some (7, false) }) (v := .slice (some ⟨g, 0, none⟩) 6 6) rfl (by kernel_rfl) (by kernel_rfl) (by kernel_rfl) (fun _ _ _ h => h) (.inl ⟨by kernel_rfl, fun W hW => by go_simp⟩) hZ ?_
        simp only [Act.put, List.setIfInBounds_toArray, List.set_cons_zero, List.set_cons_succ]
        refine wpAnyH_take (i := 10) (oi := { dst := some 52, op := Go.Op.move (Go.Operand.tmp 0), type := 5, pos := "more.go:49", after := #[{ on := 7, ground := Go.Ground.guard }], guard := some (7, false) }) (v := .int .u8 k) rfl (by kernel_rfl) (by kernel_rfl) (by kernel_rfl) (fun _ _ _ h => h) (.inl ⟨by kernel_rfl, fun W hW => by go_simp⟩) hZ ?_
        simp only [Act.put, List.setIfInBounds_toArray, List.set_cons_zero, List.set_cons_succ]
        refine wpAnyH_take (i := 11) (oi := { dst := some 53, op := Go.Op.move (Go.Operand.tmp 1), type := 5, pos := "more.go:49", after := #[{ on := 7, ground := Go.Ground.guard }], guard := some (7, false) }) (v := .int .u8 j) rfl (by kernel_rfl) (by kernel_rfl) (by kernel_rfl) (fun _ _ _ h => h) (.inl ⟨by kernel_rfl, fun W hW => by go_simp⟩) hZ ?_
        simp only [Act.put, List.setIfInBounds_toArray, List.set_cons_zero, List.set_cons_succ]
        refine wpAnyH_take (i := 12) (oi := { dst := some 54, op := Go.Op.binOp Go.BinOp.add 5 (Go.Operand.tmp 52) (Go.Operand.tmp 53) 5, type := 5, pos := "more.go:49", after := #[{ on := 10, ground := Go.Ground.data }, { on := 11, ground := Go.Ground.data }, { on := 7, ground := Go.Ground.guard }], guard := some (7, false) }) (v := .int .u8 ((k + j) % 256)) rfl (by kernel_rfl) (by kernel_rfl) (by kernel_rfl) (fun _ _ _ h => h) (.inl ⟨by kernel_rfl, fun W hW => by simp [execOp, go_sem, e1]⟩) hZ ?_
        simp only [Act.put, List.setIfInBounds_toArray, List.set_cons_zero, List.set_cons_succ]
        refine wpAnyH_take (i := 13) (oi := { dst := some 55, op := Go.Op.binOp Go.BinOp.rem 5 (Go.Operand.tmp 54) (Go.Operand.const (Go.Value.int Go.IntKind.u8 6)) 5, type := 5, pos := "more.go:49", after := #[{ on := 12, ground := Go.Ground.data }, { on := 7, ground := Go.Ground.guard }], guard := some (7, false) }) (v := .int .u8 ((k + j) % 256 % 6)) rfl (by kernel_rfl) (by kernel_rfl) (by kernel_rfl) (fun _ _ _ h => h) (.inl ⟨by kernel_rfl, fun W hW => by simp [execOp, go_sem, e2]⟩) hZ ?_
        simp only [Act.put, List.setIfInBounds_toArray, List.set_cons_zero, List.set_cons_succ]
        refine wpAnyH_take (i := 14) (oi := { dst := some 56, op := Go.Op.indexAddr 45 (Go.Operand.tmp 51) (Go.Operand.tmp 55), type := 0, pos := "more.go:49", after := #[{ on := 9, ground := Go.Ground.data }, { on := 13, ground := Go.Ground.data }, { on := 7, ground := Go.Ground.guard }], guard := some (7, false) }) (v := .pointer (some ⟨g, ((k + j) % 256 % 6).toNat, none⟩)) rfl (by kernel_rfl) (by kernel_rfl) (by kernel_rfl) (fun _ _ _ h => h) (.inl ⟨by kernel_rfl, fun W hW => by simp [execOp, go_sem, e3, e4]⟩) hZ ?_
        simp only [Act.put, List.setIfInBounds_toArray, List.set_cons_zero, List.set_cons_succ]
        refine wpAnyH_take (i := 15) (oi := { dst := some 57, op := Go.Op.load 2 (Go.Operand.tmp 56), type := 2, pos := "more.go:49", after := #[{ on := 14, ground := Go.Ground.data }, { on := 7, ground := Go.Ground.guard }], guard := some (7, false) }) (v := .int .i64 z) rfl (by kernel_rfl) (by kernel_rfl) (by kernel_rfl) (fun _ _ _ h => h) (.inl ⟨by kernel_rfl, fun W hW => by simp [execOp, go_sem, hW.2]⟩) hZ ?_
        simp only [Act.put, List.setIfInBounds_toArray, List.set_cons_zero, List.set_cons_succ]
        refine wpAnyH_take (i := 17) (oi := { dst := some 59, op := Go.Op.move (Go.Operand.tmp 9), type := 26, pos := "more.go:49", after := #[{ on := 7, ground := Go.Ground.guard }], guard := some (7, false) }) (v := .pointer (some ⟨rb, 0, none⟩)) rfl (by kernel_rfl) (by kernel_rfl) (by kernel_rfl) (fun _ _ _ h => h) (.inl ⟨by kernel_rfl, fun W hW => by go_simp⟩) hZ ?_
        simp only [Act.put, List.setIfInBounds_toArray, List.set_cons_zero, List.set_cons_succ]
        refine wpAnyH_take (i := 18) (oi := { dst := some 60, op := Go.Op.move (Go.Operand.tmp 7), type := 45, pos := "more.go:49", after := #[{ on := 7, ground := Go.Ground.guard }], guard := some (7, false) }) (v := .slice (some ⟨g, 0, none⟩) 6 6) rfl (by kernel_rfl) (by kernel_rfl) (by kernel_rfl) (fun _ _ _ h => h) (.inl ⟨by kernel_rfl, fun W hW => by go_simp⟩) hZ ?_
        simp only [Act.put, List.setIfInBounds_toArray, List.set_cons_zero, List.set_cons_succ]
        refine wpAnyH_take (i := 19) (oi := { dst := some 61, op := Go.Op.move (Go.Operand.tmp 0), type := 5, pos := "more.go:49", after := #[{ on := 7, ground := Go.Ground.guard }], guard := some (7, false) }) (v := .int .u8 k) rfl (by kernel_rfl) (by kernel_rfl) (by kernel_rfl) (fun _ _ _ h => h) (.inl ⟨by kernel_rfl, fun W hW => by go_simp⟩) hZ ?_
        simp only [Act.put, List.setIfInBounds_toArray, List.set_cons_zero, List.set_cons_succ]
        refine wpAnyH_take (i := 20) (oi := { dst := some 62, op := Go.Op.move (Go.Operand.tmp 1), type := 5, pos := "more.go:49", after := #[{ on := 7, ground := Go.Ground.guard }], guard := some (7, false) }) (v := .int .u8 j) rfl (by kernel_rfl) (by kernel_rfl) (by kernel_rfl) (fun _ _ _ h => h) (.inl ⟨by kernel_rfl, fun W hW => by go_simp⟩) hZ ?_
        simp only [Act.put, List.setIfInBounds_toArray, List.set_cons_zero, List.set_cons_succ]
        refine wpAnyH_take (i := 21) (oi := { dst := some 63, op := Go.Op.binOp Go.BinOp.add 5 (Go.Operand.tmp 61) (Go.Operand.tmp 62) 5, type := 5, pos := "more.go:49", after := #[{ on := 19, ground := Go.Ground.data }, { on := 20, ground := Go.Ground.data }, { on := 7, ground := Go.Ground.guard }], guard := some (7, false) }) (v := .int .u8 ((k + j) % 256)) rfl (by kernel_rfl) (by kernel_rfl) (by kernel_rfl) (fun _ _ _ h => h) (.inl ⟨by kernel_rfl, fun W hW => by simp [execOp, go_sem, e1]⟩) hZ ?_
        simp only [Act.put, List.setIfInBounds_toArray, List.set_cons_zero, List.set_cons_succ]
        refine wpAnyH_take (i := 22) (oi := { dst := some 64, op := Go.Op.binOp Go.BinOp.rem 5 (Go.Operand.tmp 63) (Go.Operand.const (Go.Value.int Go.IntKind.u8 6)) 5, type := 5, pos := "more.go:49", after := #[{ on := 21, ground := Go.Ground.data }, { on := 7, ground := Go.Ground.guard }], guard := some (7, false) }) (v := .int .u8 ((k + j) % 256 % 6)) rfl (by kernel_rfl) (by kernel_rfl) (by kernel_rfl) (fun _ _ _ h => h) (.inl ⟨by kernel_rfl, fun W hW => by simp [execOp, go_sem, e2]⟩) hZ ?_
        simp only [Act.put, List.setIfInBounds_toArray, List.set_cons_zero, List.set_cons_succ]
        refine wpAnyH_take (i := 23) (oi := { dst := some 65, op := Go.Op.indexAddr 45 (Go.Operand.tmp 60) (Go.Operand.tmp 64), type := 0, pos := "more.go:49", after := #[{ on := 18, ground := Go.Ground.data }, { on := 22, ground := Go.Ground.data }, { on := 7, ground := Go.Ground.guard }], guard := some (7, false) }) (v := .pointer (some ⟨g, ((k + j) % 256 % 6).toNat, none⟩)) rfl (by kernel_rfl) (by kernel_rfl) (by kernel_rfl) (fun _ _ _ h => h) (.inl ⟨by kernel_rfl, fun W hW => by simp [execOp, go_sem, e3, e4]⟩) hZ ?_
        simp only [Act.put, List.setIfInBounds_toArray, List.set_cons_zero, List.set_cons_succ]
        refine wpAnyH_take (i := 24) (oi := { dst := some 66, op := Go.Op.load 2 (Go.Operand.tmp 65), type := 2, pos := "more.go:49", after := #[{ on := 23, ground := Go.Ground.data }, { on := 7, ground := Go.Ground.guard }], guard := some (7, false) }) (v := .int .i64 z) rfl (by kernel_rfl) (by kernel_rfl) (by kernel_rfl) (fun _ _ _ h => h) (.inl ⟨by kernel_rfl, fun W hW => by simp [execOp, go_sem, hW.2]⟩) hZ ?_
        simp only [Act.put, List.setIfInBounds_toArray, List.set_cons_zero, List.set_cons_succ]
        refine wpAnyH_ready (rs := [16]) (by kernel_rfl) (by simp) ?_
        refine AllReadyH.cons (o := { dst := some 58, op := Go.Op.call { callee := Go.Callee.value (Go.Operand.func 12), args := #[Go.Operand.tmp 50, Go.Operand.tmp 57], argTypes := #[24, 2] }, type := 28, pos := "more.go:49", after := #[{ on := 8, ground := Go.Ground.data }, { on := 15, ground := Go.Ground.data }, { on := 7, ground := Go.Ground.chain }, { on := 7, ground := Go.Ground.guard }], guard := some (7, false) }) rfl (fun K hK => ?_) (AllReadyH.nil)
        rw [if_pos (by kernel_rfl)]
        go_wp2_with fail
        refine (now_any _ _ _ _ _ _ hC hi).mono ?_
        rintro e wb ⟨rfl, ht, hk⟩
        replace hR := ClkAt.to hR ht hcr
        replace hX := SixRow.to hX ht hcg
        replace hZ := CellAt.to hZ ht hcg
        replace hS := hS.trans (ht.below.mono hwc)
        replace hC := hk
        clear ht hk
        go_wp2_with fail
        refine hK.out _ _ hZ (fun _ => ?_)
        clear hK
        refine wpAnyH_ready (rs := [25]) (by kernel_rfl) (by simp) ?_
        refine AllReadyH.cons (o := { dst := some 67, op := Go.Op.call { callee := Go.Callee.value (Go.Operand.func 13), args := #[Go.Operand.tmp 59, Go.Operand.tmp 66], argTypes := #[26, 2] }, type := 28, pos := "more.go:49", after := #[{ on := 17, ground := Go.Ground.data }, { on := 24, ground := Go.Ground.data }, { on := 16, ground := Go.Ground.chain }, { on := 7, ground := Go.Ground.guard }], guard := some (7, false) }) rfl (fun K hK => ?_) (AllReadyH.nil)
        rw [if_pos (by kernel_rfl)]
        go_wp2_with fail
        refine (rnow_any _ _ _ _ _ _ hR hi).mono ?_
        rintro e wc ⟨rfl, ht, hk⟩
        replace hC := ClkAt.to hC ht hcr.symm
        replace hX := SixRow.to hX ht hrg
        replace hZ := CellAt.to hZ ht hrg
        replace hS := hS.trans (ht.below.mono hwr)
        replace hR := hk
        clear ht hk
        go_wp2_with fail
        refine hK.out _ _ hZ (fun _ => ?_)
        clear hK
        refine wpAnyH_take (i := 26) (oi := { dst := some 68, op := Go.Op.binOp Go.BinOp.neq 28 (Go.Operand.tmp 58) (Go.Operand.tmp 67) 28, type := 4, pos := "more.go:49", after := #[{ on := 16, ground := Go.Ground.data }, { on := 25, ground := Go.Ground.data }, { on := 7, ground := Go.Ground.guard }], guard := some (7, false) }) (v := .bool false) rfl (by kernel_rfl) (by kernel_rfl) (by kernel_rfl) (fun _ _ _ h => h) (.inl ⟨by kernel_rfl, fun W hW => by simp [execOp, go_sem]⟩) hZ ?_
        simp only [Act.put, List.setIfInBounds_toArray, List.set_cons_zero, List.set_cons_succ]
        refine wpAnyH_take (i := 27) (oi := { dst := some 69, op := Go.Op.pick (Go.Operand.tmp 49) (Go.Operand.const (Go.Value.bool true)) (Go.Operand.tmp 68), type := 4, pos := "more.go:49", after := #[{ on := 7, ground := Go.Ground.data }, { on := 26, ground := Go.Ground.data }], guard := none }) (v := .bool false) rfl (by kernel_rfl) (by kernel_rfl) (by kernel_rfl) (fun _ _ _ h => h) (.inl ⟨by kernel_rfl, fun W hW => by go_simp⟩) hZ ?_
        simp only [Act.put, List.setIfInBounds_toArray, List.set_cons_zero, List.set_cons_succ]
        refine wpAnyH_done (by kernel_rfl) ?_ _
        have E2 : Hid (EndR w g cb rb wc) := Lib.hid ⟨_, _, now_in hi, hC, hR, hX, hS⟩
        clear hC hR hX hS hZ
        go_wp2_with fail
        go_roundw
        case rel => exact ⟨n + 1, by omega, by go_num, E2.out⟩
        case measure => simp [intOf]; omega
    · obtain ⟨l, c, hi, hC, hR, hX, hS⟩ := E.out
      clear E hC hR hX
      go_wp2_with fail
      go_ret
      exact ⟨rfl, hS⟩
end Go.Proofs.Ytedlgaajiofdjaa
