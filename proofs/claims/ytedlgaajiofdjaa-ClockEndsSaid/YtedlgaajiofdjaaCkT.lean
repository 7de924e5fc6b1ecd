/- The law ClockTwo: its walk. -/
import Derived.Test.YtedlgaajiofdjaaCkR
import Derived.Laws.BitsAllLaws
namespace Go.Proofs.Ytedlgaajiofdjaa
open Go.RowKit Go.Lib
set_option linter.unusedVariables false

/-- Words of sixteen bits behind a slice. -/
def U16At (w : World) (A : Option Addr) (n : Nat) : Prop :=
  ∀ i, i < n → ∃ (x : Addr) (v : Int), A = some x ∧ x.block < w.heap.size ∧ 0 ≤ v ∧ v ≤ 65535 ∧ w.cell? (x.add i) = some (.int .u16 v)
theorem U16At.on {w w' : World} {A : Option Addr} {n : Nat} (h : U16At w A n) (k : Below w.heap.size w w') : U16At w' A n := by
  intro i hi
  obtain ⟨x, v, hA, hx, h0, h1, hc⟩ := h i hi
  exact ⟨x, v, hA, Nat.lt_of_lt_of_le hx k.size, h0, h1, (k.cell (p := x.add i) (by rw [add_blk]; exact hx)).trans hc⟩
theorem and16a {v : Int} (h0 : 0 ≤ v) (h1 : v ≤ 65535) : bits .and .u16 v 1 = v % 2 := by
  rw [u16_and v 1 h0 (by omega) (by omega) (by omega)]
  show ((v.toNat &&& 1 : Nat) : Int) = _
  rw [nat_mask1]; omega
theorem and16b {v : Int} (h0 : 0 ≤ v) (h1 : v ≤ 65535) : bits .and .u16 (v / 2) 3 = v / 2 % 4 := by
  rw [u16_and (v / 2) 3 (by omega) (by omega) (by omega) (by omega)]
  show (((v / 2).toNat &&& 3 : Nat) : Int) = _
  rw [nat_mask2]; omega
theorem and16c {v : Int} (h0 : 0 ≤ v) (h1 : v ≤ 65535) : bits .and .u16 (v / 8) 1 = v / 8 % 2 := by
  rw [u16_and (v / 8) 1 (by omega) (by omega) (by omega) (by omega)]
  show (((v / 8).toNat &&& 1 : Nat) : Int) = _
  rw [nat_mask1]; omega
def TwoI (n wall l0 c0 l1 c1 : Int) : Prop := 0 ≤ n ∧ n ≤ 60 ∧ 0 ≤ wall ∧ wall ≤ 3 * n ∧ 0 ≤ l0 ∧ l0 ≤ wall ∧ 0 ≤ c0 ∧ c0 ≤ 3 * n ∧ 0 ≤ l1 ∧ l1 ≤ wall ∧ 0 ≤ c1 ∧ c1 ≤ 3 * n
theorem two_now {wall l c m : Int} (hw : 0 ≤ wall ∧ wall ≤ 200) (hl : 0 ≤ l ∧ l ≤ wall) (hc : 0 ≤ c ∧ c ≤ m) (hm : m ≤ 1000) :
    nowL wall l c = wall ∧ 0 ≤ nowC wall l c ∧ nowC wall l c ≤ m + 1 ∧ (l = wall → c < nowC wall l c) := by
  unfold nowL nowC
  rw [heldI_mid hw.1 (by omega)]
  by_cases q : l < wall
  · rw [if_pos q, if_pos q]; omega
  · rw [if_neg q, if_neg q, if_pos (show c < 4611686018427387904 by omega), if_pos (show c < 4611686018427387904 by omega)]; omega
theorem two_see {wall l c y m : Int} (hw : 0 ≤ wall ∧ wall ≤ 200) (hl : 0 ≤ l ∧ l ≤ wall) (hc : 0 ≤ c ∧ c ≤ m) (hy : 0 ≤ y ∧ y ≤ m) (hm : m ≤ 1000) :
    seeL l (heldI wall) (heldI wall) = wall ∧ y < seeC l c (heldI wall) (heldI y) (heldI wall) ∧ seeC l c (heldI wall) (heldI y) (heldI wall) ≤ m + 1 := by
  rw [heldI_mid hw.1 (by omega), heldI_mid hy.1 (by omega)]
  have k1 : capI (c + 1) = c + 1 := by unfold capI; rw [if_neg (by omega)]
  have k2 : capI (y + 1) = y + 1 := by unfold capI; rw [if_neg (by omega)]
  rcases see_ways l c wall y wall with ⟨a, b, r, t⟩ | ⟨a, b, r, t⟩ | ⟨a, b, r, t⟩ | ⟨a, b, d, r, t⟩ | ⟨a, b, d, r, t⟩ <;> rw [r, t] <;> (try rw [k1]) <;> (try rw [k2]) <;> omega
def TwoR (w : World) (ab b0 b1 : Nat) (n wall : Int) (W : World) : Prop :=
  ∃ l0 c0 l1 c1 : Int, TwoI n wall l0 c0 l1 c1 ∧ ClkAt W 48 b0 l0 c0 0 ∧ ClkAt W 48 b1 l1 c1 1 ∧ W.heap[ab]? = some (.cells #[.pointer (some ⟨b0, 0, none⟩), .pointer (some ⟨b1, 0, none⟩)] 41) ∧ Below w.heap.size w W

set_option maxRecDepth 100000 in
set_option maxHeartbeats 8000000 in
theorem ctwo_walk (A : Option Addr) (len cap : Nat) (hm : len ≤ 9223372036854775807) (w : World) (hA : U16At w A len) :
    Calls Try.prog 6 #[.slice A len cap] w fun e w' => e = .returned (.bool true) ∧ Below w.heap.size w w' := by
  have HA := Lib.hid hA
  clear hA
  by_cases h60 : 60 < len
  · go_enter Try.func6, Try.ntmps6
    go_wp2_with fail
    refine (known_any _).mono ?_
    rintro e w1 ⟨rfl, hb⟩
    go_wp2_with fail
    go_ret
    exact ⟨rfl, hb⟩
  · go_enter Try.func6, Try.ntmps6
    go_wp2_with fail
    refine (known_any _).mono ?_
    rintro e w1 ⟨rfl, hb⟩
    have B1 := Lib.hid hb
    clear hb
    go_wp2_with fail
    have hA0 := row_new w1 (.cells #[.pointer none, .pointer none] 41)
    have hS0 := alB B1.out (.cells #[.pointer none, .pointer none] 41)
    have hsz0 : w1.heap.size < (w1.alloc (.cells #[.pointer none, .pointer none] 41)).heap.size := by simp
    have hwa := B1.out.size
    clear B1
    generalize w1.alloc (.cells #[.pointer none, .pointer none] 41) = W2 at *
    generalize w1.heap.size = ab at *
    refine (new_any 0 W2).mono ?_
    rintro e w3 ⟨rfl, hb, hs, hk⟩
    have K3 := Lib.hid hk
    have A3 := Lib.hid (row_on hA0 hb)
    have B3 := Lib.hid (thn hS0 hb)
    clear hA0 hS0 hb hk
    generalize W2.heap.size = b0 at *
    go_wp2_with fail
    refine (new_any 1 w3).mono ?_
    rintro e w4 ⟨rfl, hb, hs2, hk⟩
    have hA4 := row_on A3.out hb
    have K4 := Lib.hid hk
    have K5 := Lib.hid (K3.out.on hb)
    have A4 := Lib.hid hA4
    have B4 := Lib.hid (thn B3.out hb)
    have x0 := cell_row hA4 0
    have x1 := cell_row hA4 1
    have y0 := frozen_row hA4 0
    have y1 := frozen_row hA4 1
    clear hb hk hA4 K3 A3 B3
    generalize w3.heap.size = b1 at *
    have R0 : Hid (TwoR w ab b0 b1 0 0 ((w4.setCell ⟨ab, 0, none⟩ (.pointer (some ⟨b0, 0, none⟩))).setCell ⟨ab, 1, none⟩ (.pointer (some ⟨b1, 0, none⟩)))) := Lib.hid ⟨0, 0, 0, 0, by unfold TwoI; omega, row_other (row_other K5.out _ 0 _ (by omega)) _ 1 _ (by omega), row_other (row_other K4.out _ 0 _ (by omega)) _ 1 _ (by omega), row_set (row_set A4.out 0 _) 1 _, (B4.out.setCell (p := ⟨ab, 0, none⟩) hwa _).setCell (p := ⟨ab, 1, none⟩) hwa _⟩
    clear K4 K5 A4 B4
    go_wp2_with fail
    clear x0 x1 y0 y1
    generalize ((w4.setCell ⟨ab, 0, none⟩ (.pointer (some ⟨b0, 0, none⟩))).setCell ⟨ab, 1, none⟩ (.pointer (some ⟨b1, 0, none⟩))) = W5 at *
    go_loopw [4, 5] (fun u i wr => ∃ (n : Nat) (wall : Int), n ≤ len ∧ i = .int .i64 n ∧ u = .int .i64 wall ∧ TwoR w ab b0 b1 n wall wr) (fun _ i _ => len - (intOf i).toNat)
    case atStart =>
      exact ⟨0, 0, by omega, rfl, rfl, R0.out⟩
    case round =>
      obtain ⟨n, wall, hn, rfl, rfl, hE⟩ := hrel
      have E := Lib.hid hE
      clear hE R0
      by_cases hlt : n < len
      · obtain ⟨l0, c0, l1, c1, hI, hC, hD, hR, hS⟩ := E.out
        clear E
        obtain ⟨x, v, rfl, hx, hv0, hv1, hvw⟩ := HA.out n hlt
        have HV := Lib.hid hvw
        have hv := (hS.cell (p := x.add n) (by rw [add_blk]; exact hx)).trans hvw
        clear hvw
        have a1 : b0 ≠ b1 := by omega
        have a2 : b0 ≠ ab := by omega
        have a3 : b1 ≠ ab := by omega
        have hI2 := hI
        unfold TwoI at hI2
        have I := Lib.hid hI
        clear hI
        have p0 := cell_row hR 0
        have p1 := cell_row hR 1
        have m2 := and16b hv0 hv1
        have hq : 0 ≤ v / 2 % 4 ∧ v / 2 % 4 ≤ 3 := by omega
        have hz : v % 2 = 0 ∨ v % 2 = 1 := by omega
        have hr : v / 8 % 2 = 0 ∨ v / 8 % 2 = 1 := by omega
        generalize v / 2 % 4 = q at *
        obtain ⟨wl, hwl⟩ : ∃ wl, wall + q = wl := ⟨_, rfl⟩
        have hw1 : wall ≤ wl := by omega
        have hw2 : wl ≤ wall + 3 := by omega
        have hw3 : wl ≤ 3 * n + 3 := by omega
        rcases hz with hz | hz <;> rcases hr with hr | hr
        · have m1 : bits .and .u16 v 1 = 0 := by rw [and16a hv0 hv1]; exact hz
          have m3 : bits .and .u16 (v / 8) 1 = 0 := by rw [and16c hv0 hv1]; exact hr
          have N := now_any b0 wl l0 c0 0 wr hC (by unfold In; omega)
          obtain ⟨k1, k2, k3, k4⟩ := two_now (wall := wl) (l := l0) (c := c0) (m := 3 * n) (by omega) (by omega) (by omega) (by omega)
          rw [k1] at N
          generalize nowC wl l0 c0 = cc at *
          clear k1 k4 hz hr
          go_wp2_with fail
          refine N.mono ?_
          rintro e w5 ⟨rfl, ht, hk⟩
          clear N p0 p1 hv
          replace hD := ClkAt.to hD ht a1
          replace hR := row_to hR ht a2
          replace hS := hS.trans (ht.below.mono (by omega))
          replace hC := hk
          clear ht hk
          have hlt5 := ClkAt.lt hC
          have hv := ((alB hS (.cells #[.int .i64 wl, .int .i64 cc, .int .i64 0] 28)).cell (p := x.add n) (by rw [add_blk]; exact hx)).trans HV.out
          have E2 : Hid (TwoR w ab b0 b1 ((n : Int) + 1) wl (w5.alloc (.cells #[.int .i64 wl, .int .i64 cc, .int .i64 0] 28))) := Lib.hid ⟨_, _, _, _, (show TwoI ((n : Int) + 1) wl wl cc l1 c1 by unfold TwoI; omega), row_keep hC _, row_keep hD _, row_keep hR _, alB hS _⟩
          clear hC hD hR hS
          go_wp2_with fail
          go_roundw
          case rel => exact ⟨n + 1, wl, by omega, by go_num, rfl, by simpa using E2.out⟩
          case measure => simp [intOf]; omega
        · have m1 : bits .and .u16 v 1 = 0 := by rw [and16a hv0 hv1]; exact hz
          have m3 : bits .and .u16 (v / 8) 1 = 1 := by rw [and16c hv0 hv1]; exact hr
          have N := now_any b0 wl l0 c0 0 wr hC (by unfold In; omega)
          obtain ⟨k1, k2, k3, k4⟩ := two_now (wall := wl) (l := l0) (c := c0) (m := 3 * n) (by omega) (by omega) (by omega) (by omega)
          rw [k1] at N
          generalize nowC wl l0 c0 = cc at *
          clear k1 k4 hz hr
          go_wp2_with fail
          refine N.mono ?_
          rintro e w5 ⟨rfl, ht, hk⟩
          clear N p0 p1 hv
          replace hD := ClkAt.to hD ht a1
          replace hR := row_to hR ht a2
          replace hS := hS.trans (ht.below.mono (by omega))
          replace hC := hk
          clear ht hk
          have hlt5 := ClkAt.lt hC
          have hv := ((alB hS (.cells #[.int .i64 wl, .int .i64 cc, .int .i64 0] 28)).cell (p := x.add n) (by rw [add_blk]; exact hx)).trans HV.out
          have hT : ClkAt (w5.alloc (.cells #[.int .i64 wl, .int .i64 cc, .int .i64 0] 28)) 28 w5.heap.size wl cc 0 := ClkAt.new _ _ _ _ _
          have hC : ClkAt (w5.alloc (.cells #[.int .i64 wl, .int .i64 cc, .int .i64 0] 28)) 48 b0 wl cc 0 := row_keep hC _
          have hD : ClkAt (w5.alloc (.cells #[.int .i64 wl, .int .i64 cc, .int .i64 0] 28)) 48 b1 l1 c1 1 := row_keep hD _
          have hR : (w5.alloc (.cells #[.int .i64 wl, .int .i64 cc, .int .i64 0] 28)).heap[ab]? = some (.cells #[.pointer (some ⟨b0, 0, none⟩), .pointer (some ⟨b1, 0, none⟩)] 41) := row_keep hR _
          have hS : Below w.heap.size w (w5.alloc (.cells #[.int .i64 wl, .int .i64 cc, .int .i64 0] 28)) := alB hS _
          have hb5 : b0 < w5.heap.size := hlt5
          have hb6 : b1 < w5.heap.size := ClkAt.lt (by assumption : ClkAt w5 48 b1 _ _ 1)
          have hb7 : ab < w5.heap.size := by omega
          go_wp2_with fail
          clear hv
          generalize (w5.alloc (.cells #[.int .i64 wl, .int .i64 cc, .int .i64 0] 28)) = X at *
          generalize w5.heap.size = tb at *
          have hZ : X.heap[ab]? = some (.cells #[.pointer (some ⟨b0, 0, none⟩), .pointer (some ⟨b1, 0, none⟩)] 41) ∧ ClkAt X 28 tb wl cc 0 := ⟨hR, hT⟩
          have hC : ClkAt X.drew 48 b0 wl cc 0 := hC
          have hD : ClkAt X.drew 48 b1 l1 c1 1 := hD
          have hS : Below w.heap.size w X.drew := hS.drew
          refine wp_region_held_drew (S := (fun W => W.heap[ab]? = some (.cells #[.pointer (some ⟨b0, 0, none⟩), .pointer (some ⟨b1, 0, none⟩)] 41) ∧ ClkAt W 28 tb wl cc 0)) (by rfl) hZ ?_
          intro hZ
          refine wpAnyH_take (i := 0) (oi := { dst := some 51, op := Go.Op.move (Go.Operand.tmp 6), type := 3, pos := "more.go:25", after := #[], guard := none }) (v := .int .i64 0) rfl (by kernel_rfl) (by kernel_rfl) (by kernel_rfl) (fun _ _ _ h => h) (.inl ⟨by kernel_rfl, fun W hW => by go_simp⟩) hZ ?_
          simp only [Act.put, List.setIfInBounds_toArray, List.set_cons_zero, List.set_cons_succ]
          refine wpAnyH_take (i := 1) (oi := { dst := some 52, op := Go.Op.binOp Go.BinOp.sub 3 (Go.Operand.const (Go.Value.int Go.IntKind.i64 1)) (Go.Operand.tmp 51) 3, type := 3, pos := "more.go:25", after := #[{ on := 0, ground := Go.Ground.data }], guard := none }) (v := .int .i64 1) rfl (by kernel_rfl) (by kernel_rfl) (by kernel_rfl) (fun _ _ _ h => h) (.inl ⟨by kernel_rfl, fun W hW => by simp [execOp, go_sem]; decide⟩) hZ ?_
          simp only [Act.put, List.setIfInBounds_toArray, List.set_cons_zero, List.set_cons_succ]
          refine wpAnyH_take (i := 2) (oi := { dst := some 53, op := Go.Op.indexAddr 41 (Go.Operand.tmp 3) (Go.Operand.tmp 52), type := 0, pos := "more.go:25", after := #[{ on := 1, ground := Go.Ground.data }], guard := none }) (v := .pointer (some ⟨ab, 1, none⟩)) rfl (by kernel_rfl) (by kernel_rfl) (by kernel_rfl) (fun _ _ _ h => h) (.inl ⟨by kernel_rfl, fun W hW => by go_simp⟩) hZ ?_
          simp only [Act.put, List.setIfInBounds_toArray, List.set_cons_zero, List.set_cons_succ]
          refine wpAnyH_take (i := 3) (oi := { dst := some 54, op := Go.Op.load 24 (Go.Operand.tmp 53), type := 24, pos := "more.go:25", after := #[{ on := 2, ground := Go.Ground.data }], guard := none }) (v := .pointer (some ⟨b1, 0, none⟩)) rfl (by kernel_rfl) (by kernel_rfl) (by kernel_rfl) (fun _ _ _ h => h) (.inl ⟨by kernel_rfl, fun W hW => by have q := cell_row hW.1 1; simp [execOp, go_sem, q]⟩) hZ ?_
          simp only [Act.put, List.setIfInBounds_toArray, List.set_cons_zero, List.set_cons_succ]
          refine wpAnyH_take (i := 4) (oi := { dst := some 55, op := Go.Op.move (Go.Operand.tmp 4), type := 2, pos := "more.go:25", after := #[], guard := none }) (v := .int .i64 wl) rfl (by kernel_rfl) (by kernel_rfl) (by kernel_rfl) (fun _ _ _ h => h) (.inl ⟨by kernel_rfl, fun W hW => by go_simp⟩) hZ ?_
          simp only [Act.put, List.setIfInBounds_toArray, List.set_cons_zero, List.set_cons_succ]
          refine wpAnyH_take (i := 5) (oi := { dst := some 56, op := Go.Op.load 28 (Go.Operand.tmp 7), type := 28, pos := "more.go:25", after := #[], guard := none }) (v := .agg #[.int .i64 wl, .int .i64 cc, .int .i64 0]) rfl (by kernel_rfl) (by kernel_rfl) (by kernel_rfl) (fun _ _ _ h => h) (.inl ⟨by kernel_rfl, fun W hW => by obtain ⟨q0, q1, q2⟩ := hW.2.cells; simp [execOp, go_sem, q0, q1, q2]⟩) hZ ?_
          simp only [Act.put, List.setIfInBounds_toArray, List.set_cons_zero, List.set_cons_succ]
          refine wpAnyH_ready (rs := [6]) (by kernel_rfl) (by simp) ?_
          refine AllReadyH.cons (o := { dst := some 57, op := Go.Op.call { callee := Go.Callee.value (Go.Operand.func 10), args := #[Go.Operand.tmp 54, Go.Operand.tmp 55, Go.Operand.tmp 56], argTypes := #[24, 2, 28] }, type := 0, pos := "more.go:25", after := #[{ on := 3, ground := Go.Ground.data }, { on := 4, ground := Go.Ground.data }, { on := 5, ground := Go.Ground.data }], guard := none }) rfl (fun K hK => ?_) (AllReadyH.nil)
          rw [if_pos (by kernel_rfl)]
          have N := see_any b1 wl l1 c1 1 wl cc 0 X.drew hD (by unfold In; omega)
          obtain ⟨k1, k4, k5⟩ := two_see (wall := wl) (l := l1) (c := c1) (y := cc) (m := 3 * n + 1) (by omega) (by omega) (by omega) (by omega) (by omega)
          rw [k1] at N
          generalize seeC l1 c1 (heldI wl) (heldI cc) (heldI wl) = cd at *
          clear k1
          go_wp2_with fail
          refine N.mono ?_
          rintro e w6 ⟨rfl, ht, hk⟩
          clear N
          replace hC := ClkAt.to hC ht a1.symm
          replace hZ := And.intro (row_to hZ.1 ht a3) (ClkAt.to hZ.2 ht (show b1 ≠ tb by omega))
          replace hS := hS.trans (ht.below.mono (by omega))
          replace hD := hk
          clear ht hk
          go_wp2_with fail
          refine hK.out _ _ hZ (fun _ => ?_)
          clear hK
          refine wpAnyH_done (by kernel_rfl) ?_ _
          have N := now_any b1 wl wl cd 1 w6 hD (by unfold In; omega)
          obtain ⟨k1, k6, k7, k8⟩ := two_now (wall := wl) (l := wl) (c := cd) (m := 3 * n + 2) (by omega) (by omega) (by omega) (by omega)
          rw [k1] at N
          have k9 := k8 rfl
          generalize nowC wl wl cd = ce at *
          clear k1 k8
          obtain ⟨hR, hT⟩ := hZ
          have p0 := cell_row hR 0
          have p1 := cell_row hR 1
          go_wp2_with fail
          refine N.mono ?_
          rintro e w7 ⟨rfl, ht, hk⟩
          clear N p0 p1
          replace hC := ClkAt.to hC ht a1.symm
          replace hR := row_to hR ht a3
          replace hT := ClkAt.to hT ht (show b1 ≠ tb by omega)
          replace hS := hS.trans (ht.below.mono (by omega))
          replace hD := hk
          clear ht hk
          obtain ⟨q0, q1, q2⟩ := hT.cells
          have htb := ClkAt.lt hT
          have N := less_any wl cc 0 wl ce 1
          rw [lessB_lt (by omega) (by omega) (by omega) (by omega) (by omega)] at N
          go_wp2_with fail
          refine (N _).mono ?_
          rintro e w8 ⟨rfl, hb⟩
          have hU := (ClkAt.new w7 28 wl ce 1).on hb
          have hT8 := ClkAt.on (show ClkAt (w7.alloc (.cells #[.int .i64 wl, .int .i64 ce, .int .i64 1] 28)) 28 tb wl cc 0 from row_keep hT _) hb
          have E2 : Hid (TwoR w ab b0 b1 ((n : Int) + 1) wl w8) := Lib.hid ⟨_, _, _, _, (show TwoI ((n : Int) + 1) wl wl cc wl ce by unfold TwoI; omega), ClkAt.on (show ClkAt (w7.alloc (.cells #[.int .i64 wl, .int .i64 ce, .int .i64 1] 28)) 48 b0 _ _ 0 from row_keep hC _) hb, ClkAt.on (show ClkAt (w7.alloc (.cells #[.int .i64 wl, .int .i64 ce, .int .i64 1] 28)) 48 b1 _ _ 1 from row_keep hD _) hb, row_on (row_keep hR _) hb, thn (alB hS _) hb⟩
          clear N q0 q1 q2 hC hD hR hT hS hb htb
          obtain ⟨q0, q1, q2⟩ := hT8.cells
          obtain ⟨r0, r1, r2⟩ := hU.cells
          clear hT8 hU
          go_wp2_with fail
          go_roundw
          case rel => exact ⟨n + 1, wl, by omega, by go_num, rfl, by simpa using E2.out⟩
          case measure => simp [intOf]; omega
        · have m1 : bits .and .u16 v 1 = 1 := by rw [and16a hv0 hv1]; exact hz
          have m3 : bits .and .u16 (v / 8) 1 = 0 := by rw [and16c hv0 hv1]; exact hr
          have N := now_any b1 wl l1 c1 1 wr hD (by unfold In; omega)
          obtain ⟨k1, k2, k3, k4⟩ := two_now (wall := wl) (l := l1) (c := c1) (m := 3 * n) (by omega) (by omega) (by omega) (by omega)
          rw [k1] at N
          generalize nowC wl l1 c1 = cc at *
          clear k1 k4 hz hr
          go_wp2_with fail
          refine N.mono ?_
          rintro e w5 ⟨rfl, ht, hk⟩
          clear N p0 p1 hv
          replace hC := ClkAt.to hC ht a1.symm
          replace hR := row_to hR ht a3
          replace hS := hS.trans (ht.below.mono (by omega))
          replace hD := hk
          clear ht hk
          have hlt5 := ClkAt.lt hC
          have hv := ((alB hS (.cells #[.int .i64 wl, .int .i64 cc, .int .i64 1] 28)).cell (p := x.add n) (by rw [add_blk]; exact hx)).trans HV.out
          have E2 : Hid (TwoR w ab b0 b1 ((n : Int) + 1) wl (w5.alloc (.cells #[.int .i64 wl, .int .i64 cc, .int .i64 1] 28))) := Lib.hid ⟨_, _, _, _, (show TwoI ((n : Int) + 1) wl l0 c0 wl cc by unfold TwoI; omega), row_keep hC _, row_keep hD _, row_keep hR _, alB hS _⟩
          clear hC hD hR hS
          go_wp2_with fail
          go_roundw
          case rel => exact ⟨n + 1, wl, by omega, by go_num, rfl, by simpa using E2.out⟩
          case measure => simp [intOf]; omega
        · have m1 : bits .and .u16 v 1 = 1 := by rw [and16a hv0 hv1]; exact hz
          have m3 : bits .and .u16 (v / 8) 1 = 1 := by rw [and16c hv0 hv1]; exact hr
          have N := now_any b1 wl l1 c1 1 wr hD (by unfold In; omega)
          obtain ⟨k1, k2, k3, k4⟩ := two_now (wall := wl) (l := l1) (c := c1) (m := 3 * n) (by omega) (by omega) (by omega) (by omega)
          rw [k1] at N
          generalize nowC wl l1 c1 = cc at *
          clear k1 k4 hz hr
          go_wp2_with fail
          refine N.mono ?_
          rintro e w5 ⟨rfl, ht, hk⟩
          clear N p0 p1 hv
          replace hC := ClkAt.to hC ht a1.symm
          replace hR := row_to hR ht a3
          replace hS := hS.trans (ht.below.mono (by omega))
          replace hD := hk
          clear ht hk
          have hlt5 := ClkAt.lt hC
          have hv := ((alB hS (.cells #[.int .i64 wl, .int .i64 cc, .int .i64 1] 28)).cell (p := x.add n) (by rw [add_blk]; exact hx)).trans HV.out
          have hT : ClkAt (w5.alloc (.cells #[.int .i64 wl, .int .i64 cc, .int .i64 1] 28)) 28 w5.heap.size wl cc 1 := ClkAt.new _ _ _ _ _
          have hC : ClkAt (w5.alloc (.cells #[.int .i64 wl, .int .i64 cc, .int .i64 1] 28)) 48 b0 l0 c0 0 := row_keep hC _
          have hD : ClkAt (w5.alloc (.cells #[.int .i64 wl, .int .i64 cc, .int .i64 1] 28)) 48 b1 wl cc 1 := row_keep hD _
          have hR : (w5.alloc (.cells #[.int .i64 wl, .int .i64 cc, .int .i64 1] 28)).heap[ab]? = some (.cells #[.pointer (some ⟨b0, 0, none⟩), .pointer (some ⟨b1, 0, none⟩)] 41) := row_keep hR _
          have hS : Below w.heap.size w (w5.alloc (.cells #[.int .i64 wl, .int .i64 cc, .int .i64 1] 28)) := alB hS _
          have hb5 : b0 < w5.heap.size := hlt5
          have hb6 : b1 < w5.heap.size := ClkAt.lt (by assumption : ClkAt w5 48 b1 _ _ 1)
          have hb7 : ab < w5.heap.size := by omega
          go_wp2_with fail
          clear hv
          generalize (w5.alloc (.cells #[.int .i64 wl, .int .i64 cc, .int .i64 1] 28)) = X at *
          generalize w5.heap.size = tb at *
          have hZ : X.heap[ab]? = some (.cells #[.pointer (some ⟨b0, 0, none⟩), .pointer (some ⟨b1, 0, none⟩)] 41) ∧ ClkAt X 28 tb wl cc 1 := ⟨hR, hT⟩
          have hC : ClkAt X.drew 48 b0 l0 c0 0 := hC
          have hD : ClkAt X.drew 48 b1 wl cc 1 := hD
          have hS : Below w.heap.size w X.drew := hS.drew
          refine wp_region_held_drew (S := (fun W => W.heap[ab]? = some (.cells #[.pointer (some ⟨b0, 0, none⟩), .pointer (some ⟨b1, 0, none⟩)] 41) ∧ ClkAt W 28 tb wl cc 1)) (by rfl) hZ ?_
          intro hZ
          refine wpAnyH_take (i := 0) (oi := { dst := some 51, op := Go.Op.move (Go.Operand.tmp 6), type := 3, pos := "more.go:25", after := #[], guard := none }) (v := .int .i64 1) rfl (by kernel_rfl) (by kernel_rfl) (by kernel_rfl) (fun _ _ _ h => h) (.inl ⟨by kernel_rfl, fun W hW => by go_simp⟩) hZ ?_
          simp only [Act.put, List.setIfInBounds_toArray, List.set_cons_zero, List.set_cons_succ]
          refine wpAnyH_take (i := 1) (oi := { dst := some 52, op := Go.Op.binOp Go.BinOp.sub 3 (Go.Operand.const (Go.Value.int Go.IntKind.i64 1)) (Go.Operand.tmp 51) 3, type := 3, pos := "more.go:25", after := #[{ on := 0, ground := Go.Ground.data }], guard := none }) (v := .int .i64 0) rfl (by kernel_rfl) (by kernel_rfl) (by kernel_rfl) (fun _ _ _ h => h) (.inl ⟨by kernel_rfl, fun W hW => by simp [execOp, go_sem]; decide⟩) hZ ?_
          simp only [Act.put, List.setIfInBounds_toArray, List.set_cons_zero, List.set_cons_succ]
          refine wpAnyH_take (i := 2) (oi := { dst := some 53, op := Go.Op.indexAddr 41 (Go.Operand.tmp 3) (Go.Operand.tmp 52), type := 0, pos := "more.go:25", after := #[{ on := 1, ground := Go.Ground.data }], guard := none }) (v := .pointer (some ⟨ab, 0, none⟩)) rfl (by kernel_rfl) (by kernel_rfl) (by kernel_rfl) (fun _ _ _ h => h) (.inl ⟨by kernel_rfl, fun W hW => by go_simp⟩) hZ ?_
          simp only [Act.put, List.setIfInBounds_toArray, List.set_cons_zero, List.set_cons_succ]
          refine wpAnyH_take (i := 3) (oi := { dst := some 54, op := Go.Op.load 24 (Go.Operand.tmp 53), type := 24, pos := "more.go:25", after := #[{ on := 2, ground := Go.Ground.data }], guard := none }) (v := .pointer (some ⟨b0, 0, none⟩)) rfl (by kernel_rfl) (by kernel_rfl) (by kernel_rfl) (fun _ _ _ h => h) (.inl ⟨by kernel_rfl, fun W hW => by have q := cell_row hW.1 0; simp [execOp, go_sem, q]⟩) hZ ?_
          simp only [Act.put, List.setIfInBounds_toArray, List.set_cons_zero, List.set_cons_succ]
          refine wpAnyH_take (i := 4) (oi := { dst := some 55, op := Go.Op.move (Go.Operand.tmp 4), type := 2, pos := "more.go:25", after := #[], guard := none }) (v := .int .i64 wl) rfl (by kernel_rfl) (by kernel_rfl) (by kernel_rfl) (fun _ _ _ h => h) (.inl ⟨by kernel_rfl, fun W hW => by go_simp⟩) hZ ?_
          simp only [Act.put, List.setIfInBounds_toArray, List.set_cons_zero, List.set_cons_succ]
          refine wpAnyH_take (i := 5) (oi := { dst := some 56, op := Go.Op.load 28 (Go.Operand.tmp 7), type := 28, pos := "more.go:25", after := #[], guard := none }) (v := .agg #[.int .i64 wl, .int .i64 cc, .int .i64 1]) rfl (by kernel_rfl) (by kernel_rfl) (by kernel_rfl) (fun _ _ _ h => h) (.inl ⟨by kernel_rfl, fun W hW => by obtain ⟨q0, q1, q2⟩ := hW.2.cells; simp [execOp, go_sem, q0, q1, q2]⟩) hZ ?_
          simp only [Act.put, List.setIfInBounds_toArray, List.set_cons_zero, List.set_cons_succ]
          refine wpAnyH_ready (rs := [6]) (by kernel_rfl) (by simp) ?_
          refine AllReadyH.cons (o := { dst := some 57, op := Go.Op.call { callee := Go.Callee.value (Go.Operand.func 10), args := #[Go.Operand.tmp 54, Go.Operand.tmp 55, Go.Operand.tmp 56], argTypes := #[24, 2, 28] }, type := 0, pos := "more.go:25", after := #[{ on := 3, ground := Go.Ground.data }, { on := 4, ground := Go.Ground.data }, { on := 5, ground := Go.Ground.data }], guard := none }) rfl (fun K hK => ?_) (AllReadyH.nil)
          rw [if_pos (by kernel_rfl)]
          have N := see_any b0 wl l0 c0 0 wl cc 1 X.drew hC (by unfold In; omega)
          obtain ⟨k1, k4, k5⟩ := two_see (wall := wl) (l := l0) (c := c0) (y := cc) (m := 3 * n + 1) (by omega) (by omega) (by omega) (by omega) (by omega)
          rw [k1] at N
          generalize seeC l0 c0 (heldI wl) (heldI cc) (heldI wl) = cd at *
          clear k1
          go_wp2_with fail
          refine N.mono ?_
          rintro e w6 ⟨rfl, ht, hk⟩
          clear N
          replace hD := ClkAt.to hD ht a1
          replace hZ := And.intro (row_to hZ.1 ht a2) (ClkAt.to hZ.2 ht (show b0 ≠ tb by omega))
          replace hS := hS.trans (ht.below.mono (by omega))
          replace hC := hk
          clear ht hk
          go_wp2_with fail
          refine hK.out _ _ hZ (fun _ => ?_)
          clear hK
          refine wpAnyH_done (by kernel_rfl) ?_ _
          have N := now_any b0 wl wl cd 0 w6 hC (by unfold In; omega)
          obtain ⟨k1, k6, k7, k8⟩ := two_now (wall := wl) (l := wl) (c := cd) (m := 3 * n + 2) (by omega) (by omega) (by omega) (by omega)
          rw [k1] at N
          have k9 := k8 rfl
          generalize nowC wl wl cd = ce at *
          clear k1 k8
          obtain ⟨hR, hT⟩ := hZ
          have p0 := cell_row hR 0
          have p1 := cell_row hR 1
          go_wp2_with fail
          refine N.mono ?_
          rintro e w7 ⟨rfl, ht, hk⟩
          clear N p0 p1
          replace hD := ClkAt.to hD ht a1
          replace hR := row_to hR ht a2
          replace hT := ClkAt.to hT ht (show b0 ≠ tb by omega)
          replace hS := hS.trans (ht.below.mono (by omega))
          replace hC := hk
          clear ht hk
          obtain ⟨q0, q1, q2⟩ := hT.cells
          have htb := ClkAt.lt hT
          have N := less_any wl cc 1 wl ce 0
          rw [lessB_lt (by omega) (by omega) (by omega) (by omega) (by omega)] at N
          go_wp2_with fail
          refine (N _).mono ?_
          rintro e w8 ⟨rfl, hb⟩
          have hU := (ClkAt.new w7 28 wl ce 0).on hb
          have hT8 := ClkAt.on (show ClkAt (w7.alloc (.cells #[.int .i64 wl, .int .i64 ce, .int .i64 0] 28)) 28 tb wl cc 1 from row_keep hT _) hb
          have E2 : Hid (TwoR w ab b0 b1 ((n : Int) + 1) wl w8) := Lib.hid ⟨_, _, _, _, (show TwoI ((n : Int) + 1) wl wl ce wl cc by unfold TwoI; omega), ClkAt.on (show ClkAt (w7.alloc (.cells #[.int .i64 wl, .int .i64 ce, .int .i64 0] 28)) 48 b0 _ _ 0 from row_keep hC _) hb, ClkAt.on (show ClkAt (w7.alloc (.cells #[.int .i64 wl, .int .i64 ce, .int .i64 0] 28)) 48 b1 _ _ 1 from row_keep hD _) hb, row_on (row_keep hR _) hb, thn (alB hS _) hb⟩
          clear N q0 q1 q2 hC hD hR hT hS hb htb
          obtain ⟨q0, q1, q2⟩ := hT8.cells
          obtain ⟨r0, r1, r2⟩ := hU.cells
          clear hT8 hU
          go_wp2_with fail
          go_roundw
          case rel => exact ⟨n + 1, wl, by omega, by go_num, rfl, by simpa using E2.out⟩
          case measure => simp [intOf]; omega
      · go_wp2_with fail
        go_ret
        obtain ⟨l0, c0, l1, c1, hI, hC, hD, hR, hS⟩ := E.out
        exact ⟨rfl, hS⟩
end Go.Proofs.Ytedlgaajiofdjaa
