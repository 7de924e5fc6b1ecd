/- The law ClockRises: its walk. -/
import Derived.Test.YtedlgaajiofdjaaCkA
import Derived.Laws.BitsLemmas
namespace Go.Proofs.Ytedlgaajiofdjaa
open Go.RowKit Go.Lib
set_option linter.unusedVariables false

theorem i64_and65535 (n : Int) : bits .and .i64 n 65535 = n % 65536 := by
  have h : (BitVec.ofInt 64 65535).toNat = 2 ^ 16 - 1 := by decide
  have key : (BitVec.ofInt 64 n &&& BitVec.ofInt 64 65535).toNat = (n % ((2 ^ 64 : Nat) : Int)).toNat % 2 ^ 16 := by
    rw [BitVec.toNat_and, BitVec.toNat_ofInt, h, Nat.and_two_pow_sub_one_eq_mod]
  show IntKind.i64.wrap ((BitVec.ofInt 64 n &&& BitVec.ofInt 64 65535).toNat : Nat) = n % 65536
  rw [key, IntKind.wrap_i64]
  omega
theorem and_rng (n : Int) : 0 ≤ bits .and .i64 n 65535 ∧ bits .and .i64 n 65535 ≤ 65535 := by rw [i64_and65535]; omega
theorem lessB_lt {a b n c d m : Int} (ha : 0 ≤ a ∧ a ≤ 1000000) (hb : 0 ≤ b ∧ b ≤ 1000000) (hc : 0 ≤ c ∧ c ≤ 1000000) (hd : 0 ≤ d ∧ d ≤ 1000000) (h : a < c ∨ a = c ∧ b < d) : lessB a b n c d m = true := by
  unfold lessB
  rw [heldI_mid ha.1 (by omega), heldI_mid hb.1 (by omega), heldI_mid hc.1 (by omega), heldI_mid hd.1 (by omega)]
  by_cases e : a = c
  · rw [if_pos e, if_neg (by omega)]; simp; omega
  · rw [if_neg e]; simp; omega
def RiseI (n l c ll lc sl sc : Int) : Prop :=
  0 ≤ l ∧ l ≤ 65535 ∧ 0 ≤ c ∧ c ≤ 65535 + n ∧ 0 ≤ n ∧ n ≤ 60 ∧ 0 ≤ ll ∧ 0 ≤ lc ∧ (ll < l ∨ ll = l ∧ lc ≤ c) ∧ 0 ≤ sl ∧ 0 ≤ sc ∧ sc ≤ 65535 ∧ (sl < l ∨ sl = l ∧ sc ≤ c) ∧ lc ≤ 65595
theorem rise_in {n l c ll lc sl sc : Int} (h : RiseI n l c ll lc sl sc) : In l c := by unfold RiseI at h; unfold In; omega
theorem rise_now {n l c ll lc sl sc wl : Int} (h : RiseI n l c ll lc sl sc) (hw : 0 ≤ wl ∧ wl ≤ 65535) (hn : n < 60) :
    lessB ll lc 1 (nowL wl l c) (nowC wl l c) 1 = true ∧ lessB sl sc 0 (nowL wl l c) (nowC wl l c) 1 = true ∧ wl ≤ nowL wl l c ∧ RiseI (n + 1) (nowL wl l c) (nowC wl l c) (nowL wl l c) (nowC wl l c) sl sc := by
  unfold RiseI at h
  have e : heldI wl = wl := heldI_mid hw.1 (by omega)
  have key : wl ≤ nowL wl l c ∧ nowL wl l c ≤ 65535 ∧ 0 ≤ nowC wl l c ∧ nowC wl l c ≤ 65536 + n ∧ (l < nowL wl l c ∨ l = nowL wl l c ∧ c < nowC wl l c) := by
    unfold nowL nowC
    rw [e]
    by_cases q : l < wl
    · rw [if_pos q, if_pos q]; omega
    · have q2 : c < 4611686018427387904 := by omega
      rw [if_neg q, if_neg q, if_pos q2, if_pos q2]; omega
  generalize nowL wl l c = x at *
  generalize nowC wl l c = y at *
  refine ⟨lessB_lt (by omega) (by omega) (by omega) (by omega) (by omega), lessB_lt (by omega) (by omega) (by omega) (by omega) (by omega), by omega, ?_⟩
  unfold RiseI
  omega
theorem rise_see {n l c ll lc sl sc xl xc wl : Int} (h : RiseI n l c ll lc sl sc) (hw : 0 ≤ wl ∧ wl ≤ 65535) (hx : 0 ≤ xl ∧ xl ≤ 65535) (hy : 0 ≤ xc ∧ xc ≤ 65535) (hn : n < 60) :
    RiseI (n + 1) (seeL l (heldI xl) (heldI wl)) (seeC l c (heldI xl) (heldI xc) (heldI wl)) ll lc sl sc ∧ RiseI (n + 1) (seeL l (heldI xl) (heldI wl)) (seeC l c (heldI xl) (heldI xc) (heldI wl)) ll lc xl xc := by
  unfold RiseI at h
  rw [heldI_mid hw.1 (by omega), heldI_mid hx.1 (by omega), heldI_mid hy.1 (by omega)]
  have k1 : capI (c + 1) = c + 1 := by unfold capI; rw [if_neg (by omega)]
  have k2 : capI (xc + 1) = xc + 1 := by unfold capI; rw [if_neg (by omega)]
  unfold RiseI
  rcases see_ways l c xl xc wl with ⟨a, b, r, t⟩ | ⟨a, b, r, t⟩ | ⟨a, b, r, t⟩ | ⟨a, b, d, r, t⟩ | ⟨a, b, d, r, t⟩ <;> rw [r, t] <;> (try rw [k1]) <;> (try rw [k2]) <;> omega
def RiseR (w : World) (cb lb sb : Nat) (n : Int) (W : World) : Prop :=
  ∃ l c ll lc sl sc : Int, RiseI n l c ll lc sl sc ∧ ClkAt W 48 cb l c 1 ∧ ClkAt W 28 lb ll lc 1 ∧ ClkAt W 28 sb sl sc 0 ∧ Below w.heap.size w W

set_option maxRecDepth 100000 in
set_option maxHeartbeats 8000000 in
theorem rises_walk (A : Option Addr) (len cap : Nat) (hm : len ≤ 9223372036854775807) (w : World) (hA : ActsAt w A len) :
    Calls Try.prog 4 #[.slice A len cap] w fun e w' => e = .returned (.bool true) ∧ Below w.heap.size w w' := by
  have HA := Lib.hid hA
  clear hA
  by_cases h60 : 60 < len
  · go_enter Try.func4, Try.ntmps4
    go_wp2_with fail
    refine (known_any _).mono ?_
    rintro e w1 ⟨rfl, hb⟩
    go_wp2_with fail
    go_ret
    exact ⟨rfl, hb⟩
  · go_enter Try.func4, Try.ntmps4
    go_wp2_with fail
    refine (known_any _).mono ?_
    rintro e w1 ⟨rfl, hb⟩
    have B1 := Lib.hid hb
    clear hb
    go_wp2_with fail
    refine (new_any 1 w1).mono ?_
    rintro e w3 ⟨rfl, hb, hs, hk⟩
    have B3 := Lib.hid (thn B1.out hb)
    have K3 := Lib.hid hk
    have hwg := B1.out.size
    clear hb hk B1
    generalize w1.heap.size = cb at *
    go_wp2_with fail
    have R0 : Hid (RiseR w cb w3.heap.size (w3.heap.size + 1) 0 ((w3.alloc (.cells #[.int .i64 0, .int .i64 0, .int .i64 1] 28)).alloc (.cells #[.int .i64 0, .int .i64 0, .int .i64 0] 28))) := Lib.hid ⟨0, 0, 0, 0, 0, 0, by unfold RiseI; omega, row_keep (row_keep K3.out _) _, row_keep (ClkAt.new w3 _ _ _ _) _, by
      have h := ClkAt.new (w3.alloc (.cells #[.int .i64 0, .int .i64 0, .int .i64 1] 28)) 28 0 0 0
      rw [World.size_alloc] at h
      exact h, alB (alB B3.out _) _⟩
    clear K3 B3
    have hsz : w3.heap.size + 1 < ((w3.alloc (.cells #[.int .i64 0, .int .i64 0, .int .i64 1] 28)).alloc (.cells #[.int .i64 0, .int .i64 0, .int .i64 0] 28)).heap.size := by simp
    generalize ((w3.alloc (.cells #[.int .i64 0, .int .i64 0, .int .i64 1] 28)).alloc (.cells #[.int .i64 0, .int .i64 0, .int .i64 0] 28)) = W4 at *
    obtain ⟨sb, hsb⟩ : ∃ sb, w3.heap.size + 1 = sb := ⟨_, rfl⟩
    have hls : w3.heap.size < sb := by omega
    rw [hsb] at R0 hsz ⊢
    clear hsb
    generalize w3.heap.size = lb at *
    go_loopw [6] (fun i wr => ∃ n : Nat, n ≤ len ∧ i = .int .i64 n ∧ RiseR w cb lb sb n wr) (fun i _ => len - (intOf i).toNat)
    case atStart =>
      exact ⟨0, by omega, rfl, R0.out⟩
    case round =>
      obtain ⟨n, hn, rfl, hE⟩ := hrel
      have E := Lib.hid hE
      clear hE R0
      by_cases hlt : n < len
      · obtain ⟨l, c, ll, lc, sl, sc, hI, hC, hL, hN, hS⟩ := E.out
        clear E
        obtain ⟨x, s, wl, xl, xc, xn, rfl, hx, c0, c1, c2, c3, c4⟩ := HA.out.on hS n hlt
        have I := Lib.hid hI
        have hi := rise_in hI
        clear hI
        have a1 : lb ≠ cb := by omega
        have a2 : sb ≠ cb := by omega
        have hlc := ClkAt.lt hC
        have hll := ClkAt.lt hL
        have hln := ClkAt.lt hN
        have r1 := and_rng wl
        have r2 := and_rng xl
        have r3 := and_rng xc
        rcases s with _ | _
        · go_wp2_with fail
          generalize bits .and .i64 wl 65535 = vw at *
          generalize bits .and .i64 xl 65535 = vl at *
          generalize bits .and .i64 xc 65535 = vc at *
          have hX : (wr.alloc (.cells #[.bool false, .int .i64 vw, .int .i64 vl, .int .i64 vc, .int .i64 xn] 32)).heap[wr.heap.size]? = some (.cells #[.bool false, .int .i64 vw, .int .i64 vl, .int .i64 vc, .int .i64 xn] 32) := row_new _ _
          have hC : ClkAt (wr.alloc (.cells #[.bool false, .int .i64 vw, .int .i64 vl, .int .i64 vc, .int .i64 xn] 32)) 48 cb l c 1 := row_keep hC _
          have hL : ClkAt (wr.alloc (.cells #[.bool false, .int .i64 vw, .int .i64 vl, .int .i64 vc, .int .i64 xn] 32)) 28 lb ll lc 1 := row_keep hL _
          have hN : ClkAt (wr.alloc (.cells #[.bool false, .int .i64 vw, .int .i64 vl, .int .i64 vc, .int .i64 xn] 32)) 28 sb sl sc 0 := row_keep hN _
          have hS : Below w.heap.size w (wr.alloc (.cells #[.bool false, .int .i64 vw, .int .i64 vl, .int .i64 vc, .int .i64 xn] 32)) := alB hS _
          have b1 : cb ≠ wr.heap.size := by omega
          have b2 : lb ≠ wr.heap.size := by omega
          have b3 : sb ≠ wr.heap.size := by omega
          have b4 : w.heap.size ≤ wr.heap.size := by omega
          clear c0 c1 c2 c3 c4 hx hlc hll hln
          generalize (wr.alloc (.cells #[.bool false, .int .i64 vw, .int .i64 vl, .int .i64 vc, .int .i64 xn] 32)) = X at *
          generalize wr.heap.size = g at *
          refine (now_any cb vw l c 1 X hC hi).mono ?_
          rintro e w5 ⟨rfl, ht, hk⟩
          replace hL := ClkAt.to hL ht a1.symm
          replace hN := ClkAt.to hN ht a2.symm
          replace hX := row_to hX ht b1
          replace hS := hS.trans (ht.below.mono (by omega))
          replace hC := hk
          clear ht hk
          obtain ⟨k1, k2, k3, k4⟩ := rise_now I.out r1 (show (n : Int) < 60 by omega)
          have LL := less_any ll lc 1 (nowL vw l c) (nowC vw l c) 1
          have LN := less_any sl sc 0 (nowL vw l c) (nowC vw l c) 1
          rw [k1] at LL
          rw [k2] at LN
          have I2 := Lib.hid k4
          clear k1 k2 k4 I
          generalize nowL vw l c = nl at *
          generalize nowC vw l c = nc at *
          have hlt5 := ClkAt.lt hL
          obtain ⟨p0, p1, p2⟩ := hL.cells
          have hT : ClkAt (w5.alloc (.cells #[.int .i64 nl, .int .i64 nc, .int .i64 1] 28)) 28 w5.heap.size nl nc 1 := ClkAt.new _ _ _ _ _
          go_wp2_with fail
          refine (LL _).mono ?_
          rintro e w6 ⟨rfl, hb⟩
          have hC6 := ClkAt.on (row_keep hC _ : ClkAt (w5.alloc (.cells #[.int .i64 nl, .int .i64 nc, .int .i64 1] 28)) 48 cb nl nc 1) hb
          have hL6 := ClkAt.on (row_keep hL _ : ClkAt (w5.alloc (.cells #[.int .i64 nl, .int .i64 nc, .int .i64 1] 28)) 28 lb ll lc 1) hb
          have hN6 := ClkAt.on (row_keep hN _ : ClkAt (w5.alloc (.cells #[.int .i64 nl, .int .i64 nc, .int .i64 1] 28)) 28 sb sl sc 0) hb
          have hX6 := row_on (row_keep hX (.cells #[.int .i64 nl, .int .i64 nc, .int .i64 1] 28)) hb
          have hT6 := hT.on hb
          have hS6 := thn (alB hS (.cells #[.int .i64 nl, .int .i64 nc, .int .i64 1] 28)) hb
          clear p0 p1 p2 hC hL hN hX hT hS hb hlt5
          generalize w5.heap.size = tb at *
          obtain ⟨p0, p1, p2⟩ := hN6.cells
          obtain ⟨q0, q1, q2⟩ := hT6.cells
          go_wp2_with fail
          refine (LN _).mono ?_
          rintro e w7 ⟨rfl, hb⟩
          have hC7 := hC6.on hb
          have hL7 := hL6.on hb
          have hN7 := hN6.on hb
          have hT7 := hT6.on hb
          have x1 := cell_row (row_on hX6 hb) 1
          have hS7 := thn hS6 hb
          clear p0 p1 p2 q0 q1 q2 hC6 hL6 hN6 hX6 hT6 hS6 hb
          obtain ⟨p0, p1, p2⟩ := hL7.cells
          obtain ⟨f0, f1⟩ := hL7.frz
          have f2 := frozen_row hL7 2
          obtain ⟨q0, q1, q2⟩ := hT7.cells
          have C7 := Lib.hid hC7
          have L7 := Lib.hid hL7
          have N7 := Lib.hid hN7
          have S7 := Lib.hid hS7
          clear hC7 hL7 hN7 hT7 hS7
          go_wp2_with fail
          have E2 : Hid (RiseR w cb lb sb ((n : Int) + 1) (((w7.setCell ⟨lb, 0, none⟩ (.int .i64 nl)).setCell ⟨lb, 1, none⟩ (.int .i64 nc)).setCell ⟨lb, 2, none⟩ (.int .i64 1))) := Lib.hid ⟨_, _, _, _, _, _, I2.out, row_other (row_other (row_other C7.out _ 0 _ (by omega)) _ 1 _ (by omega)) _ 2 _ (by omega), row_set (row_set (row_set L7.out 0 _) 1 _) 2 _, row_other (row_other (row_other N7.out _ 0 _ (by omega)) _ 1 _ (by omega)) _ 2 _ (by omega), ((S7.out.setCell (p := ⟨lb, 0, none⟩) (by show _ ≤ lb; omega) _).setCell (p := ⟨lb, 1, none⟩) (by show _ ≤ lb; omega) _).setCell (p := ⟨lb, 2, none⟩) (by show _ ≤ lb; omega) _⟩
          go_roundw
          case rel => exact ⟨n + 1, by omega, by go_num, by simpa using E2.out⟩
          case measure => simp [intOf]; omega
        · go_wp2_with fail
          generalize bits .and .i64 wl 65535 = vw at *
          generalize bits .and .i64 xl 65535 = vl at *
          generalize bits .and .i64 xc 65535 = vc at *
          have hX : (wr.alloc (.cells #[.bool true, .int .i64 vw, .int .i64 vl, .int .i64 vc, .int .i64 xn] 32)).heap[wr.heap.size]? = some (.cells #[.bool true, .int .i64 vw, .int .i64 vl, .int .i64 vc, .int .i64 xn] 32) := row_new _ _
          have hC : ClkAt (wr.alloc (.cells #[.bool true, .int .i64 vw, .int .i64 vl, .int .i64 vc, .int .i64 xn] 32)) 48 cb l c 1 := row_keep hC _
          have hL : ClkAt (wr.alloc (.cells #[.bool true, .int .i64 vw, .int .i64 vl, .int .i64 vc, .int .i64 xn] 32)) 28 lb ll lc 1 := row_keep hL _
          have hN : ClkAt (wr.alloc (.cells #[.bool true, .int .i64 vw, .int .i64 vl, .int .i64 vc, .int .i64 xn] 32)) 28 sb sl sc 0 := row_keep hN _
          have hS : Below w.heap.size w (wr.alloc (.cells #[.bool true, .int .i64 vw, .int .i64 vl, .int .i64 vc, .int .i64 xn] 32)) := alB hS _
          have b1 : cb ≠ wr.heap.size := by omega
          have b2 : lb ≠ wr.heap.size := by omega
          have b3 : sb ≠ wr.heap.size := by omega
          have b4 : w.heap.size ≤ wr.heap.size := by omega
          clear c0 c1 c2 c3 c4 hx hlc hll hln
          generalize (wr.alloc (.cells #[.bool true, .int .i64 vw, .int .i64 vl, .int .i64 vc, .int .i64 xn] 32)) = X at *
          generalize wr.heap.size = g at *
          refine (see_any cb vw l c 1 vl vc xn X hC hi).mono ?_
          rintro e w5 ⟨rfl, ht, hk⟩
          replace hL := ClkAt.to hL ht a1.symm
          replace hN := ClkAt.to hN ht a2.symm
          replace hX := row_to hX ht b1
          replace hS := hS.trans (ht.below.mono (by omega))
          replace hC := hk
          clear ht hk
          obtain ⟨k1, k2⟩ := rise_see I.out r1 r2 r3 (show (n : Int) < 60 by omega)
          have I2 := Lib.hid k1
          have I3 := Lib.hid k2
          clear k1 k2 I
          generalize seeL l (heldI vl) (heldI vw) = nl at *
          generalize seeC l c (heldI vl) (heldI vc) (heldI vw) = nc at *
          have LN := less_any sl sc 0 vl vc 0
          generalize lessB sl sc 0 vl vc 0 = b at *
          obtain ⟨p0, p1, p2⟩ := hN.cells
          have x2 := cell_row hX 2
          have x3 := cell_row hX 3
          have x4 := cell_row hX 4
          have y4 := frozen_row hX 4
          have hC5 : ClkAt (w5.setCell ⟨g, 4, none⟩ (.int .i64 0)) 48 cb nl nc 1 := row_other hC _ 4 _ b1.symm
          have hL5 : ClkAt (w5.setCell ⟨g, 4, none⟩ (.int .i64 0)) 28 lb ll lc 1 := row_other hL _ 4 _ b2.symm
          have hN5 : ClkAt (w5.setCell ⟨g, 4, none⟩ (.int .i64 0)) 28 sb sl sc 0 := row_other hN _ 4 _ b3.symm
          have hX5 := row_set hX 4 (.int .i64 0)
          have hS5 := hS.setCell (p := ⟨g, 4, none⟩) b4 (.int .i64 0)
          have C5 := Lib.hid hC5
          have L5 := Lib.hid hL5
          have N5 := Lib.hid hN5
          have X5 := Lib.hid hX5
          have S5 := Lib.hid hS5
          clear hC hL hN hX hS hC5 hL5 hN5 hX5 hS5
          go_wp2_with fail
          refine (LN _).mono ?_
          rintro e w6 ⟨rfl, hb⟩
          have hC6 := C5.out.on hb
          have hL6 := L5.out.on hb
          have hN6 := N5.out.on hb
          have hX6 := row_on X5.out hb
          have hS6 := thn S5.out hb
          clear p0 p1 p2 x2 x3 x4 y4 C5 L5 N5 X5 S5 hb
          rcases b with _ | _
          · have E2 : Hid (RiseR w cb lb sb ((n : Int) + 1) w6) := Lib.hid ⟨_, _, _, _, _, _, I2.out, hC6, hL6, hN6, hS6⟩
            clear hC6 hL6 hN6 hX6 hS6
            go_wp2_with fail
            go_roundw
            case rel => exact ⟨n + 1, by omega, by go_num, by simpa using E2.out⟩
            case measure => simp [intOf]; omega
          · obtain ⟨p0, p1, p2⟩ := hN6.cells
            obtain ⟨f0, f1⟩ := hN6.frz
            have f2 := frozen_row hN6 2
            have x2 := cell_row hX6 2
            have x3 := cell_row hX6 3
            have x4 := cell_row hX6 4
            have E2 : Hid (RiseR w cb lb sb ((n : Int) + 1) (((w6.setCell ⟨sb, 0, none⟩ (.int .i64 vl)).setCell ⟨sb, 1, none⟩ (.int .i64 vc)).setCell ⟨sb, 2, none⟩ (.int .i64 0))) := Lib.hid ⟨_, _, _, _, _, _, I3.out, row_other (row_other (row_other hC6 _ 0 _ (by omega)) _ 1 _ (by omega)) _ 2 _ (by omega), row_other (row_other (row_other hL6 _ 0 _ (by omega)) _ 1 _ (by omega)) _ 2 _ (by omega), row_set (row_set (row_set hN6 0 _) 1 _) 2 _, ((hS6.setCell (p := ⟨sb, 0, none⟩) (by show _ ≤ sb; omega) _).setCell (p := ⟨sb, 1, none⟩) (by show _ ≤ sb; omega) _).setCell (p := ⟨sb, 2, none⟩) (by show _ ≤ sb; omega) _⟩
            clear hC6 hL6 hN6 hX6 hS6
            go_wp2_with fail
            go_roundw
            case rel => exact ⟨n + 1, by omega, by go_num, by simpa using E2.out⟩
            case measure => simp [intOf]; omega
      · go_wp2_with fail
        go_ret
        obtain ⟨l, c, ll, lc, sl, sc, hI, hC, hL, hN, hS⟩ := E.out
        exact ⟨rfl, hS⟩
end Go.Proofs.Ytedlgaajiofdjaa
