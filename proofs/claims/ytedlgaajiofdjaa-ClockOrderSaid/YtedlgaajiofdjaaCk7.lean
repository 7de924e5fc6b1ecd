/- The program's clock: See. -/
import Derived.Test.YtedlgaajiofdjaaCk5
import Derived.Test.YtedlgaajiofdjaaCk6
namespace Go.Proofs.Ytedlgaajiofdjaa
open Go.RowKit Go.Lib

def capI (x : Int) : Int := if 4611686018427387904 < x then 4611686018427387904 else x
def seeL (l x z : Int) : Int := if l < z ∧ x < z then z else if x ≤ l then l else x
def seeC (l c x y z : Int) : Int := if l < z ∧ x < z then 0 else if x < l then capI (c + 1) else if l < x then capI (y + 1) else if c < y then capI (y + 1) else capI (c + 1)
theorem capI_in {x : Int} (h : 0 ≤ x) : 0 ≤ capI x ∧ capI x ≤ 4611686018427387904 := by unfold capI; split <;> omega
theorem see_in {l c x y z : Int} (h : In l c) (hx : 0 ≤ x ∧ x ≤ 4611686018427387904) (hy : 0 ≤ y ∧ y ≤ 4611686018427387904) (hz : 0 ≤ z ∧ z ≤ 4611686018427387904) : In (seeL l x z) (seeC l c x y z) := by
  obtain ⟨h1, h2, h3, h4⟩ := h
  have q1 := capI_in (show 0 ≤ c + 1 by omega)
  have q2 := capI_in (show 0 ≤ y + 1 by omega)
  unfold seeL seeC In
  generalize capI (c + 1) = p at *
  generalize capI (y + 1) = q at *
  by_cases a : l < z ∧ x < z
  · simp only [if_pos a]; omega
  · simp only [if_neg a]
    refine ⟨by split <;> omega, by split <;> omega, ?_, ?_⟩ <;> (repeat' split) <;> omega
theorem see_ways (l c x y z : Int) : (l < z ∧ x < z ∧ seeL l x z = z ∧ seeC l c x y z = 0) ∨ (x < l ∧ z ≤ l ∧ seeL l x z = l ∧ seeC l c x y z = capI (c + 1)) ∨ (l < x ∧ z ≤ x ∧ seeL l x z = x ∧ seeC l c x y z = capI (y + 1)) ∨ (l = x ∧ z ≤ l ∧ c < y ∧ seeL l x z = l ∧ seeC l c x y z = capI (y + 1)) ∨ (l = x ∧ z ≤ l ∧ y ≤ c ∧ seeL l x z = l ∧ seeC l c x y z = capI (c + 1)) := by
  unfold seeL seeC
  by_cases a : l < z ∧ x < z
  · simp only [if_pos a]; exact .inl ⟨a.1, a.2, trivial, trivial⟩
  · simp only [if_neg a]
    by_cases p : x < l
    · simp only [if_pos p, if_pos (show x ≤ l by omega)]; exact .inr (.inl ⟨p, by omega, trivial, trivial⟩)
    · by_cases q : l < x
      · simp only [if_neg p, if_pos q, if_neg (show ¬ x ≤ l by omega)]; exact .inr (.inr (.inl ⟨q, by omega, trivial, trivial⟩))
      · by_cases r : c < y
        · simp only [if_neg p, if_neg q, if_pos r, if_pos (show x ≤ l by omega)]; exact .inr (.inr (.inr (.inl ⟨by omega, by omega, r, trivial, trivial⟩)))
        · simp only [if_neg p, if_neg q, if_neg r, if_pos (show x ≤ l by omega)]; exact .inr (.inr (.inr (.inr ⟨by omega, by omega, by omega, trivial, trivial⟩)))
theorem beq_ff {a b : Int} (h : a ≠ b) : (a == b) = false := beq_eq_false_iff_ne.2 h

set_option maxHeartbeats 2000000 in
theorem see_any (b : Nat) (wall l c n sl sc sn : Int) (w : World) (h : ClkAt w 48 b l c n) (hi : In l c) :
    Calls Try.prog 10 #[.pointer (some ⟨b, 0, none⟩), .int .i64 wall, .agg #[.int .i64 sl, .int .i64 sc, .int .i64 sn]] w fun e w' => e = .returned (.tuple #[]) ∧ RdTo b w w' ∧ ClkAt w' 48 b (seeL l (heldI sl) (heldI wall)) (seeC l c (heldI sl) (heldI sc) (heldI wall)) n := by
  obtain ⟨h1, h2, h3, h4⟩ := hi
  have hx := heldI_in sl
  have hy := heldI_in sc
  have hz := heldI_in wall
  have hlt := h.lt
  have hk0 : ClkAt (w.alloc (.cells #[.int .i64 sl, .int .i64 sc, .int .i64 sn] 28)) 48 b l c n := row_keep h (.cells #[.int .i64 sl, .int .i64 sc, .int .i64 sn] 28)
  have hr0 := ClkAt.new w 28 sl sc sn
  have ht0 := (RdTo.refl b w).alloc hlt (.cells #[.int .i64 sl, .int .i64 sc, .int .i64 sn] 28)
  clear h
  rcases see_ways l c (heldI sl) (heldI sc) (heldI wall) with ⟨a1, a2, r1, r2⟩ | ⟨a1, a2, r1, r2⟩ | ⟨a1, a2, r1, r2⟩ | ⟨e0, a1, a2, r1, r2⟩ | ⟨e0, a1, a2, r1, r2⟩ <;> rw [r1, r2] <;> clear r1 r2
  · have Bd := bound_any sl sc sn
    have W : ∀ v, Calls Try.prog 18 #[.int .i64 wall] v fun e w' => e = .returned (.int .i64 (heldI wall)) ∧ w' = v := fun v => (within_any wall v).mono fun _ _ ⟨a, b⟩ => ⟨a, b.symm⟩
    generalize heldI sl = x at *
    generalize heldI sc = y at *
    generalize heldI wall = z at *
    have t1 := beq_ff (show l ≠ z by omega)
    have t2 := beq_ff (show x ≠ z by omega)
    have t3 := beq_ff (show z ≠ l by omega)
    have t4 := beq_ff (show z ≠ x by omega)
    go_enter Try.func10, Try.ntmps10
    go_wp2_with fail
    generalize w.alloc (.cells #[.int .i64 sl, .int .i64 sc, .int .i64 sn] 28) = W1 at *
    refine (Bd _).mono ?_
    rintro e w1 ⟨rfl, hb⟩
    have hk1 := hk0.on hb
    have hr1 := hr0.on hb
    have ht1 := ht0.trans (RdTo.of hb hk0.lt)
    have R0 := Lib.hid hr1
    have K0 := Lib.hid hk1
    have T0 := Lib.hid ht1
    obtain ⟨p0, p1, p2⟩ := hr1.cells
    obtain ⟨g0, g1⟩ := hr1.frz
    have g2 := frozen_row hr1 2
    clear hk0 hr0 ht0 hb hk1 hr1 ht1
    go_wp2_with fail
    have hk2 : ClkAt (((w1.setCell ⟨w.heap.size, 0, none⟩ (.int .i64 x)).setCell ⟨w.heap.size, 1, none⟩ (.int .i64 y)).setCell ⟨w.heap.size, 2, none⟩ (.int .i64 sn)) 48 b l c n := row_other (row_other (row_other K0.out _ 0 _ (by omega)) _ 1 _ (by omega)) _ 2 _ (by omega)
    have hr2 : ClkAt (((w1.setCell ⟨w.heap.size, 0, none⟩ (.int .i64 x)).setCell ⟨w.heap.size, 1, none⟩ (.int .i64 y)).setCell ⟨w.heap.size, 2, none⟩ (.int .i64 sn)) 28 w.heap.size x y sn := row_set (row_set (row_set R0.out 0 _) 1 _) 2 _
    have ht2 : RdTo b w (((w1.setCell ⟨w.heap.size, 0, none⟩ (.int .i64 x)).setCell ⟨w.heap.size, 1, none⟩ (.int .i64 y)).setCell ⟨w.heap.size, 2, none⟩ (.int .i64 sn)) := ((T0.out.new hlt _ 0 (Nat.le_refl _) _).new hlt _ 1 (Nat.le_refl _) _).new hlt _ 2 (Nat.le_refl _) _
    clear p0 p1 p2 g0 g1 g2 K0 R0 T0
    generalize (((w1.setCell ⟨w.heap.size, 0, none⟩ (.int .i64 x)).setCell ⟨w.heap.size, 1, none⟩ (.int .i64 y)).setCell ⟨w.heap.size, 2, none⟩ (.int .i64 sn)) = W2 at *
    obtain ⟨p0, p1, p2⟩ := hr2.cells
    obtain ⟨c0, c1, c2⟩ := hk2.cells
    obtain ⟨f0, f1⟩ := hk2.frz
    have K2 := Lib.hid hk2
    have R2 := Lib.hid hr2
    have T2 := Lib.hid ht2
    clear hk2 hr2 ht2
    go_quiet ((go_at_call 18; exact Calls.quiet_of_same (W _)))
    have hk3 : ClkAt (W2.drewN nq) 48 b l c n := K2.out
    have ht3 : RdTo b w (W2.drewN nq) := ⟨dwN T2.out.below nq, T2.out.above⟩
    have hr3 : ClkAt (W2.drewN nq) 28 w.heap.size x y sn := R2.out
    clear p0 p1 p2 c0 c1 c2 f0 f1 K2 R2 T2
    generalize W2.drewN nq = W3 at *
    obtain ⟨p0, p1, p2⟩ := hr3.cells
    obtain ⟨c0, c1, c2⟩ := hk3.cells
    have K3 := Lib.hid hk3
    have T3 := Lib.hid ht3
    clear hk3 hr3 ht3
    go_wp2_with fail
    all_goals
      refine (set_any b l c n _ _ W3 K3.out).mono ?_
      rintro e w4 ⟨rfl, ht, hk⟩
      have K4 := Lib.hid hk
      have T4 := Lib.hid (T3.out.trans ht)
      clear ht hk
      go_wp2_with fail
      go_end0
      exact ⟨rfl, T4.out, by first | exact K4.out | (unfold capI; first | (rw [if_pos (by omega)]; exact K4.out) | (rw [if_neg (by omega)]; exact K4.out))⟩
  · have Bd := bound_any sl sc sn
    have W : ∀ v, Calls Try.prog 18 #[.int .i64 wall] v fun e w' => e = .returned (.int .i64 (heldI wall)) ∧ w' = v := fun v => (within_any wall v).mono fun _ _ ⟨a, b⟩ => ⟨a, b.symm⟩
    generalize heldI sl = x at *
    generalize heldI sc = y at *
    generalize heldI wall = z at *
    have t1 := beq_ff (show x ≠ l by omega)
    have t2 := beq_ff (show l ≠ x by omega)
    go_enter Try.func10, Try.ntmps10
    go_wp2_with fail
    generalize w.alloc (.cells #[.int .i64 sl, .int .i64 sc, .int .i64 sn] 28) = W1 at *
    refine (Bd _).mono ?_
    rintro e w1 ⟨rfl, hb⟩
    have hk1 := hk0.on hb
    have hr1 := hr0.on hb
    have ht1 := ht0.trans (RdTo.of hb hk0.lt)
    have R0 := Lib.hid hr1
    have K0 := Lib.hid hk1
    have T0 := Lib.hid ht1
    obtain ⟨p0, p1, p2⟩ := hr1.cells
    obtain ⟨g0, g1⟩ := hr1.frz
    have g2 := frozen_row hr1 2
    clear hk0 hr0 ht0 hb hk1 hr1 ht1
    go_wp2_with fail
    have hk2 : ClkAt (((w1.setCell ⟨w.heap.size, 0, none⟩ (.int .i64 x)).setCell ⟨w.heap.size, 1, none⟩ (.int .i64 y)).setCell ⟨w.heap.size, 2, none⟩ (.int .i64 sn)) 48 b l c n := row_other (row_other (row_other K0.out _ 0 _ (by omega)) _ 1 _ (by omega)) _ 2 _ (by omega)
    have hr2 : ClkAt (((w1.setCell ⟨w.heap.size, 0, none⟩ (.int .i64 x)).setCell ⟨w.heap.size, 1, none⟩ (.int .i64 y)).setCell ⟨w.heap.size, 2, none⟩ (.int .i64 sn)) 28 w.heap.size x y sn := row_set (row_set (row_set R0.out 0 _) 1 _) 2 _
    have ht2 : RdTo b w (((w1.setCell ⟨w.heap.size, 0, none⟩ (.int .i64 x)).setCell ⟨w.heap.size, 1, none⟩ (.int .i64 y)).setCell ⟨w.heap.size, 2, none⟩ (.int .i64 sn)) := ((T0.out.new hlt _ 0 (Nat.le_refl _) _).new hlt _ 1 (Nat.le_refl _) _).new hlt _ 2 (Nat.le_refl _) _
    clear p0 p1 p2 g0 g1 g2 K0 R0 T0
    generalize (((w1.setCell ⟨w.heap.size, 0, none⟩ (.int .i64 x)).setCell ⟨w.heap.size, 1, none⟩ (.int .i64 y)).setCell ⟨w.heap.size, 2, none⟩ (.int .i64 sn)) = W2 at *
    obtain ⟨p0, p1, p2⟩ := hr2.cells
    obtain ⟨c0, c1, c2⟩ := hk2.cells
    obtain ⟨f0, f1⟩ := hk2.frz
    have K2 := Lib.hid hk2
    have R2 := Lib.hid hr2
    have T2 := Lib.hid ht2
    clear hk2 hr2 ht2
    go_quiet ((go_at_call 18; exact Calls.quiet_of_same (W _)))
    have hk3 : ClkAt (W2.drewN nq) 48 b l c n := K2.out
    have ht3 : RdTo b w (W2.drewN nq) := ⟨dwN T2.out.below nq, T2.out.above⟩
    have hr3 : ClkAt (W2.drewN nq) 28 w.heap.size x y sn := R2.out
    clear p0 p1 p2 c0 c1 c2 f0 f1 K2 R2 T2
    generalize W2.drewN nq = W3 at *
    obtain ⟨p0, p1, p2⟩ := hr3.cells
    obtain ⟨c0, c1, c2⟩ := hk3.cells
    have K3 := Lib.hid hk3
    have T3 := Lib.hid ht3
    clear hk3 hr3 ht3
    go_wp2_with fail
    all_goals
      refine (set_any b l c n _ _ W3 K3.out).mono ?_
      rintro e w4 ⟨rfl, ht, hk⟩
      have K4 := Lib.hid hk
      have T4 := Lib.hid (T3.out.trans ht)
      clear ht hk
      go_wp2_with fail
      go_end0
      exact ⟨rfl, T4.out, by first | exact K4.out | (unfold capI; first | (rw [if_pos (by omega)]; exact K4.out) | (rw [if_neg (by omega)]; exact K4.out))⟩
  · have Bd := bound_any sl sc sn
    have W : ∀ v, Calls Try.prog 18 #[.int .i64 wall] v fun e w' => e = .returned (.int .i64 (heldI wall)) ∧ w' = v := fun v => (within_any wall v).mono fun _ _ ⟨a, b⟩ => ⟨a, b.symm⟩
    generalize heldI sl = x at *
    generalize heldI sc = y at *
    generalize heldI wall = z at *
    have t1 := beq_ff (show x ≠ l by omega)
    have t2 := beq_ff (show l ≠ x by omega)
    go_enter Try.func10, Try.ntmps10
    go_wp2_with fail
    generalize w.alloc (.cells #[.int .i64 sl, .int .i64 sc, .int .i64 sn] 28) = W1 at *
    refine (Bd _).mono ?_
    rintro e w1 ⟨rfl, hb⟩
    have hk1 := hk0.on hb
    have hr1 := hr0.on hb
    have ht1 := ht0.trans (RdTo.of hb hk0.lt)
    have R0 := Lib.hid hr1
    have K0 := Lib.hid hk1
    have T0 := Lib.hid ht1
    obtain ⟨p0, p1, p2⟩ := hr1.cells
    obtain ⟨g0, g1⟩ := hr1.frz
    have g2 := frozen_row hr1 2
    clear hk0 hr0 ht0 hb hk1 hr1 ht1
    go_wp2_with fail
    have hk2 : ClkAt (((w1.setCell ⟨w.heap.size, 0, none⟩ (.int .i64 x)).setCell ⟨w.heap.size, 1, none⟩ (.int .i64 y)).setCell ⟨w.heap.size, 2, none⟩ (.int .i64 sn)) 48 b l c n := row_other (row_other (row_other K0.out _ 0 _ (by omega)) _ 1 _ (by omega)) _ 2 _ (by omega)
    have hr2 : ClkAt (((w1.setCell ⟨w.heap.size, 0, none⟩ (.int .i64 x)).setCell ⟨w.heap.size, 1, none⟩ (.int .i64 y)).setCell ⟨w.heap.size, 2, none⟩ (.int .i64 sn)) 28 w.heap.size x y sn := row_set (row_set (row_set R0.out 0 _) 1 _) 2 _
    have ht2 : RdTo b w (((w1.setCell ⟨w.heap.size, 0, none⟩ (.int .i64 x)).setCell ⟨w.heap.size, 1, none⟩ (.int .i64 y)).setCell ⟨w.heap.size, 2, none⟩ (.int .i64 sn)) := ((T0.out.new hlt _ 0 (Nat.le_refl _) _).new hlt _ 1 (Nat.le_refl _) _).new hlt _ 2 (Nat.le_refl _) _
    clear p0 p1 p2 g0 g1 g2 K0 R0 T0
    generalize (((w1.setCell ⟨w.heap.size, 0, none⟩ (.int .i64 x)).setCell ⟨w.heap.size, 1, none⟩ (.int .i64 y)).setCell ⟨w.heap.size, 2, none⟩ (.int .i64 sn)) = W2 at *
    obtain ⟨p0, p1, p2⟩ := hr2.cells
    obtain ⟨c0, c1, c2⟩ := hk2.cells
    obtain ⟨f0, f1⟩ := hk2.frz
    have K2 := Lib.hid hk2
    have R2 := Lib.hid hr2
    have T2 := Lib.hid ht2
    clear hk2 hr2 ht2
    go_quiet ((go_at_call 18; exact Calls.quiet_of_same (W _)))
    have hk3 : ClkAt (W2.drewN nq) 48 b l c n := K2.out
    have ht3 : RdTo b w (W2.drewN nq) := ⟨dwN T2.out.below nq, T2.out.above⟩
    have hr3 : ClkAt (W2.drewN nq) 28 w.heap.size x y sn := R2.out
    clear p0 p1 p2 c0 c1 c2 f0 f1 K2 R2 T2
    generalize W2.drewN nq = W3 at *
    obtain ⟨p0, p1, p2⟩ := hr3.cells
    obtain ⟨c0, c1, c2⟩ := hk3.cells
    have K3 := Lib.hid hk3
    have T3 := Lib.hid ht3
    clear hk3 hr3 ht3
    go_wp2_with fail
    all_goals
      refine (set_any b l c n _ _ W3 K3.out).mono ?_
      rintro e w4 ⟨rfl, ht, hk⟩
      have K4 := Lib.hid hk
      have T4 := Lib.hid (T3.out.trans ht)
      clear ht hk
      go_wp2_with fail
      go_end0
      exact ⟨rfl, T4.out, by first | exact K4.out | (unfold capI; first | (rw [if_pos (by omega)]; exact K4.out) | (rw [if_neg (by omega)]; exact K4.out))⟩
  · have Bd := bound_any sl sc sn
    have W : ∀ v, Calls Try.prog 18 #[.int .i64 wall] v fun e w' => e = .returned (.int .i64 (heldI wall)) ∧ w' = v := fun v => (within_any wall v).mono fun _ _ ⟨a, b⟩ => ⟨a, b.symm⟩
    generalize heldI sl = x at *
    generalize heldI sc = y at *
    generalize heldI wall = z at *
    subst e0
    go_enter Try.func10, Try.ntmps10
    go_wp2_with fail
    generalize w.alloc (.cells #[.int .i64 sl, .int .i64 sc, .int .i64 sn] 28) = W1 at *
    refine (Bd _).mono ?_
    rintro e w1 ⟨rfl, hb⟩
    have hk1 := hk0.on hb
    have hr1 := hr0.on hb
    have ht1 := ht0.trans (RdTo.of hb hk0.lt)
    have R0 := Lib.hid hr1
    have K0 := Lib.hid hk1
    have T0 := Lib.hid ht1
    obtain ⟨p0, p1, p2⟩ := hr1.cells
    obtain ⟨g0, g1⟩ := hr1.frz
    have g2 := frozen_row hr1 2
    clear hk0 hr0 ht0 hb hk1 hr1 ht1
    go_wp2_with fail
    have hk2 : ClkAt (((w1.setCell ⟨w.heap.size, 0, none⟩ (.int .i64 l)).setCell ⟨w.heap.size, 1, none⟩ (.int .i64 y)).setCell ⟨w.heap.size, 2, none⟩ (.int .i64 sn)) 48 b l c n := row_other (row_other (row_other K0.out _ 0 _ (by omega)) _ 1 _ (by omega)) _ 2 _ (by omega)
    have hr2 : ClkAt (((w1.setCell ⟨w.heap.size, 0, none⟩ (.int .i64 l)).setCell ⟨w.heap.size, 1, none⟩ (.int .i64 y)).setCell ⟨w.heap.size, 2, none⟩ (.int .i64 sn)) 28 w.heap.size l y sn := row_set (row_set (row_set R0.out 0 _) 1 _) 2 _
    have ht2 : RdTo b w (((w1.setCell ⟨w.heap.size, 0, none⟩ (.int .i64 l)).setCell ⟨w.heap.size, 1, none⟩ (.int .i64 y)).setCell ⟨w.heap.size, 2, none⟩ (.int .i64 sn)) := ((T0.out.new hlt _ 0 (Nat.le_refl _) _).new hlt _ 1 (Nat.le_refl _) _).new hlt _ 2 (Nat.le_refl _) _
    clear p0 p1 p2 g0 g1 g2 K0 R0 T0
    generalize (((w1.setCell ⟨w.heap.size, 0, none⟩ (.int .i64 l)).setCell ⟨w.heap.size, 1, none⟩ (.int .i64 y)).setCell ⟨w.heap.size, 2, none⟩ (.int .i64 sn)) = W2 at *
    obtain ⟨p0, p1, p2⟩ := hr2.cells
    obtain ⟨c0, c1, c2⟩ := hk2.cells
    obtain ⟨f0, f1⟩ := hk2.frz
    have K2 := Lib.hid hk2
    have R2 := Lib.hid hr2
    have T2 := Lib.hid ht2
    clear hk2 hr2 ht2
    go_quiet ((go_at_call 18; exact Calls.quiet_of_same (W _)))
    have hk3 : ClkAt (W2.drewN nq) 48 b l c n := K2.out
    have ht3 : RdTo b w (W2.drewN nq) := ⟨dwN T2.out.below nq, T2.out.above⟩
    have hr3 : ClkAt (W2.drewN nq) 28 w.heap.size l y sn := R2.out
    clear p0 p1 p2 c0 c1 c2 f0 f1 K2 R2 T2
    generalize W2.drewN nq = W3 at *
    obtain ⟨p0, p1, p2⟩ := hr3.cells
    obtain ⟨c0, c1, c2⟩ := hk3.cells
    have K3 := Lib.hid hk3
    have T3 := Lib.hid ht3
    clear hk3 hr3 ht3
    go_wp2_with fail
    all_goals
      refine (set_any b l c n _ _ W3 K3.out).mono ?_
      rintro e w4 ⟨rfl, ht, hk⟩
      have K4 := Lib.hid hk
      have T4 := Lib.hid (T3.out.trans ht)
      clear ht hk
      go_wp2_with fail
      go_end0
      exact ⟨rfl, T4.out, by first | exact K4.out | (unfold capI; first | (rw [if_pos (by omega)]; exact K4.out) | (rw [if_neg (by omega)]; exact K4.out))⟩
  · have Bd := bound_any sl sc sn
    have W : ∀ v, Calls Try.prog 18 #[.int .i64 wall] v fun e w' => e = .returned (.int .i64 (heldI wall)) ∧ w' = v := fun v => (within_any wall v).mono fun _ _ ⟨a, b⟩ => ⟨a, b.symm⟩
    generalize heldI sl = x at *
    generalize heldI sc = y at *
    generalize heldI wall = z at *
    subst e0
    go_enter Try.func10, Try.ntmps10
    go_wp2_with fail
    generalize w.alloc (.cells #[.int .i64 sl, .int .i64 sc, .int .i64 sn] 28) = W1 at *
    refine (Bd _).mono ?_
    rintro e w1 ⟨rfl, hb⟩
    have hk1 := hk0.on hb
    have hr1 := hr0.on hb
    have ht1 := ht0.trans (RdTo.of hb hk0.lt)
    have R0 := Lib.hid hr1
    have K0 := Lib.hid hk1
    have T0 := Lib.hid ht1
    obtain ⟨p0, p1, p2⟩ := hr1.cells
    obtain ⟨g0, g1⟩ := hr1.frz
    have g2 := frozen_row hr1 2
    clear hk0 hr0 ht0 hb hk1 hr1 ht1
    go_wp2_with fail
    have hk2 : ClkAt (((w1.setCell ⟨w.heap.size, 0, none⟩ (.int .i64 l)).setCell ⟨w.heap.size, 1, none⟩ (.int .i64 y)).setCell ⟨w.heap.size, 2, none⟩ (.int .i64 sn)) 48 b l c n := row_other (row_other (row_other K0.out _ 0 _ (by omega)) _ 1 _ (by omega)) _ 2 _ (by omega)
    have hr2 : ClkAt (((w1.setCell ⟨w.heap.size, 0, none⟩ (.int .i64 l)).setCell ⟨w.heap.size, 1, none⟩ (.int .i64 y)).setCell ⟨w.heap.size, 2, none⟩ (.int .i64 sn)) 28 w.heap.size l y sn := row_set (row_set (row_set R0.out 0 _) 1 _) 2 _
    have ht2 : RdTo b w (((w1.setCell ⟨w.heap.size, 0, none⟩ (.int .i64 l)).setCell ⟨w.heap.size, 1, none⟩ (.int .i64 y)).setCell ⟨w.heap.size, 2, none⟩ (.int .i64 sn)) := ((T0.out.new hlt _ 0 (Nat.le_refl _) _).new hlt _ 1 (Nat.le_refl _) _).new hlt _ 2 (Nat.le_refl _) _
    clear p0 p1 p2 g0 g1 g2 K0 R0 T0
    generalize (((w1.setCell ⟨w.heap.size, 0, none⟩ (.int .i64 l)).setCell ⟨w.heap.size, 1, none⟩ (.int .i64 y)).setCell ⟨w.heap.size, 2, none⟩ (.int .i64 sn)) = W2 at *
    obtain ⟨p0, p1, p2⟩ := hr2.cells
    obtain ⟨c0, c1, c2⟩ := hk2.cells
    obtain ⟨f0, f1⟩ := hk2.frz
    have K2 := Lib.hid hk2
    have R2 := Lib.hid hr2
    have T2 := Lib.hid ht2
    clear hk2 hr2 ht2
    go_quiet ((go_at_call 18; exact Calls.quiet_of_same (W _)))
    have hk3 : ClkAt (W2.drewN nq) 48 b l c n := K2.out
    have ht3 : RdTo b w (W2.drewN nq) := ⟨dwN T2.out.below nq, T2.out.above⟩
    have hr3 : ClkAt (W2.drewN nq) 28 w.heap.size l y sn := R2.out
    clear p0 p1 p2 c0 c1 c2 f0 f1 K2 R2 T2
    generalize W2.drewN nq = W3 at *
    obtain ⟨p0, p1, p2⟩ := hr3.cells
    obtain ⟨c0, c1, c2⟩ := hk3.cells
    have K3 := Lib.hid hk3
    have T3 := Lib.hid ht3
    clear hk3 hr3 ht3
    go_wp2_with fail
    all_goals
      refine (set_any b l c n _ _ W3 K3.out).mono ?_
      rintro e w4 ⟨rfl, ht, hk⟩
      have K4 := Lib.hid hk
      have T4 := Lib.hid (T3.out.trans ht)
      clear ht hk
      go_wp2_with fail
      go_end0
      exact ⟨rfl, T4.out, by first | exact K4.out | (unfold capI; first | (rw [if_pos (by omega)]; exact K4.out) | (rw [if_neg (by omega)]; exact K4.out))⟩
end Go.Proofs.Ytedlgaajiofdjaa
