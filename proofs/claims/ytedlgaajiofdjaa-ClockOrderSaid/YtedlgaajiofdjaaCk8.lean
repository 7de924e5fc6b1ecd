/- The document's clock: See. -/
import Derived.Test.YtedlgaajiofdjaaCk7
namespace Go.Proofs.Ytedlgaajiofdjaa
open Go.RowKit Go.Lib

set_option maxHeartbeats 2000000 in
theorem rsee_any (b : Nat) (wall l c n sl sc sn : Int) (w : World) (h : ClkAt w 30 b l c n) (hi : In l c) :
    Calls Try.prog 11 #[.pointer (some ⟨b, 0, none⟩), .int .i64 wall, .agg #[.int .i64 sl, .int .i64 sc, .int .i64 sn]] w fun e w' => e = .returned (.tuple #[]) ∧ RdTo b w w' ∧ ClkAt w' 30 b (seeL l (heldI sl) (heldI wall)) (seeC l c (heldI sl) (heldI sc) (heldI wall)) n := by
  obtain ⟨h1, h2, h3, h4⟩ := hi
  have hx := heldI_in sl
  have hy := heldI_in sc
  have hz := heldI_in wall
  have hlt := h.lt
  have hk0 : ClkAt (w.alloc (.cells #[.int .i64 sl, .int .i64 sc, .int .i64 sn] 28)) 30 b l c n := row_keep h (.cells #[.int .i64 sl, .int .i64 sc, .int .i64 sn] 28)
  have hr0 := ClkAt.new w 28 sl sc sn
  have ht0 := (RdTo.refl b w).alloc hlt (.cells #[.int .i64 sl, .int .i64 sc, .int .i64 sn] 28)
  clear h
  rcases see_ways l c (heldI sl) (heldI sc) (heldI wall) with ⟨a1, a2, r1, r2⟩ | ⟨a1, a2, r1, r2⟩ | ⟨a1, a2, r1, r2⟩ | ⟨e0, a1, a2, r1, r2⟩ | ⟨e0, a1, a2, r1, r2⟩ <;> rw [r1, r2] <;> clear r1 r2
  · have W := held_any wall
    have L := heldw_any sl
    have C := heldw_any sc
    generalize heldI sl = x at *
    generalize heldI sc = y at *
    generalize heldI wall = z at *
    have t1 := beq_ff (show l ≠ z by omega)
    have t2 := beq_ff (show x ≠ z by omega)
    have t3 := beq_ff (show z ≠ l by omega)
    have t4 := beq_ff (show z ≠ x by omega)
    go_enter Try.func11, Try.ntmps11
    go_wp2_with fail
    generalize w.alloc (.cells #[.int .i64 sl, .int .i64 sc, .int .i64 sn] 28) = W1 at *
    refine (W _).mono ?_
    rintro e w' ⟨rfl, rfl⟩
    obtain ⟨p0, p1, p2⟩ := hr0.cells
    have K0 := Lib.hid hk0
    have T0 := Lib.hid ht0
    clear hk0 hr0 ht0
    go_wp2_with fail
    go_quiet ((go_at_call 20; (first | exact Calls.quiet_of_same (L _) | exact Calls.quiet_of_same (C _))))
    have hk1 : ClkAt (W1.drewN nq) 30 b l c n := K0.out
    have ht1 : RdTo b w (W1.drewN nq) := ⟨dwN T0.out.below nq, T0.out.above⟩
    clear p0 p1 p2 K0 T0
    generalize W1.drewN nq = W2 at *
    obtain ⟨c0, c1, c2⟩ := hk1.cells
    obtain ⟨f0, f1⟩ := hk1.frz
    have K2 := Lib.hid hk1
    have T2 := Lib.hid ht1
    clear hk1 ht1
    go_wp2_with fail
    all_goals
      go_end0
      refine ⟨rfl, (T2.out.set 0 _).set 1 _, ?_⟩
      first | exact row_set (row_set K2.out 0 _) 1 _ | (unfold capI; first | (rw [if_pos (by omega)]; exact row_set (row_set K2.out 0 _) 1 _) | (rw [if_neg (by omega)]; exact row_set (row_set K2.out 0 _) 1 _))
  · have W := held_any wall
    have L := heldw_any sl
    have C := heldw_any sc
    generalize heldI sl = x at *
    generalize heldI sc = y at *
    generalize heldI wall = z at *
    have t1 := beq_ff (show x ≠ l by omega)
    have t2 := beq_ff (show l ≠ x by omega)
    go_enter Try.func11, Try.ntmps11
    go_wp2_with fail
    generalize w.alloc (.cells #[.int .i64 sl, .int .i64 sc, .int .i64 sn] 28) = W1 at *
    refine (W _).mono ?_
    rintro e w' ⟨rfl, rfl⟩
    obtain ⟨p0, p1, p2⟩ := hr0.cells
    have K0 := Lib.hid hk0
    have T0 := Lib.hid ht0
    clear hk0 hr0 ht0
    go_wp2_with fail
    go_quiet ((go_at_call 20; (first | exact Calls.quiet_of_same (L _) | exact Calls.quiet_of_same (C _))))
    have hk1 : ClkAt (W1.drewN nq) 30 b l c n := K0.out
    have ht1 : RdTo b w (W1.drewN nq) := ⟨dwN T0.out.below nq, T0.out.above⟩
    clear p0 p1 p2 K0 T0
    generalize W1.drewN nq = W2 at *
    obtain ⟨c0, c1, c2⟩ := hk1.cells
    obtain ⟨f0, f1⟩ := hk1.frz
    have K2 := Lib.hid hk1
    have T2 := Lib.hid ht1
    clear hk1 ht1
    go_wp2_with fail
    all_goals
      go_end0
      refine ⟨rfl, (T2.out.set 0 _).set 1 _, ?_⟩
      first | exact row_set (row_set K2.out 0 _) 1 _ | (unfold capI; first | (rw [if_pos (by omega)]; exact row_set (row_set K2.out 0 _) 1 _) | (rw [if_neg (by omega)]; exact row_set (row_set K2.out 0 _) 1 _))
  · have W := held_any wall
    have L := heldw_any sl
    have C := heldw_any sc
    generalize heldI sl = x at *
    generalize heldI sc = y at *
    generalize heldI wall = z at *
    have t1 := beq_ff (show x ≠ l by omega)
    have t2 := beq_ff (show l ≠ x by omega)
    go_enter Try.func11, Try.ntmps11
    go_wp2_with fail
    generalize w.alloc (.cells #[.int .i64 sl, .int .i64 sc, .int .i64 sn] 28) = W1 at *
    refine (W _).mono ?_
    rintro e w' ⟨rfl, rfl⟩
    obtain ⟨p0, p1, p2⟩ := hr0.cells
    have K0 := Lib.hid hk0
    have T0 := Lib.hid ht0
    clear hk0 hr0 ht0
    go_wp2_with fail
    go_quiet ((go_at_call 20; (first | exact Calls.quiet_of_same (L _) | exact Calls.quiet_of_same (C _))))
    have hk1 : ClkAt (W1.drewN nq) 30 b l c n := K0.out
    have ht1 : RdTo b w (W1.drewN nq) := ⟨dwN T0.out.below nq, T0.out.above⟩
    clear p0 p1 p2 K0 T0
    generalize W1.drewN nq = W2 at *
    obtain ⟨c0, c1, c2⟩ := hk1.cells
    obtain ⟨f0, f1⟩ := hk1.frz
    have K2 := Lib.hid hk1
    have T2 := Lib.hid ht1
    clear hk1 ht1
    go_wp2_with fail
    all_goals
      go_end0
      refine ⟨rfl, (T2.out.set 0 _).set 1 _, ?_⟩
      first | exact row_set (row_set K2.out 0 _) 1 _ | (unfold capI; first | (rw [if_pos (by omega)]; exact row_set (row_set K2.out 0 _) 1 _) | (rw [if_neg (by omega)]; exact row_set (row_set K2.out 0 _) 1 _))
  · have W := held_any wall
    have L := heldw_any sl
    have C := heldw_any sc
    generalize heldI sl = x at *
    generalize heldI sc = y at *
    generalize heldI wall = z at *
    subst e0
    go_enter Try.func11, Try.ntmps11
    go_wp2_with fail
    generalize w.alloc (.cells #[.int .i64 sl, .int .i64 sc, .int .i64 sn] 28) = W1 at *
    refine (W _).mono ?_
    rintro e w' ⟨rfl, rfl⟩
    obtain ⟨p0, p1, p2⟩ := hr0.cells
    have K0 := Lib.hid hk0
    have T0 := Lib.hid ht0
    clear hk0 hr0 ht0
    go_wp2_with fail
    go_quiet ((go_at_call 20; (first | exact Calls.quiet_of_same (L _) | exact Calls.quiet_of_same (C _))))
    have hk1 : ClkAt (W1.drewN nq) 30 b l c n := K0.out
    have ht1 : RdTo b w (W1.drewN nq) := ⟨dwN T0.out.below nq, T0.out.above⟩
    clear p0 p1 p2 K0 T0
    generalize W1.drewN nq = W2 at *
    obtain ⟨c0, c1, c2⟩ := hk1.cells
    obtain ⟨f0, f1⟩ := hk1.frz
    have K2 := Lib.hid hk1
    have T2 := Lib.hid ht1
    clear hk1 ht1
    go_wp2_with fail
    all_goals
      go_end0
      refine ⟨rfl, (T2.out.set 0 _).set 1 _, ?_⟩
      first | exact row_set (row_set K2.out 0 _) 1 _ | (unfold capI; first | (rw [if_pos (by omega)]; exact row_set (row_set K2.out 0 _) 1 _) | (rw [if_neg (by omega)]; exact row_set (row_set K2.out 0 _) 1 _))
  · have W := held_any wall
    have L := heldw_any sl
    have C := heldw_any sc
    generalize heldI sl = x at *
    generalize heldI sc = y at *
    generalize heldI wall = z at *
    subst e0
    go_enter Try.func11, Try.ntmps11
    go_wp2_with fail
    generalize w.alloc (.cells #[.int .i64 sl, .int .i64 sc, .int .i64 sn] 28) = W1 at *
    refine (W _).mono ?_
    rintro e w' ⟨rfl, rfl⟩
    obtain ⟨p0, p1, p2⟩ := hr0.cells
    have K0 := Lib.hid hk0
    have T0 := Lib.hid ht0
    clear hk0 hr0 ht0
    go_wp2_with fail
    go_quiet ((go_at_call 20; (first | exact Calls.quiet_of_same (L _) | exact Calls.quiet_of_same (C _))))
    have hk1 : ClkAt (W1.drewN nq) 30 b l c n := K0.out
    have ht1 : RdTo b w (W1.drewN nq) := ⟨dwN T0.out.below nq, T0.out.above⟩
    clear p0 p1 p2 K0 T0
    generalize W1.drewN nq = W2 at *
    obtain ⟨c0, c1, c2⟩ := hk1.cells
    obtain ⟨f0, f1⟩ := hk1.frz
    have K2 := Lib.hid hk1
    have T2 := Lib.hid ht1
    clear hk1 ht1
    go_wp2_with fail
    all_goals
      go_end0
      refine ⟨rfl, (T2.out.set 0 _).set 1 _, ?_⟩
      first | exact row_set (row_set K2.out 0 _) 1 _ | (unfold capI; first | (rw [if_pos (by omega)]; exact row_set (row_set K2.out 0 _) 1 _) | (rw [if_neg (by omega)]; exact row_set (row_set K2.out 0 _) 1 _))
end Go.Proofs.Ytedlgaajiofdjaa
