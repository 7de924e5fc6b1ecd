/- What the document's Put comes to. -/
import Derived.Test.YtkeocnobninaaaaPut
namespace Go.Proofs.Ytkeocnobninaaaa
open Go.RowKit Go.Lib

theorem lit_cells (w : World) (t : TypeId) (news : List Value) (C : Array Value) (hC : C = news.toArray) : ∀ j u, news[j]? = some u → (w.alloc (.cells C t)).cell? (Addr.add ⟨w.heap.size, 0, none⟩ j) = some u := by
  intro j u hj
  rw [show (Addr.add ⟨w.heap.size, 0, none⟩ j) = ⟨w.heap.size, j, none⟩ by simp [Addr.add]; exact fun h => h.symm]
  rw [cell_of_row (w.alloc (.cells C t)) w.heap.size j C t (0, 0) (heap_alloc_new w _), hC]
  simpa using hj

theorem i64_and127 (x : Int) (h0 : 0 ≤ x) (h1 : x ≤ 268435455) : bits .and .i64 x 127 = x % 128 := by
  obtain ⟨n, rfl⟩ := Int.eq_ofNat_of_zero_le h0
  show IntKind.i64.wrap ((BitVec.ofInt 64 (n : Int) &&& BitVec.ofInt 64 127).toNat : Int) = _
  have e : (BitVec.ofInt 64 (n : Int)).toNat = n := by rw [BitVec.ofInt_natCast, BitVec.toNat_ofNat]; exact Nat.mod_eq_of_lt (by omega)
  have e2 : (BitVec.ofInt 64 127).toNat = 127 := by decide
  rw [BitVec.toNat_and, e, e2, show n &&& 127 = n % 128 from Nat.and_two_pow_sub_one_eq_mod n 7, IntKind.wrap_i64]
  omega
theorem low7 (x : Int) (h0 : 0 ≤ x) (h1 : x ≤ 268435455) : bits .or .u8 (bits .and .i64 x 127 % 256) 128 = x % 128 + 128 := by
  rw [i64_and127 x h0 h1, or_more]
  omega
theorem top7 (x : Int) (h0 : 0 ≤ x) (h1 : x ≤ 127) : bits .and .i64 x 127 % 256 = x := by
  rw [i64_and127 x h0 (by omega)]
  omega

set_option maxRecDepth 100000 in
set_option maxHeartbeats 1000000 in
theorem rput1 (n : Int) (h : 0 ≤ n) (h1 : n ≤ 127) (w : World) :
    Calls Try.prog 40 #[.int .i64 n] w fun e w' => ∃ v, e = .returned (.tuple #[v, .int .i64 0]) ∧ w'.ownsRow w.heap.size 5 1 v 1 (putC n).toList ∧ Below w.heap.size w w' := by
  obtain ⟨i0, hi, hz0, hz1, hz2⟩ := info_parts Try.info5
  have hs := fun W => rsize_any n (by omega) (by omega) W
  rw [size_1 h h1] at hs
  have hC := Lib.hid (putC_eq n)
  go_enter Try.func40, Try.ntmps40
  go_wp2_with fail
  refine (hs _).mono ?_
  rintro e w1 ⟨rfl, rfl⟩
  go_wp2_with fail
  refine wp_loop_rounds 2 ?_
  rw [rounds_succ]
  go_wp2_with (at_builtin; go_must (refine wpList_append_own _ rfl _ _ 22 rfl w.heap.size 5 i0 (.int .u8 0) 1 1 Try.underlying22 hi hz0 hz1 hz2 rfl (by decide) _ _ _ rfl ((World.ownsRow_nil _ _ _ _).alloc _) ⟨_, 0, none⟩ 1 1 [.int .u8 _] rfl rfl (lit_cells _ _ _ _ rfl) (by simp [Value.oneCell']) (by unfold maxLen; omega) (by omega) (by first | omega | (simp; done) | (simp; omega)) ?_))
  intro v1 w2 hown1 hgrow1 _
  have B1 := ((Below.refl w.heap.size w).alloc (Nat.le_refl _) _).grown hgrow1 (by simp) (fun g hg => by cases hg)
  have s1 := B1.size
  go_wp2_with fail
  rw [rounds_succ]
  go_wp2_with fail
  go_ret2
  refine ⟨v1, rfl, ?_, B1⟩
  rw [top7 n (by omega) (by omega)] at hown1
  rw [hC.out, put_1 h h1]
  exact hown1

set_option maxRecDepth 100000 in
set_option maxHeartbeats 1000000 in
theorem rput2 (n : Int) (h : 128 ≤ n) (h1 : n ≤ 16383) (w : World) :
    Calls Try.prog 40 #[.int .i64 n] w fun e w' => ∃ v, e = .returned (.tuple #[v, .int .i64 0]) ∧ w'.ownsRow w.heap.size 5 1 v 2 (putC n).toList ∧ Below w.heap.size w w' := by
  obtain ⟨i0, hi, hz0, hz1, hz2⟩ := info_parts Try.info5
  have hs := fun W => rsize_any n (by omega) (by omega) W
  rw [size_2 h h1] at hs
  have hC := Lib.hid (putC_eq n)
  go_enter Try.func40, Try.ntmps40
  go_wp2_with fail
  refine (hs _).mono ?_
  rintro e w1 ⟨rfl, rfl⟩
  go_wp2_with fail
  refine wp_loop_rounds 3 ?_
  rw [rounds_succ]
  go_wp2_with (at_builtin; go_must (refine wpList_append_own _ rfl _ _ 22 rfl w.heap.size 5 i0 (.int .u8 0) 1 1 Try.underlying22 hi hz0 hz1 hz2 rfl (by decide) _ _ _ rfl ((World.ownsRow_nil _ _ _ _).alloc _) ⟨_, 0, none⟩ 1 1 [.int .u8 _] rfl rfl (lit_cells _ _ _ _ rfl) (by simp [Value.oneCell']) (by unfold maxLen; omega) (by omega) (by first | omega | (simp; done) | (simp; omega)) ?_))
  intro v1 w2 hown1 hgrow1 _
  have B1 := ((Below.refl w.heap.size w).alloc (Nat.le_refl _) _).grown hgrow1 (by simp) (fun g hg => by cases hg)
  have s1 := B1.size
  go_wp2_with fail
  rw [rounds_succ]
  go_wp2_with (at_builtin; go_must (refine wpList_append_own _ rfl _ _ 22 rfl w.heap.size 5 i0 (.int .u8 0) 1 1 Try.underlying22 hi hz0 hz1 hz2 rfl (by decide) _ _ _ rfl (hown1.alloc _) ⟨_, 0, none⟩ 1 1 [.int .u8 _] rfl rfl (lit_cells _ _ _ _ rfl) (by simp [Value.oneCell']) (by unfold maxLen; omega) (by omega) (by first | omega | (simp; done) | (simp; omega)) ?_))
  intro v2 w3 hown2 hgrow2 _
  have B2 := (B1.alloc s1 _).grown hgrow2 (by simp; omega) (fun g hg => (hown1.lt g hg).1)
  have s2 := B2.size
  go_wp2_with fail
  rw [rounds_succ]
  go_wp2_with fail
  go_ret2
  refine ⟨v2, rfl, ?_, B2⟩
  rw [low7 n (by omega) (by omega), top7 (n / 128) (by omega) (by omega)] at hown2
  rw [hC.out, put_2 h h1]
  exact hown2

set_option maxRecDepth 100000 in
set_option maxHeartbeats 1000000 in
theorem rput3 (n : Int) (h : 16384 ≤ n) (h1 : n ≤ 2097151) (w : World) :
    Calls Try.prog 40 #[.int .i64 n] w fun e w' => ∃ v, e = .returned (.tuple #[v, .int .i64 0]) ∧ w'.ownsRow w.heap.size 5 1 v 3 (putC n).toList ∧ Below w.heap.size w w' := by
  obtain ⟨i0, hi, hz0, hz1, hz2⟩ := info_parts Try.info5
  have hs := fun W => rsize_any n (by omega) (by omega) W
  rw [size_3 h h1] at hs
  have hC := Lib.hid (putC_eq n)
  go_enter Try.func40, Try.ntmps40
  go_wp2_with fail
  refine (hs _).mono ?_
  rintro e w1 ⟨rfl, rfl⟩
  go_wp2_with fail
  refine wp_loop_rounds 4 ?_
  rw [rounds_succ]
  go_wp2_with (at_builtin; go_must (refine wpList_append_own _ rfl _ _ 22 rfl w.heap.size 5 i0 (.int .u8 0) 1 1 Try.underlying22 hi hz0 hz1 hz2 rfl (by decide) _ _ _ rfl ((World.ownsRow_nil _ _ _ _).alloc _) ⟨_, 0, none⟩ 1 1 [.int .u8 _] rfl rfl (lit_cells _ _ _ _ rfl) (by simp [Value.oneCell']) (by unfold maxLen; omega) (by omega) (by first | omega | (simp; done) | (simp; omega)) ?_))
  intro v1 w2 hown1 hgrow1 _
  have B1 := ((Below.refl w.heap.size w).alloc (Nat.le_refl _) _).grown hgrow1 (by simp) (fun g hg => by cases hg)
  have s1 := B1.size
  go_wp2_with fail
  rw [rounds_succ]
  go_wp2_with (at_builtin; go_must (refine wpList_append_own _ rfl _ _ 22 rfl w.heap.size 5 i0 (.int .u8 0) 1 1 Try.underlying22 hi hz0 hz1 hz2 rfl (by decide) _ _ _ rfl (hown1.alloc _) ⟨_, 0, none⟩ 1 1 [.int .u8 _] rfl rfl (lit_cells _ _ _ _ rfl) (by simp [Value.oneCell']) (by unfold maxLen; omega) (by omega) (by first | omega | (simp; done) | (simp; omega)) ?_))
  intro v2 w3 hown2 hgrow2 _
  have B2 := (B1.alloc s1 _).grown hgrow2 (by simp; omega) (fun g hg => (hown1.lt g hg).1)
  have s2 := B2.size
  go_wp2_with fail
  rw [rounds_succ]
  go_wp2_with (at_builtin; go_must (refine wpList_append_own _ rfl _ _ 22 rfl w.heap.size 5 i0 (.int .u8 0) 1 1 Try.underlying22 hi hz0 hz1 hz2 rfl (by decide) _ _ _ rfl (hown2.alloc _) ⟨_, 0, none⟩ 1 1 [.int .u8 _] rfl rfl (lit_cells _ _ _ _ rfl) (by simp [Value.oneCell']) (by unfold maxLen; omega) (by omega) (by first | omega | (simp; done) | (simp; omega)) ?_))
  intro v3 w4 hown3 hgrow3 _
  have B3 := (B2.alloc s2 _).grown hgrow3 (by simp; omega) (fun g hg => (hown2.lt g hg).1)
  have s3 := B3.size
  go_wp2_with fail
  rw [rounds_succ]
  go_wp2_with fail
  go_ret2
  refine ⟨v3, rfl, ?_, B3⟩
  rw [low7 n (by omega) (by omega), low7 (n / 128) (by omega) (by omega), top7 (n / 16384) (by omega) (by omega)] at hown3
  rw [hC.out, put_3 h h1]
  exact hown3

set_option maxRecDepth 100000 in
set_option maxHeartbeats 1000000 in
theorem rput4 (n : Int) (h : 2097152 ≤ n) (h1 : n ≤ 268435455) (w : World) :
    Calls Try.prog 40 #[.int .i64 n] w fun e w' => ∃ v, e = .returned (.tuple #[v, .int .i64 0]) ∧ w'.ownsRow w.heap.size 5 1 v 4 (putC n).toList ∧ Below w.heap.size w w' := by
  obtain ⟨i0, hi, hz0, hz1, hz2⟩ := info_parts Try.info5
  have hs := fun W => rsize_any n (by omega) (by omega) W
  rw [size_4 h h1] at hs
  have hC := Lib.hid (putC_eq n)
  go_enter Try.func40, Try.ntmps40
  go_wp2_with fail
  refine (hs _).mono ?_
  rintro e w1 ⟨rfl, rfl⟩
  go_wp2_with fail
  refine wp_loop_rounds 5 ?_
  rw [rounds_succ]
  go_wp2_with (at_builtin; go_must (refine wpList_append_own _ rfl _ _ 22 rfl w.heap.size 5 i0 (.int .u8 0) 1 1 Try.underlying22 hi hz0 hz1 hz2 rfl (by decide) _ _ _ rfl ((World.ownsRow_nil _ _ _ _).alloc _) ⟨_, 0, none⟩ 1 1 [.int .u8 _] rfl rfl (lit_cells _ _ _ _ rfl) (by simp [Value.oneCell']) (by unfold maxLen; omega) (by omega) (by first | omega | (simp; done) | (simp; omega)) ?_))
  intro v1 w2 hown1 hgrow1 _
  have B1 := ((Below.refl w.heap.size w).alloc (Nat.le_refl _) _).grown hgrow1 (by simp) (fun g hg => by cases hg)
  have s1 := B1.size
  go_wp2_with fail
  rw [rounds_succ]
  go_wp2_with (at_builtin; go_must (refine wpList_append_own _ rfl _ _ 22 rfl w.heap.size 5 i0 (.int .u8 0) 1 1 Try.underlying22 hi hz0 hz1 hz2 rfl (by decide) _ _ _ rfl (hown1.alloc _) ⟨_, 0, none⟩ 1 1 [.int .u8 _] rfl rfl (lit_cells _ _ _ _ rfl) (by simp [Value.oneCell']) (by unfold maxLen; omega) (by omega) (by first | omega | (simp; done) | (simp; omega)) ?_))
  intro v2 w3 hown2 hgrow2 _
  have B2 := (B1.alloc s1 _).grown hgrow2 (by simp; omega) (fun g hg => (hown1.lt g hg).1)
  have s2 := B2.size
  go_wp2_with fail
  rw [rounds_succ]
  go_wp2_with (at_builtin; go_must (refine wpList_append_own _ rfl _ _ 22 rfl w.heap.size 5 i0 (.int .u8 0) 1 1 Try.underlying22 hi hz0 hz1 hz2 rfl (by decide) _ _ _ rfl (hown2.alloc _) ⟨_, 0, none⟩ 1 1 [.int .u8 _] rfl rfl (lit_cells _ _ _ _ rfl) (by simp [Value.oneCell']) (by unfold maxLen; omega) (by omega) (by first | omega | (simp; done) | (simp; omega)) ?_))
  intro v3 w4 hown3 hgrow3 _
  have B3 := (B2.alloc s2 _).grown hgrow3 (by simp; omega) (fun g hg => (hown2.lt g hg).1)
  have s3 := B3.size
  go_wp2_with fail
  rw [rounds_succ]
  go_wp2_with (at_builtin; go_must (refine wpList_append_own _ rfl _ _ 22 rfl w.heap.size 5 i0 (.int .u8 0) 1 1 Try.underlying22 hi hz0 hz1 hz2 rfl (by decide) _ _ _ rfl (hown3.alloc _) ⟨_, 0, none⟩ 1 1 [.int .u8 _] rfl rfl (lit_cells _ _ _ _ rfl) (by simp [Value.oneCell']) (by unfold maxLen; omega) (by omega) (by first | omega | (simp; done) | (simp; omega)) ?_))
  intro v4 w5 hown4 hgrow4 _
  have B4 := (B3.alloc s3 _).grown hgrow4 (by simp; omega) (fun g hg => (hown3.lt g hg).1)
  have s4 := B4.size
  go_wp2_with fail
  rw [rounds_succ]
  go_wp2_with fail
  go_ret2
  refine ⟨v4, rfl, ?_, B4⟩
  rw [low7 n (by omega) (by omega), low7 (n / 128) (by omega) (by omega), low7 (n / 16384) (by omega) (by omega), top7 (n / 2097152) (by omega) (by omega)] at hown4
  rw [hC.out, put_4 h h1]
  exact hown4

/-- Both Puts of a length. -/
theorem put_ok (n : Int) (h : 0 ≤ n) (h1 : n ≤ 268435455) (w : World) :
    Calls Try.prog 60 #[.int .i64 n] w fun e w' => ∃ A c, e = .returned (.tuple #[.slice A (putL n).length c, .int .i64 0]) ∧ BytesAt w' w'.heap.size (.slice A (putL n).length c) (putL n) ∧ Below w.heap.size w w' := by
  have key : ∀ k : Nat, (putL n).length = k → Calls Try.prog 60 #[.int .i64 n] w (fun e w' => e = .returned (.tuple #[.slice (some ⟨w.heap.size, 0, none⟩) k k, .int .i64 0]) ∧ w' = w.alloc (.cells (putC n) 5)) →
      Calls Try.prog 60 #[.int .i64 n] w fun e w' => ∃ A c, e = .returned (.tuple #[.slice A (putL n).length c, .int .i64 0]) ∧ BytesAt w' w'.heap.size (.slice A (putL n).length c) (putL n) ∧ Below w.heap.size w w' := by
    intro k hk hc
    refine hc.mono ?_
    rintro e w' ⟨rfl, rfl⟩
    refine ⟨some ⟨w.heap.size, 0, none⟩, k, by rw [hk], ?_, (Below.refl _ _).alloc (Nat.le_refl _) _⟩
    have hb := bytesAt_new w (putL n) (putC n) (0, 0) rfl (by have := putL_len n; unfold maxLen; omega)
    rw [World.size_alloc]
    rw [hk] at hb ⊢
    exact hb
  by_cases q1 : n ≤ 127
  · exact key 1 (by unfold putL; rw [put_1 h q1]; rfl) (put1 n h q1 w)
  by_cases q2 : n ≤ 16383
  · exact key 2 (by unfold putL; rw [put_2 (by omega) q2]; rfl) (put2 n (by omega) q2 w)
  by_cases q3 : n ≤ 2097151
  · exact key 3 (by unfold putL; rw [put_3 (by omega) q3]; rfl) (put3 n (by omega) q3 w)
  · exact key 4 (by unfold putL; rw [put_4 (by omega) h1]; rfl) (put4 n (by omega) h1 w)
theorem rput_ok (n : Int) (h : 0 ≤ n) (h1 : n ≤ 268435455) (w : World) :
    Calls Try.prog 40 #[.int .i64 n] w fun e w' => ∃ A c, e = .returned (.tuple #[.slice A (putL n).length c, .int .i64 0]) ∧ BytesAt w' w'.heap.size (.slice A (putL n).length c) (putL n) ∧ Below w.heap.size w w' := by
  have key : ∀ k : Nat, (putL n).length = k → Calls Try.prog 40 #[.int .i64 n] w (fun e w' => ∃ v, e = .returned (.tuple #[v, .int .i64 0]) ∧ w'.ownsRow w.heap.size 5 1 v k (putC n).toList ∧ Below w.heap.size w w') →
      Calls Try.prog 40 #[.int .i64 n] w fun e w' => ∃ A c, e = .returned (.tuple #[.slice A (putL n).length c, .int .i64 0]) ∧ BytesAt w' w'.heap.size (.slice A (putL n).length c) (putL n) ∧ Below w.heap.size w w' := by
    intro k hk hc
    refine hc.mono ?_
    rintro e w' ⟨v, rfl, ho, hb⟩
    rw [← hk] at ho
    have hv := ownsBytes ho
    obtain ⟨A, c, rfl, _⟩ := id hv
    exact ⟨A, c, rfl, hv, hb⟩
  by_cases q1 : n ≤ 127
  · exact key 1 (by unfold putL; rw [put_1 h q1]; rfl) (rput1 n h q1 w)
  by_cases q2 : n ≤ 16383
  · exact key 2 (by unfold putL; rw [put_2 (by omega) q2]; rfl) (rput2 n (by omega) q2 w)
  by_cases q3 : n ≤ 2097151
  · exact key 3 (by unfold putL; rw [put_3 (by omega) q3]; rfl) (rput3 n (by omega) q3 w)
  · exact key 4 (by unfold putL; rw [put_4 (by omega) h1]; rfl) (rput4 n (by omega) h1 w)

set_option maxRecDepth 100000 in
set_option maxHeartbeats 1000000 in
theorem put_no (n : Int) (h : n ≤ -1 ∨ 268435456 ≤ n) (hl : -9223372036854775808 ≤ n) (hh : n ≤ 9223372036854775807) (w : World) :
    Calls Try.prog 60 #[.int .i64 n] w fun e w' => e = .returned (.tuple #[.slice none 0 0, .int .i64 31]) ∧ w = w' := by
  have hs := fun W => size_any n hl hh W
  rw [show sizeI n = 0 by rcases h with h | h; exact size_neg h; exact size_big h] at hs
  clear h
  go_enter Try.func60, Try.ntmps60
  go_wp2_with fail
  refine (hs _).mono ?_
  rintro e w1 ⟨rfl, rfl⟩
  go_wp2_with fail
  go_ret2
  exact ⟨rfl, rfl⟩
set_option maxRecDepth 100000 in
set_option maxHeartbeats 1000000 in
theorem rput_no (n : Int) (h : n ≤ -1 ∨ 268435456 ≤ n) (hl : -9223372036854775808 ≤ n) (hh : n ≤ 9223372036854775807) (w : World) :
    Calls Try.prog 40 #[.int .i64 n] w fun e w' => e = .returned (.tuple #[.slice none 0 0, .int .i64 31]) ∧ w = w' := by
  have hs := fun W => rsize_any n hl hh W
  rw [show sizeI n = 0 by rcases h with h | h; exact size_neg h; exact size_big h] at hs
  clear h
  go_enter Try.func40, Try.ntmps40
  go_wp2_with fail
  refine (hs _).mono ?_
  rintro e w1 ⟨rfl, rfl⟩
  go_wp2_with fail
  go_ret2
  exact ⟨rfl, rfl⟩

/-- What Put's error is. -/
def errI (n : Int) : Int := if n ≤ -1 ∨ 268435456 ≤ n then 31 else 0
/-- varlen.Put. -/
theorem put_any (n : Int) (hl : -9223372036854775808 ≤ n) (hh : n ≤ 9223372036854775807) (w : World) :
    Calls Try.prog 60 #[.int .i64 n] w fun e w' => ∃ A c, e = .returned (.tuple #[.slice A (putL n).length c, .int .i64 (errI n)]) ∧ BytesAt w' w'.heap.size (.slice A (putL n).length c) (putL n) ∧ Below w.heap.size w w' := by
  by_cases h : n ≤ -1 ∨ 268435456 ≤ n
  · have e1 : putL n = [] := by unfold putL; rw [put_none h]; rfl
    have e2 : errI n = 31 := if_pos h
    rw [e1, e2]
    refine (put_no n h hl hh w).mono ?_
    rintro e w' ⟨rfl, rfl⟩
    exact ⟨none, 0, rfl, ⟨none, 0, rfl, by simp, by decide, fun _ => rfl, by simp, by simp⟩, Below.refl _ _⟩
  · have e2 : errI n = 0 := if_neg h
    rw [e2]
    exact put_ok n (by omega) (by omega) w
/-- The document's Put. -/
theorem rput_any (n : Int) (hl : -9223372036854775808 ≤ n) (hh : n ≤ 9223372036854775807) (w : World) :
    Calls Try.prog 40 #[.int .i64 n] w fun e w' => ∃ A c, e = .returned (.tuple #[.slice A (putL n).length c, .int .i64 (errI n)]) ∧ BytesAt w' w'.heap.size (.slice A (putL n).length c) (putL n) ∧ Below w.heap.size w w' := by
  by_cases h : n ≤ -1 ∨ 268435456 ≤ n
  · have e1 : putL n = [] := by unfold putL; rw [put_none h]; rfl
    have e2 : errI n = 31 := if_pos h
    rw [e1, e2]
    refine (rput_no n h hl hh w).mono ?_
    rintro e w' ⟨rfl, rfl⟩
    exact ⟨none, 0, rfl, ⟨none, 0, rfl, by simp, by decide, fun _ => rfl, by simp, by simp⟩, Below.refl _ _⟩
  · have e2 : errI n = 0 := if_neg h
    rw [e2]
    exact rput_ok n (by omega) (by omega) w
end Go.Proofs.Ytkeocnobninaaaa
