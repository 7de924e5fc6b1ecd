/- What varlen.Size and the document's Size come to. -/
import Derived.Test.YtkeocnobninaaaaBase
namespace Go.Proofs.Ytkeocnobninaaaa
open Go.RowKit Go.Lib

/-- How many bytes a length has; 0, if it is none. -/
def sizeI (n : Int) : Int := if n ≤ -1 then 0 else if n ≤ 127 then 1 else if n ≤ 16383 then 2 else if n ≤ 2097151 then 3 else if n ≤ 268435455 then 4 else 0

theorem size_neg {n : Int} (h : n ≤ -1) : sizeI n = 0 := by unfold sizeI; rw [if_pos h]
theorem size_1 {n : Int} (h : 0 ≤ n) (h1 : n ≤ 127) : sizeI n = 1 := by unfold sizeI; rw [if_neg (by omega), if_pos h1]
theorem size_2 {n : Int} (h : 128 ≤ n) (h1 : n ≤ 16383) : sizeI n = 2 := by unfold sizeI; rw [if_neg (by omega), if_neg (by omega), if_pos h1]
theorem size_3 {n : Int} (h : 16384 ≤ n) (h1 : n ≤ 2097151) : sizeI n = 3 := by unfold sizeI; rw [if_neg (by omega), if_neg (by omega), if_neg (by omega), if_pos h1]
theorem size_4 {n : Int} (h : 2097152 ≤ n) (h1 : n ≤ 268435455) : sizeI n = 4 := by unfold sizeI; rw [if_neg (by omega), if_neg (by omega), if_neg (by omega), if_neg (by omega), if_pos h1]
theorem size_big {n : Int} (h : 268435456 ≤ n) : sizeI n = 0 := by unfold sizeI; rw [if_neg (by omega), if_neg (by omega), if_neg (by omega), if_neg (by omega), if_neg (by omega)]
theorem size_le (n : Int) : 0 ≤ sizeI n ∧ sizeI n ≤ 4 := by
  unfold sizeI
  repeat' split
  all_goals omega

set_option maxRecDepth 100000 in
set_option maxHeartbeats 1000000 in
/-- varlen.Size. -/
theorem size_any (n : Int) (hl : -9223372036854775808 ≤ n) (hh : n ≤ 9223372036854775807) (w : World) :
    Calls Try.prog 93 #[.int .i64 n] w fun e w' => e = .returned (.int .i64 (sizeI n)) ∧ w = w' := by
  by_cases h0 : n ≤ -1
  · rw [size_neg h0]
    go_enter Try.func93, Try.ntmps93
    go_wp2
    go_ret
    exact ⟨rfl, rfl⟩
  by_cases h5 : 268435456 ≤ n
  · rw [size_big h5]
    go_enter Try.func93, Try.ntmps93
    go_wp2
    go_ret
    exact ⟨rfl, rfl⟩
  by_cases h1 : n ≤ 127
  · rw [size_1 (by omega) h1]
    go_enter Try.func93, Try.ntmps93
    go_wp2
    refine wp_loop_rounds 1 ?_
    rw [rounds_succ]
    go_wp2
    go_ret
    exact ⟨rfl, rfl⟩
  by_cases h2 : n ≤ 16383
  · rw [size_2 (by omega) h2]
    go_enter Try.func93, Try.ntmps93
    go_wp2
    refine wp_loop_rounds 2 ?_
    rw [rounds_succ]
    go_wp2
    rw [rounds_succ]
    go_wp2
    go_ret
    exact ⟨rfl, rfl⟩
  by_cases h3 : n ≤ 2097151
  · rw [size_3 (by omega) h3]
    go_enter Try.func93, Try.ntmps93
    go_wp2
    refine wp_loop_rounds 3 ?_
    rw [rounds_succ]
    go_wp2
    rw [rounds_succ]
    go_wp2
    rw [rounds_succ]
    go_wp2
    go_ret
    exact ⟨rfl, rfl⟩
  · rw [size_4 (by omega) (by omega)]
    go_enter Try.func93, Try.ntmps93
    go_wp2
    refine wp_loop_rounds 4 ?_
    rw [rounds_succ]
    go_wp2
    rw [rounds_succ]
    go_wp2
    rw [rounds_succ]
    go_wp2
    rw [rounds_succ]
    go_wp2
    go_ret
    exact ⟨rfl, rfl⟩

set_option maxRecDepth 100000 in
set_option maxHeartbeats 1000000 in
/-- The document's Size. -/
theorem rsize_any (n : Int) (hl : -9223372036854775808 ≤ n) (hh : n ≤ 9223372036854775807) (w : World) :
    Calls Try.prog 70 #[.int .i64 n] w fun e w' => e = .returned (.int .i64 (sizeI n)) ∧ w = w' := by
  by_cases h0 : n ≤ -1
  · rw [size_neg h0]
    go_enter Try.func70, Try.ntmps70
    go_wp2
    go_ret
    exact ⟨rfl, rfl⟩
  by_cases h5 : 268435456 ≤ n
  · rw [size_big h5]
    go_enter Try.func70, Try.ntmps70
    go_wp2
    go_ret
    exact ⟨rfl, rfl⟩
  by_cases h1 : n ≤ 127
  · rw [size_1 (by omega) h1]
    go_enter Try.func70, Try.ntmps70
    go_wp2
    go_ret
    exact ⟨rfl, rfl⟩
  by_cases h2 : n ≤ 16383
  · rw [size_2 (by omega) h2]
    go_enter Try.func70, Try.ntmps70
    go_wp2
    go_ret
    exact ⟨rfl, rfl⟩
  by_cases h3 : n ≤ 2097151
  · rw [size_3 (by omega) h3]
    go_enter Try.func70, Try.ntmps70
    go_wp2
    go_ret
    exact ⟨rfl, rfl⟩
  · rw [size_4 (by omega) (by omega)]
    go_enter Try.func70, Try.ntmps70
    go_wp2
    go_ret
    exact ⟨rfl, rfl⟩
end Go.Proofs.Ytkeocnobninaaaa
