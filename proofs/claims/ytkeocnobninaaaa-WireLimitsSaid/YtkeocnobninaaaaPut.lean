/- What varlen.Put comes to. -/
import Derived.Test.YtkeocnobninaaaaSize
namespace Go.Proofs.Ytkeocnobninaaaa
open Go.RowKit Go.Lib

/-- A length's bytes, as numbers. -/
def putZ (n : Int) : List Int := if n ≤ -1 then [] else if n ≤ 127 then [n] else if n ≤ 16383 then [n % 128 + 128, n / 128] else if n ≤ 2097151 then [n % 128 + 128, n / 128 % 128 + 128, n / 16384] else if n ≤ 268435455 then [n % 128 + 128, n / 128 % 128 + 128, n / 16384 % 128 + 128, n / 2097152] else []
def putL (n : Int) : List UInt8 := (putZ n).map fun b => UInt8.ofNat b.toNat

theorem or_more (x : Int) : bits .or .u8 (x % 256) 128 = x % 128 + 128 := by
  have key : ∀ y : Fin 256, bits .or .u8 (y.val : Int) 128 = (y.val : Int) % 128 + 128 := by decide +kernel
  have h1 := key ⟨(x % 256).toNat, by omega⟩
  simp only [Int.toNat_of_nonneg (show 0 ≤ x % 256 by omega)] at h1
  rw [h1]
  omega
theorem or_last (x : Int) (h : 0 ≤ x) (h1 : x ≤ 127) : bits .andNot .u8 (bits .or .u8 x 128) 128 = x := by
  have key : ∀ y : Fin 128, bits .andNot .u8 (bits .or .u8 (y.val : Int) 128) 128 = (y.val : Int) := by decide +kernel
  have h1 := key ⟨x.toNat, by omega⟩
  simp only [Int.toNat_of_nonneg h] at h1
  exact h1
theorem put_cells (l : List Int) (h : ∀ b ∈ l, 0 ≤ b ∧ b ≤ 255) : (l.map fun b => UInt8.ofNat b.toNat).map (fun b => Value.int .u8 (b.toNat : Int)) = l.map (Value.int .u8) := by
  rw [List.map_map]
  apply List.map_congr_left
  intro b hb
  have := h b hb
  show Value.int .u8 ((UInt8.ofNat b.toNat).toNat : Int) = Value.int .u8 b
  rw [show (UInt8.ofNat b.toNat).toNat = b.toNat by rw [UInt8.toNat_ofNat']; omega]
  congr 1
  omega
theorem put_1 {n : Int} (h : 0 ≤ n) (h1 : n ≤ 127) : putZ n = [n] := by unfold putZ; rw [if_neg (by omega), if_pos h1]
theorem put_2 {n : Int} (h : 128 ≤ n) (h1 : n ≤ 16383) : putZ n = [n % 128 + 128, n / 128] := by unfold putZ; rw [if_neg (by omega), if_neg (by omega), if_pos h1]
theorem put_3 {n : Int} (h : 16384 ≤ n) (h1 : n ≤ 2097151) : putZ n = [n % 128 + 128, n / 128 % 128 + 128, n / 16384] := by unfold putZ; rw [if_neg (by omega), if_neg (by omega), if_neg (by omega), if_pos h1]
theorem put_4 {n : Int} (h : 2097152 ≤ n) (h1 : n ≤ 268435455) : putZ n = [n % 128 + 128, n / 128 % 128 + 128, n / 16384 % 128 + 128, n / 2097152] := by unfold putZ; rw [if_neg (by omega), if_neg (by omega), if_neg (by omega), if_neg (by omega), if_pos h1]
theorem put_none {n : Int} (h : n ≤ -1 ∨ 268435456 ≤ n) : putZ n = [] := by
  unfold putZ
  by_cases h0 : n ≤ -1
  · rw [if_pos h0]
  · rw [if_neg h0, if_neg (by omega), if_neg (by omega), if_neg (by omega), if_neg (by omega)]
theorem put_small (n : Int) : ∀ b ∈ putZ n, 0 ≤ b ∧ b ≤ 255 := by
  unfold putZ
  intro b hb
  repeat' split at hb
  all_goals
    simp at hb
    try omega
theorem putL_len (n : Int) : (putL n).length ≤ 4 := by
  unfold putL putZ
  rw [List.length_map]
  repeat' split
  all_goals simp
/-- A length's bytes as cells. -/
def putC (n : Int) : Array Value := ((putL n).map fun b => Value.int .u8 (b.toNat : Int)).toArray
theorem putC_eq (n : Int) : putC n = ((putZ n).map (Value.int .u8)).toArray := by
  unfold putC putL
  rw [put_cells _ (put_small n)]

theorem make_n (k : Nat) (hk : k ≤ 4) (C : Array Value) (hC : C = (List.replicate k (Value.int .u8 0)).toArray) (w : World) :
    (Instr.makeSlice 22 (.int .i64 (k : Int)) (.int .i64 (k : Int))).run Try.prog w = .ok (.slice (some ⟨w.heap.size, 0, none⟩) k k) (w.alloc (.cells C 5)) := by
  obtain ⟨i0, hi, hz0, hz1, hz2⟩ := info_parts Try.info5
  have hm := run_make (P := Try.prog) w 22 5 i0 _ Try.underlying22 hi hz0 .i64 .i64 (k : Int) (k : Int) (by omega) (by omega) (by rw [hz2]; omega) (by omega)
  simp only [Int.toNat_natCast] at hm
  have e : madeCells (Value.int .u8 0).cells (k * i0.size) = C := by
    apply Array.toList_inj.1
    rw [hz1, Nat.mul_one, hC]
    exact toList_madeCells_one _ _
  rw [hm, e]
theorem make1 (w : World) : (Instr.makeSlice 22 (.int .i64 1) (.int .i64 1)).run Try.prog w = .ok (.slice (some ⟨w.heap.size, 0, none⟩) 1 1) (w.alloc (.cells #[.int .u8 0] 5)) := make_n 1 (by omega) _ rfl w
theorem make2 (w : World) : (Instr.makeSlice 22 (.int .i64 2) (.int .i64 2)).run Try.prog w = .ok (.slice (some ⟨w.heap.size, 0, none⟩) 2 2) (w.alloc (.cells #[.int .u8 0, .int .u8 0] 5)) := make_n 2 (by omega) _ rfl w
theorem make3 (w : World) : (Instr.makeSlice 22 (.int .i64 3) (.int .i64 3)).run Try.prog w = .ok (.slice (some ⟨w.heap.size, 0, none⟩) 3 3) (w.alloc (.cells #[.int .u8 0, .int .u8 0, .int .u8 0] 5)) := make_n 3 (by omega) _ rfl w
theorem make4 (w : World) : (Instr.makeSlice 22 (.int .i64 4) (.int .i64 4)).run Try.prog w = .ok (.slice (some ⟨w.heap.size, 0, none⟩) 4 4) (w.alloc (.cells #[.int .u8 0, .int .u8 0, .int .u8 0, .int .u8 0] 5)) := make_n 4 (by omega) _ rfl w

set_option maxRecDepth 100000 in
set_option maxHeartbeats 1000000 in
theorem put1 (n : Int) (h : 0 ≤ n) (h1 : n ≤ 127) (w : World) :
    Calls Try.prog 60 #[.int .i64 n] w fun e w' => e = .returned (.tuple #[.slice (some ⟨w.heap.size, 0, none⟩) 1 1, .int .i64 0]) ∧ w' = w.alloc (.cells (putC n) 5) := by
  have hs := fun W => size_any n (by omega) (by omega) W
  rw [size_1 h h1] at hs
  have hm := make1
  have hC := Lib.hid (putC_eq n)
  go_enter Try.func60, Try.ntmps60
  go_wp2_with fail
  refine (hs _).mono ?_
  rintro e w1 ⟨rfl, rfl⟩
  go_wp2_with fail
  refine wp_loop_rounds 2 ?_
  rw [rounds_succ]
  go_wp2
  rw [rounds_succ]
  go_wp2
  go_ret2
  refine ⟨rfl, ?_⟩
  rw [hC.out, put_1 h h1]
  rw [or_last n (by omega) (by omega)]
  rfl

set_option maxRecDepth 100000 in
set_option maxHeartbeats 1000000 in
theorem put2 (n : Int) (h : 128 ≤ n) (h1 : n ≤ 16383) (w : World) :
    Calls Try.prog 60 #[.int .i64 n] w fun e w' => e = .returned (.tuple #[.slice (some ⟨w.heap.size, 0, none⟩) 2 2, .int .i64 0]) ∧ w' = w.alloc (.cells (putC n) 5) := by
  have hs := fun W => size_any n (by omega) (by omega) W
  rw [size_2 h h1] at hs
  have hm := make2
  have hC := Lib.hid (putC_eq n)
  go_enter Try.func60, Try.ntmps60
  go_wp2_with fail
  refine (hs _).mono ?_
  rintro e w1 ⟨rfl, rfl⟩
  go_wp2_with fail
  refine wp_loop_rounds 3 ?_
  rw [rounds_succ]
  go_wp2
  rw [rounds_succ]
  go_wp2
  rw [rounds_succ]
  go_wp2
  go_ret2
  refine ⟨rfl, ?_⟩
  rw [hC.out, put_2 h h1]
  rw [or_last (n / 128) (by omega) (by omega), or_more]
  rfl

set_option maxRecDepth 100000 in
set_option maxHeartbeats 1000000 in
theorem put3 (n : Int) (h : 16384 ≤ n) (h1 : n ≤ 2097151) (w : World) :
    Calls Try.prog 60 #[.int .i64 n] w fun e w' => e = .returned (.tuple #[.slice (some ⟨w.heap.size, 0, none⟩) 3 3, .int .i64 0]) ∧ w' = w.alloc (.cells (putC n) 5) := by
  have hs := fun W => size_any n (by omega) (by omega) W
  rw [size_3 h h1] at hs
  have hm := make3
  have hC := Lib.hid (putC_eq n)
  go_enter Try.func60, Try.ntmps60
  go_wp2_with fail
  refine (hs _).mono ?_
  rintro e w1 ⟨rfl, rfl⟩
  go_wp2_with fail
  refine wp_loop_rounds 4 ?_
  rw [rounds_succ]
  go_wp2
  rw [rounds_succ]
  go_wp2
  rw [rounds_succ]
  go_wp2
  rw [rounds_succ]
  go_wp2
  go_ret2
  refine ⟨rfl, ?_⟩
  rw [hC.out, put_3 h h1]
  rw [or_last (n / 16384) (by omega) (by omega), or_more, or_more]
  rfl

set_option maxRecDepth 100000 in
set_option maxHeartbeats 1000000 in
theorem put4 (n : Int) (h : 2097152 ≤ n) (h1 : n ≤ 268435455) (w : World) :
    Calls Try.prog 60 #[.int .i64 n] w fun e w' => e = .returned (.tuple #[.slice (some ⟨w.heap.size, 0, none⟩) 4 4, .int .i64 0]) ∧ w' = w.alloc (.cells (putC n) 5) := by
  have hs := fun W => size_any n (by omega) (by omega) W
  rw [size_4 h h1] at hs
  have hm := make4
  have hC := Lib.hid (putC_eq n)
  go_enter Try.func60, Try.ntmps60
  go_wp2_with fail
  refine (hs _).mono ?_
  rintro e w1 ⟨rfl, rfl⟩
  go_wp2_with fail
  refine wp_loop_rounds 5 ?_
  rw [rounds_succ]
  go_wp2
  rw [rounds_succ]
  go_wp2
  rw [rounds_succ]
  go_wp2
  rw [rounds_succ]
  go_wp2
  rw [rounds_succ]
  go_wp2
  go_ret2
  refine ⟨rfl, ?_⟩
  rw [hC.out, put_4 h h1]
  rw [or_last (n / 2097152) (by omega) (by omega), or_more, or_more, or_more]
  rfl

end Go.Proofs.Ytkeocnobninaaaa
