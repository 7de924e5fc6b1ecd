/- What the document's step comes to: the rune at the beginning of any bytes. -/
import Derived.Test.YtdnbkllofbnpoaaDoorCheck
import Derived.Handy
namespace Go.Proofs.YtdnbkllofbnpoaaDoor
open Go.RowKit Go.Lib

set_option maxRecDepth 100000 in
theorem mask_cont : ∀ b : Fin 256, (bits .and .u8 (b.val : Int) 192 != 128) = !(b.val / 64 == 2) := by decide +kernel
theorem cont_yes (b : Nat) (h : b < 256) (hc : b / 64 = 2) : (bits .and .u8 (b : Int) 192 != 128) = false := by
  have := mask_cont ⟨b, h⟩
  simp only at this
  rw [this, hc]
  rfl
theorem cont_no (b : Nat) (h : b < 256) (hc : ¬ b / 64 = 2) : (bits .and .u8 (b : Int) 192 != 128) = true := by
  have := mask_cont ⟨b, h⟩
  simp only at this
  rw [this]
  simp [hc]

set_option maxRecDepth 100000 in
set_option maxHeartbeats 1000000 in
theorem st1 (ad : Addr) (c n : Nat) (b0 : Nat) (w : World) (c0 : w.cell? ad = some (.int .u8 (b0 : Int))) (h0 : b0 < 128) (hn : 1 ≤ n) (hm : n ≤ 1000000) :
    Calls Tryd.prog 40 #[.slice (some ad) n c] w fun e w' => e = .returned (.tuple #[.int .i32 (b0 : Int), .int .i64 1, .bool true]) ∧ w = w' := by
  go_enter Tryd.func40, Tryd.ntmps40
  go_wp2_with fail
  go_ret3
  exact ⟨rfl, rfl⟩

set_option maxRecDepth 100000 in
set_option maxHeartbeats 1000000 in
theorem stBadA (ad : Addr) (c n : Nat) (b0 : Nat) (w : World) (c0 : w.cell? ad = some (.int .u8 (b0 : Int))) (h0 : 128 ≤ b0) (h1 : b0 < 192) (hn : 1 ≤ n) (hm : n ≤ 1000000) :
    Calls Tryd.prog 40 #[.slice (some ad) n c] w fun e w' => e = .returned (.tuple #[.int .i32 0, .int .i64 1, .bool false]) ∧ w = w' := by
  go_enter Tryd.func40, Tryd.ntmps40
  go_wp2_with fail
  go_ret3
  exact ⟨rfl, rfl⟩

set_option maxRecDepth 100000 in
set_option maxHeartbeats 1000000 in
theorem stBadB (ad : Addr) (c n : Nat) (b0 : Nat) (w : World) (c0 : w.cell? ad = some (.int .u8 (b0 : Int))) (h0 : 248 ≤ b0) (h1 : b0 < 256) (hn : 1 ≤ n) (hm : n ≤ 1000000) :
    Calls Tryd.prog 40 #[.slice (some ad) n c] w fun e w' => e = .returned (.tuple #[.int .i32 0, .int .i64 1, .bool false]) ∧ w = w' := by
  go_enter Tryd.func40, Tryd.ntmps40
  go_wp2_with fail
  go_ret3
  exact ⟨rfl, rfl⟩

set_option maxRecDepth 100000 in
set_option maxHeartbeats 1000000 in
theorem st2short (ad : Addr) (c n : Nat) (b0 : Nat) (w : World) (c0 : w.cell? ad = some (.int .u8 (b0 : Int))) (h0 : 192 ≤ b0) (h1 : b0 < 224) (hn : 1 ≤ n) (hs : n < 2) (_hm : n ≤ 1000000) :
    Calls Tryd.prog 40 #[.slice (some ad) n c] w fun e w' => e = .returned (.tuple #[.int .i32 0, .int .i64 1, .bool false]) ∧ w = w' := by
  go_enter Tryd.func40, Tryd.ntmps40
  go_wp2_with fail
  go_ret3
  exact ⟨rfl, rfl⟩

set_option maxRecDepth 100000 in
set_option maxHeartbeats 1000000 in
theorem st2bad1 (ad : Addr) (c n : Nat) (b0 b1 : Nat) (w : World) (c0 : w.cell? ad = some (.int .u8 (b0 : Int))) (c1 : w.cell? ⟨ad.block, ad.off + 1, none⟩ = some (.int .u8 (b1 : Int))) (h0 : 192 ≤ b0) (h1 : b0 < 224) (hn : 2 ≤ n) (t1 : (bits .and .u8 (b1 : Int) 192 != 128) = true) (hm : n ≤ 1000000) :
    Calls Tryd.prog 40 #[.slice (some ad) n c] w fun e w' => e = .returned (.tuple #[.int .i32 0, .int .i64 1, .bool false]) ∧ w = w' := by
  go_enter Tryd.func40, Tryd.ntmps40
  go_wp2_with fail
  refine wp_loop_rounds 2 ?_
  rw [rounds_succ]
  go_wp2_with fail
  go_ret3
  exact ⟨rfl, rfl⟩

set_option maxRecDepth 100000 in
set_option maxHeartbeats 1000000 in
theorem st2small (ad : Addr) (c n : Nat) (b0 b1 : Nat) (w : World) (c0 : w.cell? ad = some (.int .u8 (b0 : Int))) (c1 : w.cell? ⟨ad.block, ad.off + 1, none⟩ = some (.int .u8 (b1 : Int))) (h0 : 192 ≤ b0) (h1 : b0 < 224) (hn : 2 ≤ n) (t1 : (bits .and .u8 (b1 : Int) 192 != 128) = false) (k1 : b1 < 256) (hv : ((b0 : Int) % 32) * 64 + (b1 : Int) % 64 ≤ 127) (hm : n ≤ 1000000) :
    Calls Tryd.prog 40 #[.slice (some ad) n c] w fun e w' => e = .returned (.tuple #[.int .i32 0, .int .i64 1, .bool false]) ∧ w = w' := by
  have HV := Lib.hid hv
  clear hv
  go_enter Tryd.func40, Tryd.ntmps40
  go_wp2_with fail
  refine wp_loop_rounds 2 ?_
  rw [rounds_succ]
  go_wp2_with fail
  rw [rounds_succ]
  have hv := HV.out
  go_wp2_with fail
  go_ret3
  exact ⟨rfl, rfl⟩

set_option maxRecDepth 100000 in
set_option maxHeartbeats 1000000 in
theorem st2ok (ad : Addr) (c n : Nat) (b0 b1 : Nat) (w : World) (c0 : w.cell? ad = some (.int .u8 (b0 : Int))) (c1 : w.cell? ⟨ad.block, ad.off + 1, none⟩ = some (.int .u8 (b1 : Int))) (h0 : 192 ≤ b0) (h1 : b0 < 224) (hn : 2 ≤ n) (t1 : (bits .and .u8 (b1 : Int) 192 != 128) = false) (k1 : b1 < 256) (hv : 128 ≤ ((b0 : Int) % 32) * 64 + (b1 : Int) % 64) (hm : n ≤ 1000000) :
    Calls Tryd.prog 40 #[.slice (some ad) n c] w fun e w' => e = .returned (.tuple #[.int .i32 (((b0 : Int) % 32) * 64 + (b1 : Int) % 64), .int .i64 2, .bool true]) ∧ w = w' := by
  have HV := Lib.hid hv
  clear hv
  go_enter Tryd.func40, Tryd.ntmps40
  go_wp2_with fail
  refine wp_loop_rounds 2 ?_
  rw [rounds_succ]
  go_wp2_with fail
  rw [rounds_succ]
  have hv := HV.out
  go_wp2_with fail
  go_ret3
  exact ⟨rfl, rfl⟩

set_option maxRecDepth 100000 in
set_option maxHeartbeats 1000000 in
theorem st3short (ad : Addr) (c n : Nat) (b0 : Nat) (w : World) (c0 : w.cell? ad = some (.int .u8 (b0 : Int))) (h0 : 224 ≤ b0) (h1 : b0 < 240) (hn : 1 ≤ n) (hs : n < 3) (_hm : n ≤ 1000000) :
    Calls Tryd.prog 40 #[.slice (some ad) n c] w fun e w' => e = .returned (.tuple #[.int .i32 0, .int .i64 1, .bool false]) ∧ w = w' := by
  go_enter Tryd.func40, Tryd.ntmps40
  go_wp2_with fail
  go_ret3
  exact ⟨rfl, rfl⟩

set_option maxRecDepth 100000 in
set_option maxHeartbeats 1000000 in
theorem st3bad1 (ad : Addr) (c n : Nat) (b0 b1 : Nat) (w : World) (c0 : w.cell? ad = some (.int .u8 (b0 : Int))) (c1 : w.cell? ⟨ad.block, ad.off + 1, none⟩ = some (.int .u8 (b1 : Int))) (h0 : 224 ≤ b0) (h1 : b0 < 240) (hn : 3 ≤ n) (t1 : (bits .and .u8 (b1 : Int) 192 != 128) = true) (hm : n ≤ 1000000) :
    Calls Tryd.prog 40 #[.slice (some ad) n c] w fun e w' => e = .returned (.tuple #[.int .i32 0, .int .i64 1, .bool false]) ∧ w = w' := by
  go_enter Tryd.func40, Tryd.ntmps40
  go_wp2_with fail
  refine wp_loop_rounds 3 ?_
  rw [rounds_succ]
  go_wp2_with fail
  go_ret3
  exact ⟨rfl, rfl⟩

set_option maxRecDepth 100000 in
set_option maxHeartbeats 1000000 in
theorem st3bad2 (ad : Addr) (c n : Nat) (b0 b1 b2 : Nat) (w : World) (c0 : w.cell? ad = some (.int .u8 (b0 : Int))) (c1 : w.cell? ⟨ad.block, ad.off + 1, none⟩ = some (.int .u8 (b1 : Int))) (c2 : w.cell? ⟨ad.block, ad.off + 2, none⟩ = some (.int .u8 (b2 : Int))) (h0 : 224 ≤ b0) (h1 : b0 < 240) (hn : 3 ≤ n) (t1 : (bits .and .u8 (b1 : Int) 192 != 128) = false) (k1 : b1 < 256) (t2 : (bits .and .u8 (b2 : Int) 192 != 128) = true) (hm : n ≤ 1000000) :
    Calls Tryd.prog 40 #[.slice (some ad) n c] w fun e w' => e = .returned (.tuple #[.int .i32 0, .int .i64 1, .bool false]) ∧ w = w' := by
  go_enter Tryd.func40, Tryd.ntmps40
  go_wp2_with fail
  refine wp_loop_rounds 3 ?_
  rw [rounds_succ]
  go_wp2_with fail
  rw [rounds_succ]
  go_wp2_with fail
  go_ret3
  exact ⟨rfl, rfl⟩

set_option maxRecDepth 100000 in
set_option maxHeartbeats 1000000 in
theorem st3small (ad : Addr) (c n : Nat) (b0 b1 b2 : Nat) (w : World) (c0 : w.cell? ad = some (.int .u8 (b0 : Int))) (c1 : w.cell? ⟨ad.block, ad.off + 1, none⟩ = some (.int .u8 (b1 : Int))) (c2 : w.cell? ⟨ad.block, ad.off + 2, none⟩ = some (.int .u8 (b2 : Int))) (h0 : 224 ≤ b0) (h1 : b0 < 240) (hn : 3 ≤ n) (t1 : (bits .and .u8 (b1 : Int) 192 != 128) = false) (k1 : b1 < 256) (t2 : (bits .and .u8 (b2 : Int) 192 != 128) = false) (k2 : b2 < 256) (hv : (((b0 : Int) % 16) * 64 + (b1 : Int) % 64) * 64 + (b2 : Int) % 64 ≤ 2047) (hm : n ≤ 1000000) :
    Calls Tryd.prog 40 #[.slice (some ad) n c] w fun e w' => e = .returned (.tuple #[.int .i32 0, .int .i64 1, .bool false]) ∧ w = w' := by
  have HV := Lib.hid hv
  clear hv
  go_enter Tryd.func40, Tryd.ntmps40
  go_wp2_with fail
  refine wp_loop_rounds 3 ?_
  rw [rounds_succ]
  go_wp2_with fail
  rw [rounds_succ]
  go_wp2_with fail
  rw [rounds_succ]
  have hv := HV.out
  go_wp2_with fail
  go_ret3
  exact ⟨rfl, rfl⟩

set_option maxRecDepth 100000 in
set_option maxHeartbeats 1000000 in
theorem st3sur (ad : Addr) (c n : Nat) (b0 b1 b2 : Nat) (w : World) (c0 : w.cell? ad = some (.int .u8 (b0 : Int))) (c1 : w.cell? ⟨ad.block, ad.off + 1, none⟩ = some (.int .u8 (b1 : Int))) (c2 : w.cell? ⟨ad.block, ad.off + 2, none⟩ = some (.int .u8 (b2 : Int))) (h0 : 224 ≤ b0) (h1 : b0 < 240) (hn : 3 ≤ n) (t1 : (bits .and .u8 (b1 : Int) 192 != 128) = false) (k1 : b1 < 256) (t2 : (bits .and .u8 (b2 : Int) 192 != 128) = false) (k2 : b2 < 256) (hv : 55296 ≤ (((b0 : Int) % 16) * 64 + (b1 : Int) % 64) * 64 + (b2 : Int) % 64) (hv2 : (((b0 : Int) % 16) * 64 + (b1 : Int) % 64) * 64 + (b2 : Int) % 64 ≤ 57343) (hm : n ≤ 1000000) :
    Calls Tryd.prog 40 #[.slice (some ad) n c] w fun e w' => e = .returned (.tuple #[.int .i32 0, .int .i64 1, .bool false]) ∧ w = w' := by
  have HV := Lib.hid hv
  clear hv
  have HV2 := Lib.hid hv2
  clear hv2
  go_enter Tryd.func40, Tryd.ntmps40
  go_wp2_with fail
  refine wp_loop_rounds 3 ?_
  rw [rounds_succ]
  go_wp2_with fail
  rw [rounds_succ]
  go_wp2_with fail
  rw [rounds_succ]
  have hv := HV.out
  have hv2 := HV2.out
  go_wp2_with fail
  go_ret3
  exact ⟨rfl, rfl⟩

set_option maxRecDepth 100000 in
set_option maxHeartbeats 1000000 in
theorem st3okA (ad : Addr) (c n : Nat) (b0 b1 b2 : Nat) (w : World) (c0 : w.cell? ad = some (.int .u8 (b0 : Int))) (c1 : w.cell? ⟨ad.block, ad.off + 1, none⟩ = some (.int .u8 (b1 : Int))) (c2 : w.cell? ⟨ad.block, ad.off + 2, none⟩ = some (.int .u8 (b2 : Int))) (h0 : 224 ≤ b0) (h1 : b0 < 240) (hn : 3 ≤ n) (t1 : (bits .and .u8 (b1 : Int) 192 != 128) = false) (k1 : b1 < 256) (t2 : (bits .and .u8 (b2 : Int) 192 != 128) = false) (k2 : b2 < 256) (hv : 2048 ≤ (((b0 : Int) % 16) * 64 + (b1 : Int) % 64) * 64 + (b2 : Int) % 64) (hv2 : (((b0 : Int) % 16) * 64 + (b1 : Int) % 64) * 64 + (b2 : Int) % 64 ≤ 55295) (hm : n ≤ 1000000) :
    Calls Tryd.prog 40 #[.slice (some ad) n c] w fun e w' => e = .returned (.tuple #[.int .i32 ((((b0 : Int) % 16) * 64 + (b1 : Int) % 64) * 64 + (b2 : Int) % 64), .int .i64 3, .bool true]) ∧ w = w' := by
  have HV := Lib.hid hv
  clear hv
  have HV2 := Lib.hid hv2
  clear hv2
  go_enter Tryd.func40, Tryd.ntmps40
  go_wp2_with fail
  refine wp_loop_rounds 3 ?_
  rw [rounds_succ]
  go_wp2_with fail
  rw [rounds_succ]
  go_wp2_with fail
  rw [rounds_succ]
  have hv := HV.out
  have hv2 := HV2.out
  go_wp2_with fail
  go_ret3
  exact ⟨rfl, rfl⟩

set_option maxRecDepth 100000 in
set_option maxHeartbeats 1000000 in
theorem st3okB (ad : Addr) (c n : Nat) (b0 b1 b2 : Nat) (w : World) (c0 : w.cell? ad = some (.int .u8 (b0 : Int))) (c1 : w.cell? ⟨ad.block, ad.off + 1, none⟩ = some (.int .u8 (b1 : Int))) (c2 : w.cell? ⟨ad.block, ad.off + 2, none⟩ = some (.int .u8 (b2 : Int))) (h0 : 224 ≤ b0) (h1 : b0 < 240) (hn : 3 ≤ n) (t1 : (bits .and .u8 (b1 : Int) 192 != 128) = false) (k1 : b1 < 256) (t2 : (bits .and .u8 (b2 : Int) 192 != 128) = false) (k2 : b2 < 256) (hv : 57344 ≤ (((b0 : Int) % 16) * 64 + (b1 : Int) % 64) * 64 + (b2 : Int) % 64) (hm : n ≤ 1000000) :
    Calls Tryd.prog 40 #[.slice (some ad) n c] w fun e w' => e = .returned (.tuple #[.int .i32 ((((b0 : Int) % 16) * 64 + (b1 : Int) % 64) * 64 + (b2 : Int) % 64), .int .i64 3, .bool true]) ∧ w = w' := by
  have HV := Lib.hid hv
  clear hv
  go_enter Tryd.func40, Tryd.ntmps40
  go_wp2_with fail
  refine wp_loop_rounds 3 ?_
  rw [rounds_succ]
  go_wp2_with fail
  rw [rounds_succ]
  go_wp2_with fail
  rw [rounds_succ]
  have hv := HV.out
  go_wp2_with fail
  go_ret3
  exact ⟨rfl, rfl⟩

set_option maxRecDepth 100000 in
set_option maxHeartbeats 1000000 in
theorem st4short (ad : Addr) (c n : Nat) (b0 : Nat) (w : World) (c0 : w.cell? ad = some (.int .u8 (b0 : Int))) (h0 : 240 ≤ b0) (h1 : b0 < 248) (hn : 1 ≤ n) (hs : n < 4) (_hm : n ≤ 1000000) :
    Calls Tryd.prog 40 #[.slice (some ad) n c] w fun e w' => e = .returned (.tuple #[.int .i32 0, .int .i64 1, .bool false]) ∧ w = w' := by
  go_enter Tryd.func40, Tryd.ntmps40
  go_wp2_with fail
  go_ret3
  exact ⟨rfl, rfl⟩

set_option maxRecDepth 100000 in
set_option maxHeartbeats 1000000 in
theorem st4bad1 (ad : Addr) (c n : Nat) (b0 b1 : Nat) (w : World) (c0 : w.cell? ad = some (.int .u8 (b0 : Int))) (c1 : w.cell? ⟨ad.block, ad.off + 1, none⟩ = some (.int .u8 (b1 : Int))) (h0 : 240 ≤ b0) (h1 : b0 < 248) (hn : 4 ≤ n) (t1 : (bits .and .u8 (b1 : Int) 192 != 128) = true) (hm : n ≤ 1000000) :
    Calls Tryd.prog 40 #[.slice (some ad) n c] w fun e w' => e = .returned (.tuple #[.int .i32 0, .int .i64 1, .bool false]) ∧ w = w' := by
  go_enter Tryd.func40, Tryd.ntmps40
  go_wp2_with fail
  refine wp_loop_rounds 4 ?_
  rw [rounds_succ]
  go_wp2_with fail
  go_ret3
  exact ⟨rfl, rfl⟩

set_option maxRecDepth 100000 in
set_option maxHeartbeats 1000000 in
theorem st4bad2 (ad : Addr) (c n : Nat) (b0 b1 b2 : Nat) (w : World) (c0 : w.cell? ad = some (.int .u8 (b0 : Int))) (c1 : w.cell? ⟨ad.block, ad.off + 1, none⟩ = some (.int .u8 (b1 : Int))) (c2 : w.cell? ⟨ad.block, ad.off + 2, none⟩ = some (.int .u8 (b2 : Int))) (h0 : 240 ≤ b0) (h1 : b0 < 248) (hn : 4 ≤ n) (t1 : (bits .and .u8 (b1 : Int) 192 != 128) = false) (k1 : b1 < 256) (t2 : (bits .and .u8 (b2 : Int) 192 != 128) = true) (hm : n ≤ 1000000) :
    Calls Tryd.prog 40 #[.slice (some ad) n c] w fun e w' => e = .returned (.tuple #[.int .i32 0, .int .i64 1, .bool false]) ∧ w = w' := by
  go_enter Tryd.func40, Tryd.ntmps40
  go_wp2_with fail
  refine wp_loop_rounds 4 ?_
  rw [rounds_succ]
  go_wp2_with fail
  rw [rounds_succ]
  go_wp2_with fail
  go_ret3
  exact ⟨rfl, rfl⟩

set_option maxRecDepth 100000 in
set_option maxHeartbeats 1000000 in
theorem st4bad3 (ad : Addr) (c n : Nat) (b0 b1 b2 b3 : Nat) (w : World) (c0 : w.cell? ad = some (.int .u8 (b0 : Int))) (c1 : w.cell? ⟨ad.block, ad.off + 1, none⟩ = some (.int .u8 (b1 : Int))) (c2 : w.cell? ⟨ad.block, ad.off + 2, none⟩ = some (.int .u8 (b2 : Int))) (c3 : w.cell? ⟨ad.block, ad.off + 3, none⟩ = some (.int .u8 (b3 : Int))) (h0 : 240 ≤ b0) (h1 : b0 < 248) (hn : 4 ≤ n) (t1 : (bits .and .u8 (b1 : Int) 192 != 128) = false) (k1 : b1 < 256) (t2 : (bits .and .u8 (b2 : Int) 192 != 128) = false) (k2 : b2 < 256) (t3 : (bits .and .u8 (b3 : Int) 192 != 128) = true) (hm : n ≤ 1000000) :
    Calls Tryd.prog 40 #[.slice (some ad) n c] w fun e w' => e = .returned (.tuple #[.int .i32 0, .int .i64 1, .bool false]) ∧ w = w' := by
  go_enter Tryd.func40, Tryd.ntmps40
  go_wp2_with fail
  refine wp_loop_rounds 4 ?_
  rw [rounds_succ]
  go_wp2_with fail
  rw [rounds_succ]
  go_wp2_with fail
  rw [rounds_succ]
  go_wp2_with fail
  go_ret3
  exact ⟨rfl, rfl⟩

set_option maxRecDepth 100000 in
set_option maxHeartbeats 1000000 in
theorem st4small (ad : Addr) (c n : Nat) (b0 b1 b2 b3 : Nat) (w : World) (c0 : w.cell? ad = some (.int .u8 (b0 : Int))) (c1 : w.cell? ⟨ad.block, ad.off + 1, none⟩ = some (.int .u8 (b1 : Int))) (c2 : w.cell? ⟨ad.block, ad.off + 2, none⟩ = some (.int .u8 (b2 : Int))) (c3 : w.cell? ⟨ad.block, ad.off + 3, none⟩ = some (.int .u8 (b3 : Int))) (h0 : 240 ≤ b0) (h1 : b0 < 248) (hn : 4 ≤ n) (t1 : (bits .and .u8 (b1 : Int) 192 != 128) = false) (k1 : b1 < 256) (t2 : (bits .and .u8 (b2 : Int) 192 != 128) = false) (k2 : b2 < 256) (t3 : (bits .and .u8 (b3 : Int) 192 != 128) = false) (k3 : b3 < 256) (hv : ((((b0 : Int) % 8) * 64 + (b1 : Int) % 64) * 64 + (b2 : Int) % 64) * 64 + (b3 : Int) % 64 ≤ 65535) (hm : n ≤ 1000000) :
    Calls Tryd.prog 40 #[.slice (some ad) n c] w fun e w' => e = .returned (.tuple #[.int .i32 0, .int .i64 1, .bool false]) ∧ w = w' := by
  have HV := Lib.hid hv
  clear hv
  go_enter Tryd.func40, Tryd.ntmps40
  go_wp2_with fail
  refine wp_loop_rounds 4 ?_
  rw [rounds_succ]
  go_wp2_with fail
  rw [rounds_succ]
  go_wp2_with fail
  rw [rounds_succ]
  go_wp2_with fail
  rw [rounds_succ]
  have hv := HV.out
  go_wp2_with fail
  go_ret3
  exact ⟨rfl, rfl⟩

set_option maxRecDepth 100000 in
set_option maxHeartbeats 1000000 in
theorem st4big (ad : Addr) (c n : Nat) (b0 b1 b2 b3 : Nat) (w : World) (c0 : w.cell? ad = some (.int .u8 (b0 : Int))) (c1 : w.cell? ⟨ad.block, ad.off + 1, none⟩ = some (.int .u8 (b1 : Int))) (c2 : w.cell? ⟨ad.block, ad.off + 2, none⟩ = some (.int .u8 (b2 : Int))) (c3 : w.cell? ⟨ad.block, ad.off + 3, none⟩ = some (.int .u8 (b3 : Int))) (h0 : 240 ≤ b0) (h1 : b0 < 248) (hn : 4 ≤ n) (t1 : (bits .and .u8 (b1 : Int) 192 != 128) = false) (k1 : b1 < 256) (t2 : (bits .and .u8 (b2 : Int) 192 != 128) = false) (k2 : b2 < 256) (t3 : (bits .and .u8 (b3 : Int) 192 != 128) = false) (k3 : b3 < 256) (hv : 1114111 < ((((b0 : Int) % 8) * 64 + (b1 : Int) % 64) * 64 + (b2 : Int) % 64) * 64 + (b3 : Int) % 64) (hm : n ≤ 1000000) :
    Calls Tryd.prog 40 #[.slice (some ad) n c] w fun e w' => e = .returned (.tuple #[.int .i32 0, .int .i64 1, .bool false]) ∧ w = w' := by
  have HV := Lib.hid hv
  clear hv
  go_enter Tryd.func40, Tryd.ntmps40
  go_wp2_with fail
  refine wp_loop_rounds 4 ?_
  rw [rounds_succ]
  go_wp2_with fail
  rw [rounds_succ]
  go_wp2_with fail
  rw [rounds_succ]
  go_wp2_with fail
  rw [rounds_succ]
  have hv := HV.out
  go_wp2_with fail
  go_ret3
  exact ⟨rfl, rfl⟩

set_option maxRecDepth 100000 in
set_option maxHeartbeats 1000000 in
theorem st4ok (ad : Addr) (c n : Nat) (b0 b1 b2 b3 : Nat) (w : World) (c0 : w.cell? ad = some (.int .u8 (b0 : Int))) (c1 : w.cell? ⟨ad.block, ad.off + 1, none⟩ = some (.int .u8 (b1 : Int))) (c2 : w.cell? ⟨ad.block, ad.off + 2, none⟩ = some (.int .u8 (b2 : Int))) (c3 : w.cell? ⟨ad.block, ad.off + 3, none⟩ = some (.int .u8 (b3 : Int))) (h0 : 240 ≤ b0) (h1 : b0 < 248) (hn : 4 ≤ n) (t1 : (bits .and .u8 (b1 : Int) 192 != 128) = false) (k1 : b1 < 256) (t2 : (bits .and .u8 (b2 : Int) 192 != 128) = false) (k2 : b2 < 256) (t3 : (bits .and .u8 (b3 : Int) 192 != 128) = false) (k3 : b3 < 256) (hv : 65536 ≤ ((((b0 : Int) % 8) * 64 + (b1 : Int) % 64) * 64 + (b2 : Int) % 64) * 64 + (b3 : Int) % 64) (hv2 : ((((b0 : Int) % 8) * 64 + (b1 : Int) % 64) * 64 + (b2 : Int) % 64) * 64 + (b3 : Int) % 64 ≤ 1114111) (hm : n ≤ 1000000) :
    Calls Tryd.prog 40 #[.slice (some ad) n c] w fun e w' => e = .returned (.tuple #[.int .i32 (((((b0 : Int) % 8) * 64 + (b1 : Int) % 64) * 64 + (b2 : Int) % 64) * 64 + (b3 : Int) % 64), .int .i64 4, .bool true]) ∧ w = w' := by
  have HV := Lib.hid hv
  clear hv
  have HV2 := Lib.hid hv2
  clear hv2
  go_enter Tryd.func40, Tryd.ntmps40
  go_wp2_with fail
  refine wp_loop_rounds 4 ?_
  rw [rounds_succ]
  go_wp2_with fail
  rw [rounds_succ]
  go_wp2_with fail
  rw [rounds_succ]
  go_wp2_with fail
  rw [rounds_succ]
  have hv := HV.out
  have hv2 := HV2.out
  go_wp2_with fail
  go_ret3
  exact ⟨rfl, rfl⟩

end Go.Proofs.YtdnbkllofbnpoaaDoor
