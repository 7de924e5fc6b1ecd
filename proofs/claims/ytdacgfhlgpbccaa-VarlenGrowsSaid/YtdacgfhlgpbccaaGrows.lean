/- The law VarlenGrows: its walk. -/
import Derived.Test.YtdacgfhlgpbccaaShort
namespace Go.Proofs.Ytdacgfhlgpbccaa
open Go.RowKit Go.Lib

theorem shr_le (x : Int) (k : Nat) (h : 0 ≤ x) (h1 : x ≤ 268435455) : 0 ≤ x / 2 ^ k ∧ x / 2 ^ k ≤ 268435455 := by
  have p : (0 : Int) < 2 ^ k := Int.pow_pos (by omega)
  have a := Int.ediv_nonneg h (Int.le_of_lt p)
  have b := Int.ediv_le_self (2 ^ k) h
  omega
theorem arr_ne {p q : List UInt8} (h : p ≠ q) : ((⟨p.toArray⟩ : ByteArray).toList == (⟨q.toArray⟩ : ByteArray).toList) = false := by
  rw [ByteArray.toList_eq, ByteArray.toList_eq, beq_eq_false_iff_ne]
  exact h

set_option maxRecDepth 100000 in
set_option maxHeartbeats 1000000 in
theorem grows_walk (a : Int) (ha0 : 0 ≤ a) (ha1 : a ≤ 4294967295) (b : Int) (hb0 : 0 ≤ b) (hb1 : b ≤ 4294967295) (k : Nat) (hk : k < 256) (w : World) :
    Calls Try.prog 6 #[.int .u32 a, .int .u32 b, .int .u8 k] w fun e w' => e = .returned (.bool true) ∧ Below w.heap.size w w' := by
  go_enter Try.func6, Try.ntmps6
  go_wp2_with fail
  refine (known_any _).mono ?_
  rintro e w1 ⟨rfl, hb1⟩
  go_wp2_with fail
  obtain ⟨hx0, hx1⟩ := shr_le (a % 268435456) (k % 28) (by omega) (by omega)
  obtain ⟨hy0, hy1⟩ := shr_le (b % 268435456) (k % 28) (by omega) (by omega)
  generalize a % 268435456 / 2 ^ (k % 28) = x at *
  generalize b % 268435456 / 2 ^ (k % 28) = y at *
  refine (put_ok x hx0 hx1 _).mono ?_
  rintro e w2 ⟨A2, c2, rfl, hv2, hb2⟩
  have V2 := Lib.hid hv2
  clear hv2
  have hsx := size_pos x hx0 hx1
  have hsy := size_pos y hy0 hy1
  have hLx := putL_size x hx0 hx1
  have hLy := putL_size y hy0 hy1
  have qx := fun W => size_any x (by omega) (by omega) W
  go_wp2_with fail
  refine (put_ok y hy0 hy1 _).mono ?_
  rintro e w3 ⟨A3, c3, rfl, hv3, hb3⟩
  have hc2 := (V2.out.on hb3).conv
  have hc3 := hv3.conv
  clear hv3 V2
  have fin := Lib.hid (thn hb1 (thn hb2 hb3))
  clear hb1 hb2 hb3
  have tri : x = y ∨ x + 1 ≤ y ∨ y + 1 ≤ x := by omega
  rcases tri with rfl | h | h
  · generalize sizeI x = s at *
    generalize hP : (⟨(putL x).toArray⟩ : ByteArray) = P at *
    clear hP
    generalize (putL x).length = L at *
    go_wp2_with fail
    refine (qx _).mono ?_
    rintro e w4 ⟨rfl, rfl⟩
    go_wp2_with fail
    refine (qx _).mono ?_
    rintro e w4 ⟨rfl, rfl⟩
    go_wp2_with fail
    go_ret
    exact ⟨rfl, fin.out⟩
  · have hm := size_mono x y hx0 (by omega) hy1
    have hne := arr_ne (fun e => (show x ≠ y by omega) (putL_inj x y hx0 hx1 hy0 hy1 e))
    have hxy : (x == y) = false := beq_eq_false_iff_ne.2 (by omega)
    generalize sizeI x = s at *
    generalize sizeI y = t at *
    generalize (⟨(putL x).toArray⟩ : ByteArray) = P at *
    generalize (⟨(putL y).toArray⟩ : ByteArray) = Q at *
    generalize (putL x).length = L at *
    generalize (putL y).length = M at *
    go_wp2_with fail
    refine (qx _).mono ?_
    rintro e w4 ⟨rfl, rfl⟩
    go_wp2_with fail
    refine (qx _).mono ?_
    rintro e w4 ⟨rfl, rfl⟩
    go_wp2_with fail
    go_ret
    exact ⟨rfl, fin.out⟩
  · have hne := arr_ne (fun e => (show x ≠ y by omega) (putL_inj x y hx0 hx1 hy0 hy1 e))
    have hxy : (x == y) = false := beq_eq_false_iff_ne.2 (by omega)
    generalize sizeI x = s at *
    generalize sizeI y = t at *
    generalize (⟨(putL x).toArray⟩ : ByteArray) = P at *
    generalize (⟨(putL y).toArray⟩ : ByteArray) = Q at *
    generalize (putL x).length = L at *
    generalize (putL y).length = M at *
    go_wp2_with fail
    refine (qx _).mono ?_
    rintro e w4 ⟨rfl, rfl⟩
    go_wp2_with fail
    refine (qx _).mono ?_
    rintro e w4 ⟨rfl, rfl⟩
    go_wp2_with fail
    go_ret
    exact ⟨rfl, fin.out⟩
end Go.Proofs.Ytdacgfhlgpbccaa
