/- Plain facts on lengths' bytes: they come back, what is cut is short, longer is not less. -/
import Derived.Test.YtdacgfhlgpbccaaRefRead
namespace Go.Proofs.Ytdacgfhlgpbccaa
open Go.RowKit Go.Lib

theorem byte_of (b : Int) (h : 0 ≤ b) (h1 : b ≤ 255) : (((UInt8.ofNat b.toNat).toNat : Nat) : Int) = b := by
  rw [UInt8.toNat_ofNat']
  omega
theorem putL_1 {n : Int} (h : 0 ≤ n) (h1 : n ≤ 127) : putL n = [UInt8.ofNat n.toNat] := by unfold putL; rw [put_1 h h1]; rfl
theorem putL_2 {n : Int} (h : 128 ≤ n) (h1 : n ≤ 16383) : putL n = [UInt8.ofNat (n % 128 + 128).toNat, UInt8.ofNat (n / 128).toNat] := by unfold putL; rw [put_2 h h1]; rfl
theorem putL_3 {n : Int} (h : 16384 ≤ n) (h1 : n ≤ 2097151) : putL n = [UInt8.ofNat (n % 128 + 128).toNat, UInt8.ofNat (n / 128 % 128 + 128).toNat, UInt8.ofNat (n / 16384).toNat] := by unfold putL; rw [put_3 h h1]; rfl
theorem putL_4 {n : Int} (h : 2097152 ≤ n) (h1 : n ≤ 268435455) : putL n = [UInt8.ofNat (n % 128 + 128).toNat, UInt8.ofNat (n / 128 % 128 + 128).toNat, UInt8.ofNat (n / 16384 % 128 + 128).toNat, UInt8.ofNat (n / 2097152).toNat] := by unfold putL; rw [put_4 h h1]; rfl

theorem read_last (i : Nat) (n v x : Int) (m : List UInt8) (h : 0 ≤ v) (h1 : v ≤ 127) (hx : n + v * 128 ^ i = x) (hs : sizeI x = (i : Int) + 1) : readAt i n (UInt8.ofNat v.toNat :: m) = (x, (i : Int) + 1, 0) := by
  have e := byte_of v h (by omega)
  rw [readAt_end (by omega), e, hx]
  exact if_pos hs
theorem read_next (i : Nat) (n v : Int) (m : List UInt8) (h : 128 ≤ v) (h1 : v ≤ 255) (hi : i ≠ 3) : readAt i n (UInt8.ofNat v.toNat :: m) = readAt (i + 1) (n + (v - 128) * 128 ^ i) m := by
  have e := byte_of v (by omega) h1
  rw [readAt_more (by omega) hi, e]
  congr 3
  omega

theorem back_T (x : Int) (h : 0 ≤ x) (h1 : x ≤ 268435455) (m : List UInt8) : readT (putL x ++ m) = (x, ((putL x).length : Int), 0) := by
  by_cases q1 : x ≤ 127
  · rw [putL_1 h q1]
    exact read_last 0 0 x x m h q1 (by omega) (size_1 h q1)
  by_cases q2 : x ≤ 16383
  · rw [putL_2 (by omega) q2]
    refine (read_next 0 0 _ _ (by omega) (by omega) (by decide)).trans ?_
    exact read_last 1 _ _ x m (by omega) (by omega) (by omega) (size_2 (by omega) q2)
  by_cases q3 : x ≤ 2097151
  · rw [putL_3 (by omega) q3]
    refine (read_next 0 0 _ _ (by omega) (by omega) (by decide)).trans ?_
    refine (read_next 1 _ _ _ (by omega) (by omega) (by decide)).trans ?_
    exact read_last 2 _ _ x m (by omega) (by omega) (by omega) (size_3 (by omega) q3)
  · rw [putL_4 (by omega) h1]
    refine (read_next 0 0 _ _ (by omega) (by omega) (by decide)).trans ?_
    refine (read_next 1 _ _ _ (by omega) (by omega) (by decide)).trans ?_
    refine (read_next 2 _ _ _ (by omega) (by omega) (by decide)).trans ?_
    exact read_last 3 _ _ x m (by omega) (by omega) (by omega) (size_4 (by omega) h1)

theorem short_all : ∀ (l : List UInt8) (i : Nat) (n : Int), (∀ c ∈ l, ¬ c.toNat ≤ 127) → i + l.length ≤ 3 → readAt i n l = (0, 0, 20)
  | [], _, _, _, _ => by unfold readAt; rfl
  | c :: r, i, n, h, hi => by
    rw [List.length_cons] at hi
    rw [readAt_more (h c (by simp)) (by omega)]
    exact short_all r (i + 1) _ (fun d hd => h d (by simp [hd])) (by omega)

theorem more_not (v : Int) (h : 128 ≤ v) (h1 : v ≤ 255) : ¬ (UInt8.ofNat v.toNat).toNat ≤ 127 := by
  have := byte_of v (by omega) h1
  omega
theorem short_T (x : Int) (h : 0 ≤ x) (h1 : x ≤ 268435455) (i : Nat) (hi : i < (putL x).length) : readT ((putL x).take i) = (0, 0, 20) := by
  have hle := putL_len x
  refine short_all _ 0 0 (fun c hc => ?_) (by rw [List.length_take]; omega)
  have hsub : c ∈ (putL x).take ((putL x).length - 1) := List.mem_of_mem_take (i := i) (by rw [List.take_take, Nat.min_eq_left (by omega)]; exact hc)
  clear hc hi
  by_cases q1 : x ≤ 127
  · rw [putL_1 h q1] at hsub
    simp at hsub
  by_cases q2 : x ≤ 16383
  · rw [putL_2 (by omega) q2] at hsub
    simp at hsub
    rw [hsub]
    exact more_not _ (by omega) (by omega)
  by_cases q3 : x ≤ 2097151
  · rw [putL_3 (by omega) q3] at hsub
    simp at hsub
    rcases hsub with e | e <;> rw [e] <;> exact more_not _ (by omega) (by omega)
  · rw [putL_4 (by omega) h1] at hsub
    simp at hsub
    rcases hsub with e | e | e <;> rw [e] <;> exact more_not _ (by omega) (by omega)

theorem putL_size (x : Int) (h : 0 ≤ x) (h1 : x ≤ 268435455) : ((putL x).length : Int) = sizeI x := by
  by_cases q1 : x ≤ 127
  · rw [putL_1 h q1, size_1 h q1]; rfl
  by_cases q2 : x ≤ 16383
  · rw [putL_2 (by omega) q2, size_2 (by omega) q2]; rfl
  by_cases q3 : x ≤ 2097151
  · rw [putL_3 (by omega) q3, size_3 (by omega) q3]; rfl
  · rw [putL_4 (by omega) h1, size_4 (by omega) h1]; rfl
theorem size_pos (x : Int) (h : 0 ≤ x) (h1 : x ≤ 268435455) : 1 ≤ sizeI x ∧ sizeI x ≤ 4 := by
  unfold sizeI
  repeat' split
  all_goals omega
theorem size_mono (x y : Int) (h : 0 ≤ x) (hxy : x ≤ y) (h1 : y ≤ 268435455) : sizeI x ≤ sizeI y := by
  unfold sizeI
  repeat' split
  all_goals omega
theorem putL_inj (x y : Int) (h : 0 ≤ x) (h1 : x ≤ 268435455) (k : 0 ≤ y) (k1 : y ≤ 268435455) (e : putL x = putL y) : x = y := by
  have a := back_T x h h1 []
  have b := back_T y k k1 []
  rw [e, b] at a
  exact (Prod.mk.inj a).1.symm
end Go.Proofs.Ytdacgfhlgpbccaa
