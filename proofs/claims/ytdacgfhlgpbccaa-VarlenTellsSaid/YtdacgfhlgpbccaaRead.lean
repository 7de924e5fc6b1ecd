/- What varlen.Read comes to. -/
import Derived.Test.YtdacgfhlgpbccaaRefPut
namespace Go.Proofs.Ytdacgfhlgpbccaa
open Go.RowKit Go.Lib

/-- A length that was read to its end. -/
def wholeT (n s : Int) : Int × Int × Int := if sizeI n = s then (n, s, 0) else (0, 0, 21)
/-- The length that bytes begin with, of which i have been read and come to n. -/
def readAt : Nat → Int → List UInt8 → Int × Int × Int
  | _, _, [] => (0, 0, 20)
  | i, n, c :: r => if c.toNat ≤ 127 then wholeT (n + (c.toNat : Int) * 128 ^ i) (i + 1) else if i = 3 then (0, 0, 21) else readAt (i + 1) (n + ((c.toNat : Int) % 128) * 128 ^ i) r
def readT (l : List UInt8) : Int × Int × Int := readAt 0 0 l

set_option maxRecDepth 100000 in
set_option maxHeartbeats 1000000 in
theorem whole_any (n s a b d : Int) (hT : wholeT n s = (a, b, d)) (hl : 0 ≤ n) (hh : n ≤ 268435455) (w : World) :
    Calls Try.prog 14 #[.int .i64 n, .int .i64 s] w fun e w' => e = .returned (.tuple #[.int .i64 a, .int .i64 b, .int .i64 d]) ∧ w = w' := by
  have hs := fun W => size_any n (by omega) (by omega) W
  by_cases q : sizeI n = s
  · have e1 : wholeT n s = (n, s, 0) := if_pos q
    rw [e1] at hT
    obtain ⟨rfl, rfl, rfl⟩ : n = a ∧ s = b ∧ (0 : Int) = d := by simpa using hT
    rw [q] at hs
    clear q e1 hT
    go_enter Try.func14, Try.ntmps14
    go_wp2_with fail
    refine (hs _).mono ?_
    rintro e w1 ⟨rfl, rfl⟩
    go_wp2_with fail
    go_ret3
    exact ⟨rfl, rfl⟩
  · have e1 : wholeT n s = (0, 0, 21) := if_neg q
    rw [e1] at hT
    obtain ⟨rfl, rfl, rfl⟩ : (0 : Int) = a ∧ (0 : Int) = b ∧ (21 : Int) = d := by simpa using hT
    have hz := size_le n
    generalize sizeI n = z at *
    clear e1 hT
    go_enter Try.func14, Try.ntmps14
    go_wp2_with fail
    refine (hs _).mono ?_
    rintro e w1 ⟨rfl, rfl⟩
    go_wp2_with fail
    go_ret3
    exact ⟨rfl, rfl⟩

theorem or_add (n x k : Nat) (h : n < 2 ^ k) (hx : n + x * 2 ^ k ≤ 268435455) : bits .or .i64 (n : Int) ((x * 2 ^ k : Nat) : Int) = ((n + x * 2 ^ k : Nat) : Int) := by
  have hp : 0 < 2 ^ k := Nat.two_pow_pos k
  generalize hy : x * 2 ^ k = y at *
  show IntKind.i64.wrap ((BitVec.ofInt 64 (n : Int) ||| BitVec.ofInt 64 (y : Int)).toNat : Int) = _
  have e1 : (BitVec.ofInt 64 (n : Int)).toNat = n := by rw [BitVec.ofInt_natCast, BitVec.toNat_ofNat]; exact Nat.mod_eq_of_lt (by omega)
  have e2 : (BitVec.ofInt 64 (y : Int)).toNat = y := by rw [BitVec.ofInt_natCast, BitVec.toNat_ofNat]; exact Nat.mod_eq_of_lt (by omega)
  have e3 : n ||| y = n + y := by
    have := Nat.two_pow_add_eq_or_of_lt h x
    rw [Nat.or_comm, ← hy, Nat.mul_comm, ← this, Nat.add_comm]
  rw [BitVec.toNat_or, e1, e2, e3, IntKind.wrap_i64]
  omega
theorem andNot_more : ∀ y : Fin 256, bits .andNot .u8 (y.val : Int) 128 = ((y.val % 128 : Nat) : Int) := by decide +kernel
theorem pow_le (j : Nat) (hj : j ≤ 3) : (2 : Nat) ^ (7 * j) = 128 ^ j ∧ (128 : Int) ^ j = ((128 ^ j : Nat) : Int) ∧ (128 : Nat) ^ j ≤ 2097152 ∧ (128 : Int) ^ (j + 1) = 128 * 128 ^ j := by
  match j, hj with
  | 0, _ => decide
  | 1, _ => decide
  | 2, _ => decide
  | 3, _ => decide
theorem wrap_in (n : Int) (h : -9223372036854775808 ≤ n) (h1 : n ≤ 9223372036854775807) : wrap64 n = n := by
  unfold wrap64
  omega
theorem acc_P (m z K P : Nat) (hK : 2 ^ K = P) (hP : P ≤ 2097152) (hz : z ≤ 127) (h1 : m < P) :
    bits .or .i64 (m : Int) (wrap64 (wrap64 (z : Int) * (P : Int))) = (m : Int) + (z : Int) * (P : Int) ∧ (m : Int) + (z : Int) * (P : Int) + 1 ≤ 128 * (P : Int) := by
  have hmul : z * P ≤ 127 * P := Nat.mul_le_mul_right _ hz
  have hor := or_add m z K (by rw [hK]; exact h1) (by rw [hK]; omega)
  rw [hK] at hor
  have e1 : wrap64 (z : Int) = (z : Int) := wrap_in _ (by omega) (by omega)
  rw [e1, ← Int.natCast_mul]
  generalize z * P = y at *
  have e2 : wrap64 (y : Int) = (y : Int) := wrap_in _ (by omega) (by omega)
  rw [e2, hor]
  omega
/-- What one byte more comes to. -/
theorem acc_eq (n : Int) (z j : Nat) (hz : z < 256) (hj : j ≤ 3) (h0 : 0 ≤ n) (h1 : n + 1 ≤ 128 ^ j) :
    bits .or .i64 n (wrap64 (wrap64 (bits .andNot .u8 (z : Int) 128) * 2 ^ (7 * j))) = n + ((z : Int) % 128) * 128 ^ j ∧ 0 ≤ n + ((z : Int) % 128) * 128 ^ j ∧ n + ((z : Int) % 128) * 128 ^ j + 1 ≤ 128 ^ (j + 1) ∧ n + ((z : Int) % 128) * 128 ^ j ≤ 268435455 := by
  obtain ⟨p1, p2, p3, p4⟩ := pow_le j hj
  have e2 : (2 : Int) ^ (7 * j) = ((128 ^ j : Nat) : Int) := by rw [← p1, Int.natCast_pow]; rfl
  have e := andNot_more ⟨z, hz⟩
  simp only at e
  rw [e, e2, p4, p2]
  rw [p2] at h1
  generalize 128 ^ j = P at *
  obtain ⟨m, rfl⟩ := Int.eq_ofNat_of_zero_le h0
  have key := acc_P m (z % 128) (7 * j) P p1 p3 (by omega) (by omega)
  rw [show (z : Int) % 128 = ((z % 128 : Nat) : Int) by omega]
  clear p1 e2 e h1 h0 p2 p4
  refine ⟨key.1, ?_, key.2, ?_⟩
  · have := Int.mul_nonneg (Int.natCast_nonneg (z % 128)) (Int.natCast_nonneg P)
    omega
  · have := key.2
    omega

theorem readAt_end {i : Nat} {n : Int} {c : UInt8} {r : List UInt8} (h : c.toNat ≤ 127) : readAt i n (c :: r) = wholeT (n + (c.toNat : Int) * 128 ^ i) (i + 1) := if_pos h
theorem readAt_far {i : Nat} {n : Int} {c : UInt8} {r : List UInt8} (h : ¬ c.toNat ≤ 127) (hi : i = 3) : readAt i n (c :: r) = (0, 0, 21) := by
  subst hi
  show (if _ then _ else _) = _
  rw [if_neg h, if_pos rfl]
theorem readAt_more {i : Nat} {n : Int} {c : UInt8} {r : List UInt8} (h : ¬ c.toNat ≤ 127) (hi : i ≠ 3) : readAt i n (c :: r) = readAt (i + 1) (n + ((c.toNat : Int) % 128) * 128 ^ i) r := by
  show (if _ then _ else _) = _
  rw [if_neg h, if_neg hi]

set_option maxRecDepth 100000 in
set_option maxHeartbeats 1000000 in
theorem read_some (ad : Addr) (c : Nat) (l : List UInt8) (w : World) (a b d : Int) (hT : readT l = (a, b, d)) (hl : l.length ≤ 1000) (hx : ∀ (j : Nat) (x : UInt8), l[j]? = some x → w.cell? (ad.add j) = some (.int .u8 (x.toNat : Int))) :
    Calls Try.prog 12 #[.slice (some ad) l.length c] w fun e w' => e = .returned (.tuple #[.int .i64 a, .int .i64 b, .int .i64 d]) ∧ w = w' := by
  have HX := Lib.hid hx
  clear hx
  have HT := Lib.hid hT
  clear hT
  go_enter Try.func12, Try.ntmps12
  go_wp2
  go_loopw [5, 10] (fun sn si wr => ∃ (j : Nat) (n : Int), j ≤ 3 ∧ j ≤ l.length ∧ sn = .int .i64 n ∧ si = .int .i64 j ∧ 0 ≤ n ∧ n + 1 ≤ 128 ^ j ∧ Hid (readAt j n (l.drop j) = (a, b, d)) ∧ wr = w) (fun _ i _ => 4 - (intOf i).toNat)
  case atStart => exact ⟨0, 0, by omega, by omega, rfl, rfl, by omega, by decide, HT, rfl⟩
  case round =>
    obtain ⟨j, n, hj, hjl, rfl, rfl, hn0, hn1, hrd, rfl⟩ := hrel
    by_cases hlt : j < l.length
    · have hcell := HX.out j _ (List.getElem?_eq_getElem hlt)
      have hd : l.drop j = l[j] :: l.drop (j + 1) := List.drop_eq_getElem_cons hlt
      have HD := Lib.hid hd
      clear hd
      have hb256 : l[j].toNat < 256 := l[j].toNat_lt
      generalize l[j] = x at *
      have hacc := acc_eq n x.toNat j hb256 hj hn0 hn1
      have HA := Lib.hid hacc
      clear hacc
      by_cases hz : x.toNat ≤ 127
      · have hfin : Hid (wholeT (n + ((x.toNat : Int) % 128) * 128 ^ j) ((j : Int) + 1) = (a, b, d)) := by
          have h := hrd.out
          rw [HD.out, readAt_end hz] at h
          rw [← h]
          congr 2
          have : ((x.toNat : Int) % 128) = (x.toNat : Int) := by omega
          rw [this]
        generalize x.toNat = z at *
        clear hrd HD hn1
        go_wp2_with fail
        rw [HA.out.1]
        refine (whole_any _ _ _ _ _ hfin.out HA.out.2.1 HA.out.2.2.2 _).mono ?_
        rintro e w1 ⟨rfl, rfl⟩
        go_wp2_with fail
        go_ret3
        exact ⟨rfl, rfl⟩
      · by_cases h3 : 3 ≤ j
        · have hfin : (0 : Int) = a ∧ (0 : Int) = b ∧ (21 : Int) = d := by
            have h := hrd.out
            rw [HD.out, readAt_far hz (by omega)] at h
            simpa using h
          obtain ⟨rfl, rfl, rfl⟩ := hfin
          generalize x.toNat = z at *
          clear hrd HD hn1 HT
          go_wp2_with fail
          go_ret3
          exact ⟨rfl, rfl⟩
        · have hfin : Hid (readAt (j + 1) (n + ((x.toNat : Int) % 128) * 128 ^ j) (l.drop (j + 1)) = (a, b, d)) := by
            have h := hrd.out
            rw [HD.out, readAt_more hz (by omega)] at h
            exact h
          generalize x.toNat = z at *
          clear hrd HD hn1
          go_wp2_with fail
          go_roundw
          case rel =>
            refine ⟨j + 1, _, by omega, by omega, by rw [HA.out.1], by go_num, HA.out.2.1, HA.out.2.2.1, hfin, trivial⟩
          case measure => simp [intOf]; omega
    · have hfin : (0 : Int) = a ∧ (0 : Int) = b ∧ (20 : Int) = d := by
        have h := hrd.out
        rw [List.drop_of_length_le (by omega)] at h
        unfold readAt at h
        simpa using h
      obtain ⟨rfl, rfl, rfl⟩ := hfin
      clear hrd HT
      go_wp2_with fail
      go_ret3
      exact ⟨rfl, rfl⟩

set_option maxRecDepth 100000 in
set_option maxHeartbeats 1000000 in
theorem read_none (c : Nat) (w : World) :
    Calls Try.prog 12 #[.slice none 0 c] w fun e w' => e = .returned (.tuple #[.int .i64 0, .int .i64 0, .int .i64 20]) ∧ w = w' := by
  go_enter Try.func12, Try.ntmps12
  go_wp2_with fail
  refine wp_loop_rounds 1 ?_
  rw [rounds_succ]
  go_wp2_with fail
  go_ret3
  exact ⟨rfl, rfl⟩

/-- varlen.Read. -/
theorem read_any (v : Value) (l : List UInt8) (w : World) (B : Nat) (hv : BytesAt w B v l) (hl : l.length ≤ 1000) (a b d : Int) (hT : readT l = (a, b, d)) :
    Calls Try.prog 12 #[v] w fun e w' => e = .returned (.tuple #[.int .i64 a, .int .i64 b, .int .i64 d]) ∧ w = w' := by
  obtain ⟨A, c, rfl, _, _, hn, _, hx⟩ := hv
  cases A with
  | some ad => exact read_some ad c l w a b d hT hl (hx ad rfl)
  | none =>
    obtain rfl := hn rfl
    obtain ⟨rfl, rfl, rfl⟩ : (0 : Int) = a ∧ (0 : Int) = b ∧ (20 : Int) = d := by
      unfold readT readAt at hT
      simpa using hT
    exact read_none c w
end Go.Proofs.Ytdacgfhlgpbccaa
