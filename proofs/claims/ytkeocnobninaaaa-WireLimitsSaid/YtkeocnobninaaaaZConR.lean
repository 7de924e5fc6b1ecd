/- Reading a body: what a greeting's bytes make of a new packet. -/
import Derived.Test.YtkeocnobninaaaaZConn
import Derived.Test.YtkeocnobninaaaaRefPut
import Derived.Test.YtkeocnobninaaaaZDec
namespace Go.Proofs.Ytkeocnobninaaaa

theorem conR_eq (n : Int) (b : List UInt8) : conP { pk0 with kind := n / 16 } b = conR n b := by
  unfold conP conR
  simp only [List.drop_drop, Nat.reduceAdd]
  rfl
end Go.Proofs.Ytkeocnobninaaaa

/- What varlen.Read comes to. -/
namespace Go.Proofs.Ytkeocnobninaaaa
open Go.RowKit Go.Lib

/-- A length that was read to its end. -/
def wholeT (n s : Int) : Int × Int × Int := if sizeI n = s then (n, s, 0) else (0, 0, 21)
/-- The length that bytes begin with, of which i have been read and come to n. -/
def readAt : Nat → Int → List UInt8 → Int × Int × Int
  | _, _, [] => (0, 0, 20)
  | i, n, c :: r => if c.toNat ≤ 127 then wholeT (n + (c.toNat : Int) * 128 ^ i) (i + 1) else if i = 3 then (0, 0, 21) else readAt (i + 1) (n + ((c.toNat : Int) % 128) * 128 ^ i) r
def readT (l : List UInt8) : Int × Int × Int := readAt 0 0 l

set_option maxRecDepth 100000 in
set_option maxHeartbeats 1000000 in
theorem whole_any (n s a b d : Int) (hT : wholeT n s = (a, b, d)) (hl : 0 ≤ n) (hh : n ≤ 268435455) (w : World) :
    Calls Try.prog 100 #[.int .i64 n, .int .i64 s] w fun e w' => e = .returned (.tuple #[.int .i64 a, .int .i64 b, .int .i64 d]) ∧ w = w' := by
  have hs := fun W => size_any n (by omega) (by omega) W
  by_cases q : sizeI n = s
  · have e1 : wholeT n s = (n, s, 0) := if_pos q
    rw [e1] at hT
    obtain ⟨rfl, rfl, rfl⟩ : n = a ∧ s = b ∧ (0 : Int) = d := by simpa using hT
    rw [q] at hs
    clear q e1 hT
    go_enter Try.func100, Try.ntmps100
    go_wp2_with fail
    refine (hs _).mono ?_
    rintro e w1 ⟨rfl, rfl⟩
    go_wp2_with fail
    go_ret3
    exact ⟨rfl, rfl⟩
  · have e1 : wholeT n s = (0, 0, 21) := if_neg q
    rw [e1] at hT
    obtain ⟨rfl, rfl, rfl⟩ : (0 : Int) = a ∧ (0 : Int) = b ∧ (21 : Int) = d := by simpa using hT
    have hz := size_le n
    generalize sizeI n = z at *
    clear e1 hT
    go_enter Try.func100, Try.ntmps100
    go_wp2_with fail
    refine (hs _).mono ?_
    rintro e w1 ⟨rfl, rfl⟩
    go_wp2_with fail
    go_ret3
    exact ⟨rfl, rfl⟩

theorem or_add (n x k : Nat) (h : n < 2 ^ k) (hx : n + x * 2 ^ k ≤ 268435455) : bits .or .i64 (n : Int) ((x * 2 ^ k : Nat) : Int) = ((n + x * 2 ^ k : Nat) : Int) := by
  have hp : 0 < 2 ^ k := Nat.two_pow_pos k
  generalize hy : x * 2 ^ k = y at *
  show IntKind.i64.wrap ((BitVec.ofInt 64 (n : Int) ||| BitVec.ofInt 64 (y : Int)).toNat : Int) = _
  have e1 : (BitVec.ofInt 64 (n : Int)).toNat = n := by rw [BitVec.ofInt_natCast, BitVec.toNat_ofNat]; exact Nat.mod_eq_of_lt (by omega)
  have e2 : (BitVec.ofInt 64 (y : Int)).toNat = y := by rw [BitVec.ofInt_natCast, BitVec.toNat_ofNat]; exact Nat.mod_eq_of_lt (by omega)
  have e3 : n ||| y = n + y := by
    have := Nat.two_pow_add_eq_or_of_lt h x
    rw [Nat.or_comm, ← hy, Nat.mul_comm, ← this, Nat.add_comm]
  rw [BitVec.toNat_or, e1, e2, e3, IntKind.wrap_i64]
  omega
theorem andNot_more : ∀ y : Fin 256, bits .andNot .u8 (y.val : Int) 128 = ((y.val % 128 : Nat) : Int) := by decide +kernel
theorem pow_le (j : Nat) (hj : j ≤ 3) : (2 : Nat) ^ (7 * j) = 128 ^ j ∧ (128 : Int) ^ j = ((128 ^ j : Nat) : Int) ∧ (128 : Nat) ^ j ≤ 2097152 ∧ (128 : Int) ^ (j + 1) = 128 * 128 ^ j := by
  match j, hj with
  | 0, _ => decide
  | 1, _ => decide
  | 2, _ => decide
  | 3, _ => decide
theorem wrap_in (n : Int) (h : -9223372036854775808 ≤ n) (h1 : n ≤ 9223372036854775807) : wrap64 n = n := by
  unfold wrap64
  omega
theorem acc_P (m z K P : Nat) (hK : 2 ^ K = P) (hP : P ≤ 2097152) (hz : z ≤ 127) (h1 : m < P) :
    bits .or .i64 (m : Int) (wrap64 (wrap64 (z : Int) * (P : Int))) = (m : Int) + (z : Int) * (P : Int) ∧ (m : Int) + (z : Int) * (P : Int) + 1 ≤ 128 * (P : Int) := by
  have hmul : z * P ≤ 127 * P := Nat.mul_le_mul_right _ hz
  have hor := or_add m z K (by rw [hK]; exact h1) (by rw [hK]; omega)
  rw [hK] at hor
  have e1 : wrap64 (z : Int) = (z : Int) := wrap_in _ (by omega) (by omega)
  rw [e1, ← Int.natCast_mul]
  generalize z * P = y at *
  have e2 : wrap64 (y : Int) = (y : Int) := wrap_in _ (by omega) (by omega)
  rw [e2, hor]
  omega
/-- What one byte more comes to. -/
theorem acc_eq (n : Int) (z j : Nat) (hz : z < 256) (hj : j ≤ 3) (h0 : 0 ≤ n) (h1 : n + 1 ≤ 128 ^ j) :
    bits .or .i64 n (wrap64 (wrap64 (bits .andNot .u8 (z : Int) 128) * 2 ^ (7 * j))) = n + ((z : Int) % 128) * 128 ^ j ∧ 0 ≤ n + ((z : Int) % 128) * 128 ^ j ∧ n + ((z : Int) % 128) * 128 ^ j + 1 ≤ 128 ^ (j + 1) ∧ n + ((z : Int) % 128) * 128 ^ j ≤ 268435455 := by
  obtain ⟨p1, p2, p3, p4⟩ := pow_le j hj
  have e2 : (2 : Int) ^ (7 * j) = ((128 ^ j : Nat) : Int) := by rw [← p1, Int.natCast_pow]; rfl
  have e := andNot_more ⟨z, hz⟩
  simp only at e
  rw [e, e2, p4, p2]
  rw [p2] at h1
  generalize 128 ^ j = P at *
  obtain ⟨m, rfl⟩ := Int.eq_ofNat_of_zero_le h0
  have key := acc_P m (z % 128) (7 * j) P p1 p3 (by omega) (by omega)
  rw [show (z : Int) % 128 = ((z % 128 : Nat) : Int) by omega]
  clear p1 e2 e h1 h0 p2 p4
  refine ⟨key.1, ?_, key.2, ?_⟩
  · have := Int.mul_nonneg (Int.natCast_nonneg (z % 128)) (Int.natCast_nonneg P)
    omega
  · have := key.2
    omega

theorem readAt_end {i : Nat} {n : Int} {c : UInt8} {r : List UInt8} (h : c.toNat ≤ 127) : readAt i n (c :: r) = wholeT (n + (c.toNat : Int) * 128 ^ i) (i + 1) := if_pos h
theorem readAt_far {i : Nat} {n : Int} {c : UInt8} {r : List UInt8} (h : ¬ c.toNat ≤ 127) (hi : i = 3) : readAt i n (c :: r) = (0, 0, 21) := by
  subst hi
  show (if _ then _ else _) = _
  rw [if_neg h, if_pos rfl]
theorem readAt_more {i : Nat} {n : Int} {c : UInt8} {r : List UInt8} (h : ¬ c.toNat ≤ 127) (hi : i ≠ 3) : readAt i n (c :: r) = readAt (i + 1) (n + ((c.toNat : Int) % 128) * 128 ^ i) r := by
  show (if _ then _ else _) = _
  rw [if_neg h, if_neg hi]

set_option maxRecDepth 100000 in
set_option maxHeartbeats 1000000 in
theorem read_some (ad : Addr) (c : Nat) (l : List UInt8) (w : World) (a b d : Int) (hT : readT l = (a, b, d)) (hl : l.length ≤ 1000000) (hx : ∀ (j : Nat) (x : UInt8), l[j]? = some x → w.cell? (ad.add j) = some (.int .u8 (x.toNat : Int))) :
    Calls Try.prog 83 #[.slice (some ad) l.length c] w fun e w' => e = .returned (.tuple #[.int .i64 a, .int .i64 b, .int .i64 d]) ∧ w = w' := by
  have HX := Lib.hid hx
  clear hx
  have HT := Lib.hid hT
  clear hT
  go_enter Try.func83, Try.ntmps83
  go_wp2
  go_loopw [5, 10] (fun sn si wr => ∃ (j : Nat) (n : Int), j ≤ 3 ∧ j ≤ l.length ∧ sn = .int .i64 n ∧ si = .int .i64 j ∧ 0 ≤ n ∧ n + 1 ≤ 128 ^ j ∧ Hid (readAt j n (l.drop j) = (a, b, d)) ∧ wr = w) (fun _ i _ => 4 - (intOf i).toNat)
  case atStart => exact ⟨0, 0, by omega, by omega, rfl, rfl, by omega, by decide, HT, rfl⟩
  case round =>
    obtain ⟨j, n, hj, hjl, rfl, rfl, hn0, hn1, hrd, rfl⟩ := hrel
    by_cases hlt : j < l.length
    · have hcell := HX.out j _ (List.getElem?_eq_getElem hlt)
      have hd : l.drop j = l[j] :: l.drop (j + 1) := List.drop_eq_getElem_cons hlt
      have HD := Lib.hid hd
      clear hd
      have hb256 : l[j].toNat < 256 := l[j].toNat_lt
      generalize l[j] = x at *
      have hacc := acc_eq n x.toNat j hb256 hj hn0 hn1
      have HA := Lib.hid hacc
      clear hacc
      by_cases hz : x.toNat ≤ 127
      · have hfin : Hid (wholeT (n + ((x.toNat : Int) % 128) * 128 ^ j) ((j : Int) + 1) = (a, b, d)) := by
          have h := hrd.out
          rw [HD.out, readAt_end hz] at h
          rw [← h]
          congr 2
          have : ((x.toNat : Int) % 128) = (x.toNat : Int) := by omega
          rw [this]
        generalize x.toNat = z at *
        clear hrd HD hn1
        go_wp2_with fail
        rw [HA.out.1]
        refine (whole_any _ _ _ _ _ hfin.out HA.out.2.1 HA.out.2.2.2 _).mono ?_
        rintro e w1 ⟨rfl, rfl⟩
        go_wp2_with fail
        go_ret3
        exact ⟨rfl, rfl⟩
      · by_cases h3 : 3 ≤ j
        · have hfin : (0 : Int) = a ∧ (0 : Int) = b ∧ (21 : Int) = d := by
            have h := hrd.out
            rw [HD.out, readAt_far hz (by omega)] at h
            simpa using h
          obtain ⟨rfl, rfl, rfl⟩ := hfin
          generalize x.toNat = z at *
          clear hrd HD hn1 HT
          go_wp2_with fail
          go_ret3
          exact ⟨rfl, rfl⟩
        · have hfin : Hid (readAt (j + 1) (n + ((x.toNat : Int) % 128) * 128 ^ j) (l.drop (j + 1)) = (a, b, d)) := by
            have h := hrd.out
            rw [HD.out, readAt_more hz (by omega)] at h
            exact h
          generalize x.toNat = z at *
          clear hrd HD hn1
          go_wp2_with fail
          go_roundw
          case rel =>
            refine ⟨j + 1, _, by omega, by omega, by rw [HA.out.1], by go_num, HA.out.2.1, HA.out.2.2.1, hfin, trivial⟩
          case measure => simp [intOf]; omega
    · have hfin : (0 : Int) = a ∧ (0 : Int) = b ∧ (20 : Int) = d := by
        have h := hrd.out
        rw [List.drop_of_length_le (by omega)] at h
        unfold readAt at h
        simpa using h
      obtain ⟨rfl, rfl, rfl⟩ := hfin
      clear hrd HT
      go_wp2_with fail
      go_ret3
      exact ⟨rfl, rfl⟩

set_option maxRecDepth 100000 in
set_option maxHeartbeats 1000000 in
theorem read_none (c : Nat) (w : World) :
    Calls Try.prog 83 #[.slice none 0 c] w fun e w' => e = .returned (.tuple #[.int .i64 0, .int .i64 0, .int .i64 20]) ∧ w = w' := by
  go_enter Try.func83, Try.ntmps83
  go_wp2_with fail
  refine wp_loop_rounds 1 ?_
  rw [rounds_succ]
  go_wp2_with fail
  go_ret3
  exact ⟨rfl, rfl⟩

/-- varlen.Read. -/
theorem read_any (v : Value) (l : List UInt8) (w : World) (B : Nat) (hv : BytesAt w B v l) (hl : l.length ≤ 1000000) (a b d : Int) (hT : readT l = (a, b, d)) :
    Calls Try.prog 83 #[v] w fun e w' => e = .returned (.tuple #[.int .i64 a, .int .i64 b, .int .i64 d]) ∧ w = w' := by
  obtain ⟨A, c, rfl, _, _, hn, _, hx⟩ := hv
  cases A with
  | some ad => exact read_some ad c l w a b d hT hl (hx ad rfl)
  | none =>
    obtain rfl := hn rfl
    obtain ⟨rfl, rfl, rfl⟩ : (0 : Int) = a ∧ (0 : Int) = b ∧ (20 : Int) = d := by
      unfold readT readAt at hT
      simpa using hT
    exact read_none c w
end Go.Proofs.Ytkeocnobninaaaa

/- Reading, plainly: what is read has small fields; where a packet's body is. -/
namespace Go.Proofs.Ytkeocnobninaaaa
open Go.RowKit Go.Lib
set_option linter.unusedVariables false

theorem bytesOfL_size (l : List UInt8) : (bytesOfL l).size = l.length := by unfold bytesOfL; simp [ByteArray.size]
theorem got_le (l : List UInt8) : (gotL l).length ≤ l.length := by unfold gotL; rw [List.length_take, List.length_drop]; omega
theorem left_le (l : List UInt8) : (leftL l).length ≤ l.length := by unfold leftL; rw [List.length_drop, List.length_drop]; omega
theorem num_k (l : List UInt8) (k : Nat) (hk : k ≤ 2) : i64In (numL (l.take k)) := by
  obtain ⟨a, b⟩ := num_bounds l k hk
  unfold i64In; omega
theorem subsR_ok (q : Bool) : ∀ (n : Nat) (l : List UInt8), l.length ≤ n → (subsR q l).length ≤ l.length ∧ ∀ x ∈ subsR q l, x.1.size ≤ 65535 ∧ i64In x.2
  | n, [], _ => by rw [subsR_nil]; exact ⟨Nat.zero_le _, fun x hx => by simp at hx⟩
  | 0, _ :: _, h => by simp at h
  | n + 1, c :: r, h => by
    have hne : c :: r ≠ [] := by simp
    have h1 := left_lt (c :: r) hne
    generalize c :: r = l at *
    rw [subsR_some q l hne]
    have h2 : (if q then (leftL l).drop 1 else leftL l).length < l.length := by
      split
      · rw [List.length_drop]; omega
      · exact h1
    obtain ⟨g1, g2⟩ := subsR_ok q n (if q then (leftL l).drop 1 else leftL l) (by omega)
    refine ⟨by simp only [List.length_cons]; omega, fun x hx => ?_⟩
    rcases List.mem_cons.1 hx with rfl | hx
    · refine ⟨by simp only [bytesOfL_size]; exact got_len l, ?_⟩
      cases q
      · simp only [Bool.false_eq_true, if_false]; exact ⟨by omega, by omega⟩
      · exact num_k _ 1 (by omega)
    · exact g2 x hx

theorem par_ok (c : Int) (h0 : 0 ≤ c) (h1 : c ≤ 255) (l : List UInt8) (hl : l.length ≤ 1000000) : PkOk (parR c l) := by
  have n1 := fun (r : List UInt8) => num_k r 1 (by omega)
  have n2 := fun (r : List UInt8) => num_k r 2 (by omega)
  have z : i64In 0 := ⟨by decide, by decide⟩
  have kk : i64In (c / 16) := by unfold i64In; omega
  have sz : ∀ r, (bytesOfL (gotL r)).size ≤ 1000000 := fun r => by rw [bytesOfL_size]; have := got_len r; omega
  have gl : ∀ r, (gotL r).length ≤ 1000000 := fun r => by have := got_len r; omega
  have e0 : ByteArray.empty.size ≤ 1000000 := by decide
  have hq : i64In (hdP c).qos := by unfold hdP; split; (· show i64In (c / 2 % 4); unfold i64In; omega); · exact z
  have hk : i64In (hdP c).kind := by unfold hdP; split <;> exact kk
  have base : PkOk (hdP c) := by
    unfold hdP at *
    split
    · exact ⟨kk, by unfold i64In; simp only; omega, z, z, z, z, z, e0, Nat.zero_le _, e0, e0, Nat.zero_le _, e0, Nat.zero_le _, Nat.zero_le _, Nat.zero_le _, fun x hx => by simp [pk0] at hx, fun x hx => by simp [pk0] at hx⟩
    · exact ⟨kk, z, z, z, z, z, z, e0, Nat.zero_le _, e0, e0, Nat.zero_le _, e0, Nat.zero_le _, Nat.zero_le _, Nat.zero_le _, fun x hx => by simp [pk0] at hx, fun x hx => by simp [pk0] at hx⟩
  unfold parR
  simp only
  split
  · unfold conR
    simp only
    refine ⟨kk, z, z, n1 _, n2 _, ?_, z, e0, Nat.zero_le _, sz _, ?_, ?_, ?_, ?_, Nat.zero_le _, Nat.zero_le _, fun x hx => by simp [pk0] at hx, fun x hx => by simp [pk0] at hx⟩
    · simp only
      split
      · have := num_bounds (((leftL l).drop 1)) 1 (by omega); unfold i64In; omega
      · exact z
    · simp only; split
      · exact sz _
      · exact e0
    · simp only; split
      · exact gl _
      · exact Nat.zero_le _
    · simp only; split
      · exact sz _
      · exact e0
    · simp only; split
      · exact gl _
      · exact Nat.zero_le _
  · split
    · exact ⟨hk, hq, base.id, base.level, base.keep, base.wqos, n1 _, base.top, base.pay, base.cli, base.wtop, base.wpay, base.user, base.pass, base.subs, base.codes, base.sub, base.cod⟩
    · split
      · refine ⟨hk, hq, ?_, base.level, base.keep, base.wqos, base.code, sz _, ?_, base.cli, base.wtop, base.wpay, base.user, base.pass, base.subs, base.codes, base.sub, base.cod⟩
        · simp only; split
          · exact z
          · exact n2 _
        · have := left_le l
          simp only; split
          · omega
          · rw [List.length_drop]; omega
      · split
        · exact ⟨hk, hq, n2 _, base.level, base.keep, base.wqos, base.code, base.top, base.pay, base.cli, base.wtop, base.wpay, base.user, base.pass, base.subs, base.codes, base.sub, base.cod⟩
        · split
          · obtain ⟨g1, g2⟩ := subsR_ok ((hdP c).kind == 8) _ (l.drop 2) (Nat.le_refl _)
            rw [List.length_drop] at g1
            exact ⟨hk, hq, n2 _, base.level, base.keep, base.wqos, base.code, base.top, base.pay, base.cli, base.wtop, base.wpay, base.user, base.pass, by simp only; omega, base.codes, fun x hx => ⟨by have := (g2 x hx).1; omega, (g2 x hx).2⟩, base.cod⟩
          · split
            · refine ⟨hk, hq, n2 _, base.level, base.keep, base.wqos, base.code, base.top, base.pay, base.cli, base.wtop, base.wpay, base.user, base.pass, base.subs, ?_, base.sub, fun x hx => ?_⟩
              · simp only; unfold codesR; rw [List.length_map, List.length_drop]; omega
              · simp only [codesR, List.mem_map] at hx
                obtain ⟨y, _, rfl⟩ := hx
                have := y.toNat_lt
                unfold i64In; omega
            · exact base

/-- What a length that was read is like. -/
theorem readAt_in : ∀ (i : Nat) (n : Int) (l : List UInt8), i ≤ 3 → 0 ≤ n → 0 ≤ (readAt i n l).1 ∧ 0 ≤ (readAt i n l).2.1 ∧ (readAt i n l).2.1 ≤ 4 ∧ (readAt i n l).2.1 ≤ i + l.length ∧ ((readAt i n l).2.2 = 0 ∨ (readAt i n l).2.2 = 20 ∨ (readAt i n l).2.2 = 21)
  | i, n, [], _, _ => by unfold readAt; simp
  | i, n, c :: r, hi, hn => by
    have hp : (0 : Int) < 128 ^ i := Int.pow_pos (by omega)
    unfold readAt
    split
    · have : 0 ≤ n + (c.toNat : Int) * 128 ^ i := Int.add_nonneg hn (Int.mul_nonneg (by omega) (by omega))
      unfold wholeT
      split
      · simp only [List.length_cons]; refine ⟨this, ?_, ?_, ?_, .inl trivial⟩ <;> omega
      · simp; omega
    · split
      · simp; omega
      · have hm : 0 ≤ n + ((c.toNat : Int) % 128) * 128 ^ i := Int.add_nonneg hn (Int.mul_nonneg (by omega) (by omega))
        obtain ⟨a1, a2, a3, a4, a5⟩ := readAt_in (i + 1) _ r (by omega) hm
        refine ⟨a1, a2, a3, ?_, a5⟩
        simp only [List.length_cons]; omega
theorem readT_in (l : List UInt8) : 0 ≤ (readT l).1 ∧ 0 ≤ (readT l).2.1 ∧ (readT l).2.1 ≤ 4 ∧ (readT l).2.1 ≤ l.length ∧ ((readT l).2.2 = 0 ∨ (readT l).2.2 = 20 ∨ (readT l).2.2 = 21) := by
  have := readAt_in 0 0 l (by omega) (by omega)
  simpa [readT] using this

/-- Where a packet's body is, and why there is none. -/
def bndP : List UInt8 → Int × Int × Int
  | [] => (0, 0, 20)
  | c :: r => if begP c.toNat = false then (0, 0, 21) else if (readT r).2.2 ≠ 0 then (0, 0, (readT r).2.2) else if (readT r).1 > 8192 then (0, 0, 22) else if 1 + (readT r).2.1 + (readT r).1 > (c :: r).length then (0, 0, 20) else (1 + (readT r).2.1, 1 + (readT r).2.1 + (readT r).1, 0)
theorem bnd_ok (c : UInt8) (r : List UInt8) (h : (bndP (c :: r)).2.2 = 0) : begP c.toNat = true ∧ 1 ≤ (bndP (c :: r)).1 ∧ (bndP (c :: r)).1 ≤ 5 ∧ (bndP (c :: r)).1 ≤ (bndP (c :: r)).2.1 ∧ (bndP (c :: r)).2.1 ≤ (c :: r).length ∧ (bndP (c :: r)).2.1 - (bndP (c :: r)).1 ≤ 8192 ∧
    (bndP (c :: r)).1 = 1 + (readT r).2.1 ∧ (bndP (c :: r)).2.1 = 1 + (readT r).2.1 + (readT r).1 ∧ (readT r).2.2 = 0 := by
  obtain ⟨a1, a2, a3, a4, a5⟩ := readT_in r
  by_cases q1 : begP c.toNat = false
  · have e : bndP (c :: r) = (0, 0, 21) := by simp only [bndP]; rw [if_pos q1]
    rw [e] at h; cases h
  by_cases q2 : (readT r).2.2 ≠ 0
  · have e : bndP (c :: r) = (0, 0, (readT r).2.2) := by simp only [bndP]; rw [if_neg q1, if_pos q2]
    rw [e] at h; exact absurd h q2
  by_cases q3 : (readT r).1 > 8192
  · have e : bndP (c :: r) = (0, 0, 22) := by simp only [bndP]; rw [if_neg q1, if_neg q2, if_pos q3]
    rw [e] at h; cases h
  by_cases q4 : 1 + (readT r).2.1 + (readT r).1 > (c :: r).length
  · have e : bndP (c :: r) = (0, 0, 20) := by simp only [bndP]; rw [if_neg q1, if_neg q2, if_neg q3, if_pos q4]
    rw [e] at h; cases h
  have e : bndP (c :: r) = (1 + (readT r).2.1, 1 + (readT r).2.1 + (readT r).1, 0) := by simp only [bndP]; rw [if_neg q1, if_neg q2, if_neg q3, if_neg q4]
  rw [e]
  simp only [ne_eq, Decidable.not_not] at q2
  refine ⟨by simpa using q1, ?_, ?_, ?_, ?_, ?_, rfl, rfl, q2⟩ <;> simp only <;> omega
/-- What is read. -/
def rdP : List UInt8 → Pk × Int × Int
  | [] => (pk0, 0, 20)
  | c :: r => if (bndP (c :: r)).2.2 ≠ 0 then (pk0, 0, (bndP (c :: r)).2.2) else
    if rightP (parR c.toNat (((c :: r).take (bndP (c :: r)).2.1.toNat).drop (bndP (c :: r)).1.toNat)) && decide (encP (parR c.toNat (((c :: r).take (bndP (c :: r)).2.1.toNat).drop (bndP (c :: r)).1.toNat)) = (c :: r).take (bndP (c :: r)).2.1.toNat)
    then (parR c.toNat (((c :: r).take (bndP (c :: r)).2.1.toNat).drop (bndP (c :: r)).1.toNat), (bndP (c :: r)).2.1, 0) else (pk0, 0, 21)
end Go.Proofs.Ytkeocnobninaaaa

/- Reading: wire.bounds. -/
namespace Go.Proofs.Ytkeocnobninaaaa
open Go.RowKit Go.Lib
set_option linter.unusedVariables false

set_option maxRecDepth 100000 in
set_option maxHeartbeats 4000000 in
theorem bounds_any (A : Option Addr) (cap : Nat) (b : List UInt8) (B : Nat) (w : World) (hB : B ≤ w.heap.size) (hv : BytesAt w B (.slice A b.length cap) b) (hm : b.length ≤ 1000000) (x y z : Int) (hT : bndP b = (x, y, z)) :
    Calls Try.prog 53 #[.slice A b.length cap] w fun e w' => e = .returned (.tuple #[.int .i64 x, .int .i64 y, .int .i64 z]) ∧ Below w.heap.size w w' := by
  rcases b with _ | ⟨c, r⟩
  · obtain ⟨rfl, rfl, rfl⟩ : (0 : Int) = x ∧ (0 : Int) = y ∧ (20 : Int) = z := by simpa [bndP] using hT
    clear hv hm hT
    go_enter Try.func53, Try.ntmps53
    go_wp2_with fail
    go_ret3
    exact ⟨rfl, Below.refl _ _⟩
  · rcases A with _ | ad
    · obtain ⟨A', c', hv1, hc, hm', hz, _⟩ := hv
      injection hv1 with v1 v2 v3
      have := hz v1.symm
      cases this
    have z0 : w.cell? ad = some (.int .u8 (c.toNat : Int)) := by have := cell_zero hv; exact this
    obtain ⟨a1, a2, a3, a4, a5⟩ := readT_in r
    have hd := BytesAt.drop hv 1 (by simp)
    have hcap : 1 ≤ cap ∧ cap ≤ 9223372036854775807 ∧ (c :: r).length ≤ cap := by
      obtain ⟨A', c', hv1, hc, hm', hz, _⟩ := hv
      injection hv1 with v1 v2 v3
      subst v3
      unfold maxLen at hm'
      simp at hc ⊢; omega
    have hlen : (c :: r).length = r.length + 1 := by simp
    have hr : r.length ≤ 1000000 := by omega
    have hdl : (c :: r).length - 1 = r.length := by omega
    have hu : (c.toNat : Int) ≤ 255 := by have := c.toNat_lt; omega
    have HBeg := Lib.hid (fun W => wbegins_any (c.toNat : Int) (by omega) hu W)
    rw [hdl] at hd
    have HD := Lib.hid hd
    have e0 : (c :: r).drop 1 = r := rfl
    rw [e0] at HD
    have ea : ad.add 1 = ⟨ad.block, ad.off + 1, none⟩ := rfl
    rw [ea] at HD
    have HR := Lib.hid (fun (W : World) (h : Below w.heap.size w W) (t1 t2 t3 : Int) (ht : readT r = (t1, t2, t3)) => read_any _ r W B (HD.out.below (h.mono hB)) hr t1 t2 t3 ht)
    have HZ := Lib.hid (fun (W : World) (h : r = []) => read_any (.slice (some ad) 0 0) [] W B (BytesAt.void W B ad 0 (by decide)) (by decide) 0 0 20 rfl)
    have hT0 : r = [] → readT r = (0, 0, 20) := fun e => by rw [e]; rfl
    have hnil : cap = 1 → r = [] := fun e => List.eq_nil_of_length_eq_zero (by omega)
    have HN := Lib.hid hnil
    clear hnil
    have hbn : bndP (c :: r) = if begP c.toNat = false then (0, 0, 21) else if (readT r).2.2 ≠ 0 then (0, 0, (readT r).2.2) else if (readT r).1 > 8192 then (0, 0, 22) else if 1 + (readT r).2.1 + (readT r).1 > (c :: r).length then (0, 0, 20) else (1 + (readT r).2.1, 1 + (readT r).2.1 + (readT r).1, 0) := rfl
    rw [hbn] at hT
    rw [hlen] at hT ⊢
    rw [hlen] at hcap
    clear hv hd e0 hbn hdl hlen ea
    generalize begP c.toNat = bg at *
    have HT0 := Lib.hid hT0
    clear hT0
    generalize hR : readT r = T at *
    obtain ⟨t1, t2, t3⟩ := T
    simp only at a1 a2 a3 a4 a5 hT
    have HR2 := Lib.hid (fun W h => HR.out W h t1 t2 t3 rfl)
    have HC : Hid (cap = 1 → t3 = 20) := Lib.hid (fun e => by have := HT0.out (HN.out e); injection this with _ q; injection q)
    clear HR hR HT0
    generalize r.length = L at *
    cases bg with
    | false =>
      obtain ⟨rfl, rfl, rfl⟩ : (0 : Int) = x ∧ (0 : Int) = y ∧ (21 : Int) = z := by simpa using hT
      go_enter Try.func53, Try.ntmps53
      go_wp2_with fail
      refine (HBeg.out _).mono ?_
      rintro e w1 ⟨rfl, hb1⟩
      go_wp2_with fail
      go_ret3
      exact ⟨rfl, hb1⟩
    | true =>
      simp only [Bool.true_eq_false, if_false] at hT
      by_cases q2 : t3 ≠ 0
      · obtain ⟨rfl, rfl, rfl⟩ : (0 : Int) = x ∧ (0 : Int) = y ∧ t3 = z := by simpa [q2] using hT
        have q2b : (t3 != 0) = true := by simpa using q2
        clear hT q2 a5
        by_cases hc1 : cap = 1
        · subst hc1
          have HZ2 := Lib.hid (fun W => HZ.out W (HN.out rfl))
          have e3 := HC.out rfl
          subst e3
          clear HZ HR2 HN HC
          have hL : L = 0 := by omega
          subst hL
          go_enter Try.func53, Try.ntmps53
          go_wp2_with fail
          refine (HBeg.out _).mono ?_
          rintro e w1 ⟨rfl, hb1⟩
          go_wp2_with fail
          refine (HZ2.out _).mono ?_
          rintro e w2 ⟨rfl, rfl⟩
          go_wp2_with fail
          go_ret3
          exact ⟨rfl, hb1⟩
        clear HZ HN HC
        go_enter Try.func53, Try.ntmps53
        go_wp2_with fail
        refine (HBeg.out _).mono ?_
        rintro e w1 ⟨rfl, hb1⟩
        go_wp2_with fail
        refine (HR2.out _ hb1).mono ?_
        rintro e w2 ⟨rfl, rfl⟩
        go_wp2_with fail
        go_ret3
        exact ⟨rfl, hb1⟩
      · simp only [ne_eq, Decidable.not_not] at q2
        subst q2
        simp only [ne_eq, not_true_eq_false, if_false] at hT
        clear a5
        have hc1 : cap ≠ 1 := fun e => by have := HC.out e; omega
        clear HZ HN HC
        by_cases q3 : t1 > 8192
        · obtain ⟨rfl, rfl, rfl⟩ : (0 : Int) = x ∧ (0 : Int) = y ∧ (22 : Int) = z := by simpa [q3] using hT
          clear hT
          go_enter Try.func53, Try.ntmps53
          go_wp2_with fail
          refine (HBeg.out _).mono ?_
          rintro e w1 ⟨rfl, hb1⟩
          go_wp2_with fail
          refine (HR2.out _ hb1).mono ?_
          rintro e w2 ⟨rfl, rfl⟩
          go_wp2_with fail
          go_ret3
          exact ⟨rfl, hb1⟩
        · by_cases q4 : 1 + t2 + t1 > ((L + 1 : Nat) : Int)
          · obtain ⟨rfl, rfl, rfl⟩ : (0 : Int) = x ∧ (0 : Int) = y ∧ (20 : Int) = z := by rw [if_neg q3, if_pos q4] at hT; simpa using hT
            clear hT
            go_enter Try.func53, Try.ntmps53
            go_wp2_with fail
            refine (HBeg.out _).mono ?_
            rintro e w1 ⟨rfl, hb1⟩
            go_wp2_with fail
            refine (HR2.out _ hb1).mono ?_
            rintro e w2 ⟨rfl, rfl⟩
            go_wp2_with fail
            go_ret3
            exact ⟨rfl, hb1⟩
          · obtain ⟨rfl, rfl, rfl⟩ : 1 + t2 = x ∧ 1 + t2 + t1 = y ∧ (0 : Int) = z := by rw [if_neg q3, if_neg q4] at hT; simpa using hT
            clear hT
            go_enter Try.func53, Try.ntmps53
            go_wp2_with fail
            refine (HBeg.out _).mono ?_
            rintro e w1 ⟨rfl, hb1⟩
            go_wp2_with fail
            refine (HR2.out _ hb1).mono ?_
            rintro e w2 ⟨rfl, rfl⟩
            go_wp2_with fail
            go_ret3
            exact ⟨rfl, hb1⟩
end Go.Proofs.Ytkeocnobninaaaa

/- Reading: the packet that a body's bytes are read as: wire.parse of a greeting. -/
namespace Go.Proofs.Ytkeocnobninaaaa
open Go.RowKit Go.Lib
set_option linter.unusedVariables false

theorem ownsInts {w : World} {base : Nat} {v : Value} {l : List Int} (h : w.ownsRow base 3 1 v l.length (intCells l)) : IntsAt w w.heap.size v l := by
  rcases h.2 with ⟨rfl, h0⟩ | ⟨g, cap, cur, rfl, _, hg, hc, hm, _, _⟩
  · have : l = [] := List.eq_nil_of_length_eq_zero h0
    subst this
    exact ⟨none, 0, rfl, by simp, by decide, fun _ => rfl, by simp, by simp⟩
  · refine ⟨_, cap, rfl, hc, hm, by simp, fun ad had _ => ?_, fun ad had j x hj => ?_⟩
    · injection had with had; subst had
      exact (h.lt g rfl).2
    · injection had with had; subst had
      exact h.cells rfl j _ (by unfold intCells; rw [List.getElem?_map, hj]; rfl)
theorem own_nz {w : World} {base n size c : Nat} {E : TypeId} {A : Option Addr} {xs : List Value} (h : w.ownsRow base E size (.slice A n c) n xs) : A = none → c = 0 := by
  rcases h.2 with ⟨e, _⟩ | ⟨g, cap, cur, e, _⟩
  · injection e with e1 e2 e3
    exact fun _ => e3
  · injection e with e1 e2 e3
    intro q
    rw [q] at e1
    cases e1
/-- Rows of the call's own lie behind it. -/
theorem own_bytes {w : World} {base n c : Nat} {A : Option Addr} {l : List UInt8} (hn : n = l.length) (h : w.ownsRow base 5 1 (.slice A n c) n (Lib.byteCells l)) : BytesAt w w.heap.size (.slice A n c) l := by
  subst hn
  exact ownsBytes h

/-- Rows of the call's own behind a packet, in blocks from base on. -/
structure PkOwn (w : World) (base : Nat) (q : Pk) (s : Sv) : Prop where
  pay : w.ownsRow base 5 1 (.slice s.pA q.pay.length s.pC) q.pay.length (Lib.byteCells q.pay)
  wpay : w.ownsRow base 5 1 (.slice s.wA q.wpay.length s.wC) q.wpay.length (Lib.byteCells q.wpay)
  pass : w.ownsRow base 5 1 (.slice s.uA q.pass.length s.uC) q.pass.length (Lib.byteCells q.pass)
  subs : w.ownsRow base 70 2 (.slice s.sA q.subs.length s.sC) q.subs.length (subCells q.subs)
  codes : w.ownsRow base 3 1 (.slice s.cA q.codes.length s.cC) q.codes.length (intCells q.codes)
theorem PkOwn.at_ {w : World} {base : Nat} {q : Pk} {s : Sv} (h : PkOwn w base q s) : PkAt w w.heap.size q s := ⟨ownsBytes h.pay, ownsBytes h.wpay, ownsBytes h.pass, ownsSubs h.subs, ownsInts h.codes⟩
theorem PkOwn.nil {w : World} {base : Nat} {q : Pk} {s : Sv} (h : PkOwn w base q s) : NilOk s := ⟨own_nz h.pay, own_nz h.wpay, own_nz h.pass⟩
theorem PkOwn.to {w w' : World} {base : Nat} {q : Pk} {s : Sv} (h : PkOwn w base q s) (hk : ∀ g, base ≤ g → g < w.heap.size → w'.heap[g]? = w.heap[g]?) : PkOwn w' base q s := ⟨own_to h.pay hk, own_to h.wpay hk, own_to h.pass hk, own_to h.subs hk, own_to h.codes hk⟩
theorem PkOwn.on {w w' : World} {base : Nat} {q : Pk} {s : Sv} (h : PkOwn w base q s) (hb : Below w.heap.size w w') : PkOwn w' base q s := h.to fun g _ hg => hb.block g hg
theorem PkOwn.mono {w : World} {base base' : Nat} {q : Pk} {s : Sv} (h : PkOwn w base q s) (hb : base' ≤ base) : PkOwn w base' q s := ⟨own_mono3 h.pay hb, own_mono3 h.wpay hb, own_mono3 h.pass hb, own_mono3 h.subs hb, own_mono3 h.codes hb⟩
theorem PkOwn.set {w : World} {base g : Nat} {q : Pk} {s : Sv} (h : PkOwn w base q s) (hg : g < base) (cs : Array Value) : PkOwn (w.setRow g cs) base q s := h.to fun b hb _ => by
  simp only [World.setRow]
  rw [Array.getElem?_modify, if_neg (by omega)]
theorem pk0_own (w : World) (base : Nat) : PkOwn w base pk0 sv0 := ⟨World.ownsRow_nil _ _ _ _, World.ownsRow_nil _ _ _ _, World.ownsRow_nil _ _ _ _, World.ownsRow_nil _ _ _ _, World.ownsRow_nil _ _ _ _⟩

/-- What a reading of a packet hands back. -/
def ParPost (w : World) (q : Pk) (e : Ending) (w' : World) : Prop :=
  ∃ s, e = .returned (pkV q s) ∧ PkOwn w' w.heap.size q s ∧ Below w.heap.size w w'
theorem own_set {w : World} {base n size g : Nat} {E : TypeId} {v : Value} {xs : List Value} (h : w.ownsRow base E size v n xs) (hg : g < base) (cs : Array Value) : (w.setRow g cs).ownsRow base E size v n xs :=
  own_to h fun b hb _ => by
    simp only [World.setRow]
    rw [Array.getElem?_modify, if_neg (by omega)]
theorem setRow_size (w : World) (g : Nat) (cs : Array Value) : (w.setRow g cs).heap.size = w.heap.size := by simp [World.setRow]

theorem par_fin {w w2 : World} {q : Pk} {s : Sv} (base : Nat) (hb : w.heap.size < base) (o1 : w2.ownsRow base 5 1 (.slice s.pA q.pay.length s.pC) q.pay.length (Lib.byteCells q.pay)) (o2 : w2.ownsRow base 5 1 (.slice s.wA q.wpay.length s.wC) q.wpay.length (Lib.byteCells q.wpay))
    (o3 : w2.ownsRow base 5 1 (.slice s.uA q.pass.length s.uC) q.pass.length (Lib.byteCells q.pass)) (o4 : w2.ownsRow base 70 2 (.slice s.sA q.subs.length s.sC) q.subs.length (subCells q.subs)) (o5 : w2.ownsRow base 3 1 (.slice s.cA q.codes.length s.cC) q.codes.length (intCells q.codes))
    (bl : Below w.heap.size w w2) (cs : Array Value) : PkOwn (w2.setRow w.heap.size cs) w.heap.size q s ∧ Below w.heap.size w (w2.setRow w.heap.size cs) :=
  ⟨((PkOwn.mk o1 o2 o3 o4 o5).set hb cs).mono (by omega), below_setRow bl (Nat.le_refl _) _⟩
theorem nil_row {w : World} {base size : Nat} {E : TypeId} {A : Option Addr} {c n : Nat} {xs : List Value} (hA : A = none) (hc : c = 0) (hn : n = 0) (hx : xs = []) : w.ownsRow base E size (.slice A n c) n xs := by
  subst hA hc hn hx
  exact World.ownsRow_nil _ _ _ _

set_option maxRecDepth 100000 in
set_option maxHeartbeats 8000000 in
theorem parse_1 (c : Int) (h0 : 0 ≤ c) (h1 : c ≤ 255) (hj : c / 16 = 1) (l : List UInt8) (ad : Addr) (cap : Nat) (w : World) (hv : BytesAt w w.heap.size (.slice (some ad) l.length cap) l) :
    Calls Try.prog 54 #[.int .u8 c, .slice (some ad) l.length cap] w (ParPost w (parR c l)) := by
  have HH := Lib.hid (fun W => headOf_any c h0 h1 W)
  have e : hdP c = { pk0 with kind := c / 16 } := by unfold hdP; rw [hj]; rfl
  have EQ : parR c l = conP (hdP c) l := by rw [e, conR_eq]; unfold parR; simp only [e, hj]; rfl
  have k1 : ((hdP c).kind == 1) = true := by rw [e]; simp [hj]
  have K : Hid ((hdP c).pay = [] ∧ (hdP c).wpay = [] ∧ (hdP c).pass = [] ∧ (hdP c).subs = [] ∧ (hdP c).codes = []) := Lib.hid (by rw [e]; exact ⟨rfl, rfl, rfl, rfl, rfl⟩)
  rw [EQ]
  clear EQ e
  generalize hdP c = P at *
  have HV := Lib.hid hv
  clear hv
  go_enter Try.func54, Try.ntmps54
  go_wp2_with fail
  refine (HH.out _).mono ?_
  rintro e w1 ⟨rfl, hb1⟩
  have r0 := heap_below hb1 (heap_alloc_last _ _)
  have R0 := Lib.hid r0
  have z1 : w.heap.size < w1.heap.size := by have := hb1.size; simp at this; omega
  have B1 := Lib.hid hb1
  clear r0 hb1 HH
  go_wp2_with ((with_reducible show wpList _ _ _ ({ dst := _, op := Op.store 28 (Operand.tmp 5) _, type := _, pos := _, after := _, guard := _ } :: _) _ _); refine stLst (w1.heap.size) (by rfl) _ (pkC P sv0) (by rfl) (by rfl) (by rfl) (by rfl) (pkc_one _ _) ?_)
  refine (con_any w.heap.size w1.heap.size (w1.heap.size + 1) ad cap l P sv0 _ ⟨heap_last2 _ _ _, ?_, ?_⟩ (by omega) (by omega) (heap_keep (heap_alloc_last _ _)) ?_ ?_).mono ?_
  · have bl := thn ((Below.refl w.heap.size w).alloc (Nat.le_refl _) _) B1.out
    exact HV.out.below ((bl.alloc (by omega) _).alloc (by simp; omega) _)
  · omega
  · rw [K.out.2.1]; exact World.ownsRow_nil _ _ _ _
  · rw [K.out.2.2.1]; exact World.ownsRow_nil _ _ _ _
  rintro e w2 ⟨rfl, hb2, s', row2, hs, ow2, op2⟩
  have q0 : w2.heap[w.heap.size]? = _ := (hb2.block _ (by omega)).trans (heap_keep (heap_keep R0.out))
  have W2 := Lib.hid (And.intro row2 (And.intro hs (And.intro ow2 op2)))
  have Q0 := Lib.hid q0
  have HB2 := Lib.hid hb2
  clear row2 hs ow2 op2 q0 hb2
  go_wp2_with (first
    | ((with_reducible show wpList _ _ _ ({ dst := _, op := Op.load 28 (Operand.tmp 5), type := _, pos := _, after := _, guard := _ } :: _) _ _); refine ld_pk (w1.heap.size) (by rfl) (by rfl) (pkC (conP P l) s') _ _ (by exact W2.out.1) (by rfl) ?_)
    | ((with_reducible show wpList _ _ _ ({ dst := _, op := Op.store 28 (Operand.tmp 4) _, type := _, pos := _, after := _, guard := _ } :: _) _ _); refine stR (w.heap.size) _ (pkC (conP P l) s') (by rfl) (by rfl) (by exact Q0.out) (by rfl) (by rfl) (pkc_one _ _) ?_))
  refine bodyPost_ret (v := .agg _) (results_cell_row (by rfl) _ _ (w.heap.size) 28 _ (0, 0) _ (by rfl) (setRow_heap _ _ _ _ _ _ (by exact Q0.out)) Try.underlying28 (by rfl) (by exact pk_sz)) (by rfl) ⟨s', rfl, ?_⟩
  obtain ⟨_, ⟨g1, g2, g3, g4, g5, g6⟩, ow2, op2⟩ := W2.out
  refine par_fin (w1.heap.size + 1) (by omega) (nil_row g1 g2 ?_ ?_) (own_mono3 ow2 (by simp)) (own_mono3 op2 (by simp)) (nil_row g3 g4 ?_ ?_) (nil_row g5 g6 ?_ ?_) ?_ _
  · show P.pay.length = 0
    rw [K.out.1]; rfl
  · show Lib.byteCells P.pay = []
    rw [K.out.1]; rfl
  · show P.subs.length = 0
    rw [K.out.2.2.2.1]; rfl
  · show subCells P.subs = []
    rw [K.out.2.2.2.1]; rfl
  · show P.codes.length = 0
    rw [K.out.2.2.2.2]; rfl
  · show intCells P.codes = []
    rw [K.out.2.2.2.2]; rfl
  · have bl := thn ((Below.refl w.heap.size w).alloc (Nat.le_refl _) _) B1.out
    exact ((bl.alloc (by omega) _).alloc (by simp; omega) _).trans (HB2.out.mono (by omega))
end Go.Proofs.Ytkeocnobninaaaa
