/- What the document's Read comes to. -/
import Derived.Test.YtdacgfhlgpbccaaRead
namespace Go.Proofs.Ytdacgfhlgpbccaa
open Go.RowKit Go.Lib

theorem and_more : ∀ y : Fin 256, bits .and .u8 (y.val : Int) 127 = bits .andNot .u8 (y.val : Int) 128 := by decide +kernel
theorem acc_eq2 (n : Int) (z j : Nat) (hz : z < 256) (hj : j ≤ 3) (h0 : 0 ≤ n) (h1 : n + 1 ≤ 128 ^ j) :
    bits .or .i64 n (wrap64 (wrap64 (bits .and .u8 (z : Int) 127) * 2 ^ (7 * j))) = n + ((z : Int) % 128) * 128 ^ j ∧ 0 ≤ n + ((z : Int) % 128) * 128 ^ j ∧ n + ((z : Int) % 128) * 128 ^ j + 1 ≤ 128 ^ (j + 1) ∧ n + ((z : Int) % 128) * 128 ^ j ≤ 268435455 := by
  have e := and_more ⟨z, hz⟩
  simp only at e
  rw [e]
  exact acc_eq n z j hz hj h0 h1

set_option maxRecDepth 100000 in
set_option maxHeartbeats 1000000 in
theorem rread_some (ad : Addr) (c : Nat) (l : List UInt8) (w : World) (a b d : Int) (hT : readT l = (a, b, d)) (hl : l.length ≤ 1000) (hx : ∀ (j : Nat) (x : UInt8), l[j]? = some x → w.cell? (ad.add j) = some (.int .u8 (x.toNat : Int))) :
    Calls Try.prog 13 #[.slice (some ad) l.length c] w fun e w' => e = .returned (.tuple #[.int .i64 a, .int .i64 b, .int .i64 d]) ∧ w = w' := by
  have HX := Lib.hid hx
  clear hx
  have HT := Lib.hid hT
  clear hT
  go_enter Try.func13, Try.ntmps13
  go_wp2
  go_loopw [5, 6] (fun sn si wr => ∃ (j : Nat) (n : Int), j ≤ 4 ∧ j ≤ l.length ∧ sn = .int .i64 n ∧ si = .int .i64 j ∧ 0 ≤ n ∧ Hid (j ≤ 3 → n + 1 ≤ 128 ^ j ∧ readAt j n (l.drop j) = (a, b, d)) ∧ Hid (4 ≤ j → (0, 0, 21) = (a, b, d)) ∧ wr = w) (fun _ i _ => 4 - (intOf i).toNat)
  case atStart => exact ⟨0, 0, by omega, by omega, rfl, rfl, by omega, fun _ => ⟨by decide, HT⟩, fun h => by omega, rfl⟩
  case round =>
    obtain ⟨j, n, hj, hjl, rfl, rfl, hn0, hrd, hfar, rfl⟩ := hrel
    by_cases hj4 : 4 ≤ j
    · obtain ⟨rfl, rfl, rfl⟩ : (0 : Int) = a ∧ (0 : Int) = b ∧ (21 : Int) = d := by simpa using hfar.out hj4
      clear hrd HT hfar
      go_wp2_with fail
      go_ret3
      exact ⟨rfl, rfl⟩
    have hj3 : j ≤ 3 := by omega
    have hn1 := (hrd.out hj3).1
    have hrd := Lib.hid (hrd.out hj3).2
    by_cases hlt : j < l.length
    · have hcell := HX.out j _ (List.getElem?_eq_getElem hlt)
      have hd : l.drop j = l[j] :: l.drop (j + 1) := List.drop_eq_getElem_cons hlt
      have HD := Lib.hid hd
      clear hd
      have hb256 : l[j].toNat < 256 := l[j].toNat_lt
      generalize l[j] = x at *
      have hacc := acc_eq2 n x.toNat j hb256 hj3 hn0 hn1
      have HA := Lib.hid hacc
      clear hacc
      by_cases hz : x.toNat ≤ 127
      · have hfin : Hid (wholeT (n + ((x.toNat : Int) % 128) * 128 ^ j) ((j : Int) + 1) = (a, b, d)) := by
          have h := hrd.out
          rw [HD.out, readAt_end hz] at h
          rw [← h]
          congr 2
          have : ((x.toNat : Int) % 128) = (x.toNat : Int) := by omega
          rw [this]
        generalize x.toNat = z at *
        clear hrd HD hn1 hfar
        have hs := fun W => rsize_any (n + ((z : Int) % 128) * 128 ^ j) (by have := HA.out.2.1; omega) (by have := HA.out.2.2.2; omega) W
        have hsz := size_le (n + ((z : Int) % 128) * 128 ^ j)
        have hfin := hfin
        unfold wholeT at hfin
        generalize sizeI (n + ((z : Int) % 128) * 128 ^ j) = s at *
        by_cases q : s = (j : Int) + 1
        · have h3 := hfin.out
          rw [if_pos q] at h3
          obtain ⟨h3a, h3b, h3c⟩ : n + ((z : Int) % 128) * 128 ^ j = a ∧ (j : Int) + 1 = b ∧ (0 : Int) = d := by simpa using h3
          have e1 := HA.out.1
          rw [h3a] at e1 hs
          have E1 := Lib.hid e1
          subst h3c
          have H3 := Lib.hid h3b
          clear HA hfin h3 h3a h3b e1
          go_wp2_with fail
          rw [E1.out]
          refine (hs _).mono ?_
          rintro e w1 ⟨rfl, rfl⟩
          go_wp2_with fail
          go_ret3
          exact ⟨by rw [← H3.out]; rfl, rfl⟩
        · have h3 := hfin.out
          rw [if_neg q] at h3
          obtain ⟨rfl, rfl, rfl⟩ : (0 : Int) = a ∧ (0 : Int) = b ∧ (21 : Int) = d := by simpa using h3
          have e1 := HA.out.1
          have E1 := Lib.hid e1
          clear HA hfin h3 e1
          go_wp2_with fail
          rw [E1.out]
          refine (hs _).mono ?_
          rintro e w1 ⟨rfl, rfl⟩
          go_wp2_with fail
          go_ret3
          exact ⟨rfl, rfl⟩
      · have hfin : Hid (j + 1 ≤ 3 → n + ((x.toNat : Int) % 128) * 128 ^ j + 1 ≤ 128 ^ (j + 1) ∧ readAt (j + 1) (n + ((x.toNat : Int) % 128) * 128 ^ j) (l.drop (j + 1)) = (a, b, d)) := by
          intro h3
          refine ⟨HA.out.2.2.1, ?_⟩
          have h := hrd.out
          rw [HD.out, readAt_more hz (by omega)] at h
          exact h
        have hfin2 : Hid (4 ≤ j + 1 → (0, 0, 21) = (a, b, d)) := by
          intro h3
          have h := hrd.out
          rw [HD.out, readAt_far hz (by omega)] at h
          exact h
        generalize x.toNat = z at *
        clear hrd HD hn1 hfar
        go_wp2_with fail
        go_roundw
        case rel =>
          exact ⟨j + 1, _, by omega, by omega, by rw [HA.out.1], by go_num, HA.out.2.1, hfin, hfin2, trivial⟩
        case measure => simp [intOf]; omega
    · obtain ⟨rfl, rfl, rfl⟩ : (0 : Int) = a ∧ (0 : Int) = b ∧ (20 : Int) = d := by
        have h := hrd.out
        rw [List.drop_of_length_le (by omega)] at h
        unfold readAt at h
        simpa using h
      clear hrd HT hfar hn1
      go_wp2_with fail
      go_ret3
      exact ⟨rfl, rfl⟩

set_option maxRecDepth 100000 in
set_option maxHeartbeats 1000000 in
theorem rread_none (c : Nat) (w : World) :
    Calls Try.prog 13 #[.slice none 0 c] w fun e w' => e = .returned (.tuple #[.int .i64 0, .int .i64 0, .int .i64 20]) ∧ w = w' := by
  go_enter Try.func13, Try.ntmps13
  go_wp2_with fail
  refine wp_loop_rounds 1 ?_
  rw [rounds_succ]
  go_wp2_with fail
  go_ret3
  exact ⟨rfl, rfl⟩

/-- The document's Read. -/
theorem rread_any (v : Value) (l : List UInt8) (w : World) (B : Nat) (hv : BytesAt w B v l) (hl : l.length ≤ 1000) (a b d : Int) (hT : readT l = (a, b, d)) :
    Calls Try.prog 13 #[v] w fun e w' => e = .returned (.tuple #[.int .i64 a, .int .i64 b, .int .i64 d]) ∧ w = w' := by
  obtain ⟨A, c, rfl, _, _, hn, _, hx⟩ := hv
  cases A with
  | some ad => exact rread_some ad c l w a b d hT hl (hx ad rfl)
  | none =>
    obtain rfl := hn rfl
    obtain ⟨rfl, rfl, rfl⟩ : (0 : Int) = a ∧ (0 : Int) = b ∧ (20 : Int) = d := by
      unfold readT readAt at hT
      simpa using hT
    exact rread_none c w
end Go.Proofs.Ytdacgfhlgpbccaa
