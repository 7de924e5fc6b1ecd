/- Texts made of runes, and what stands behind them: plain facts. -/
import Derived.Test.YtdnbkllofbnpoaaDoorEnc
namespace Go.Proofs.YtdnbkllofbnpoaaDoor
open Go.RowKit Go.Lib

theorem ofNat_toNat {n : Nat} (h : n < 256) : (UInt8.ofNat n).toNat = n := by simp; omega

set_option maxRecDepth 100000 in
theorem decN1 (n b0 b1 b2 b3 : Nat) (h : b0 < 128) : decodeN n b0 b1 b2 b3 = (b0, 1) := by unfold decodeN; rw [if_pos h]
set_option maxRecDepth 100000 in
theorem decN2 (n r b2 b3 : Nat) (hn : 1 < n) (h : 128 ≤ r) (h2 : r < 2048) : decodeN n (192 + r / 64) (128 + r % 64) b2 b3 = (r, 2) := by
  unfold decodeN
  rw [if_neg (by omega), if_pos ⟨by omega, hn, by omega⟩, if_pos (by omega)]
  exact Prod.ext (by show _ = r; omega) rfl
set_option maxRecDepth 100000 in
theorem decN3 (n r b3 : Nat) (hn : 2 < n) (h : 2048 ≤ r) (h2 : r < 65536) (hs : r < 55296 ∨ 57343 < r) : decodeN n (224 + r / 4096) (128 + r / 64 % 64) (128 + r % 64) b3 = (r, 3) := by
  have e : (224 + r / 4096) % 16 * 4096 + (128 + r / 64 % 64) % 64 * 64 + (128 + r % 64) % 64 = r := by omega
  unfold decodeN
  rw [e, if_neg (by omega), if_neg (by omega), if_pos ⟨by omega, ⟨by omega, by omega⟩, hn, by omega⟩, if_pos ⟨by omega, by omega⟩]
set_option maxRecDepth 100000 in
theorem decN4 (n r : Nat) (hn : 3 < n) (h : 65536 ≤ r) (h2 : r ≤ 1114111) : decodeN n (240 + r / 262144) (128 + r / 4096 % 64) (128 + r / 64 % 64) (128 + r % 64) = (r, 4) := by
  have e : (240 + r / 262144) % 8 * 262144 + (128 + r / 4096 % 64) % 64 * 4096 + (128 + r / 64 % 64) % 64 * 64 + (128 + r % 64) % 64 = r := by omega
  unfold decodeN
  rw [e, if_neg (by omega), if_neg (by omega), if_neg (by omega), if_pos ⟨by omega, ⟨by omega, by omega⟩, ⟨by omega, by omega⟩, hn, by omega⟩, if_pos ⟨by omega, by omega⟩]

/-- The rune that a number stands for. -/
def asRune (r : Int) : Nat := if Utf8.valid r then r.toNat else 65533
theorem encL_len (r : Int) : 1 ≤ (encL r).length ∧ (encL r).length ≤ 4 := by
  unfold encL Utf8.encode
  simp only
  repeat' split
  all_goals simp

theorem enc_cases (r : Int) : (∃ n : Nat, r = n ∧ n < 128 ∧ Utf8.valid r = true) ∨ (∃ n : Nat, r = n ∧ 128 ≤ n ∧ n < 2048 ∧ Utf8.valid r = true) ∨ (∃ n : Nat, r = n ∧ 2048 ≤ n ∧ n < 65536 ∧ (n < 55296 ∨ 57343 < n) ∧ Utf8.valid r = true) ∨
    (∃ n : Nat, r = n ∧ 65536 ≤ n ∧ n ≤ 1114111 ∧ Utf8.valid r = true) ∨ ((r < 0 ∨ (55296 ≤ r ∧ r ≤ 57343) ∨ 1114111 < r) ∧ Utf8.valid r = false) := by
  have hv : ((0 ≤ r ∧ r < 55296) ∨ (57343 < r ∧ r ≤ 1114111)) → Utf8.valid r = true := fun h => by rw [validRune_eq]; unfold validRune; exact decide_eq_true h
  have hb : ¬ ((0 ≤ r ∧ r < 55296) ∨ (57343 < r ∧ r ≤ 1114111)) → Utf8.valid r = false := fun h => by rw [validRune_eq]; unfold validRune; exact decide_eq_false h
  by_cases h0 : r < 0 ∨ (55296 ≤ r ∧ r ≤ 57343) ∨ 1114111 < r
  · exact .inr (.inr (.inr (.inr ⟨h0, hb (by omega)⟩)))
  · have hv := hv (by omega)
    have e : r = (r.toNat : Int) := by omega
    by_cases h1 : r < 128
    · exact .inl ⟨r.toNat, e, by omega, hv⟩
    · by_cases h2 : r < 2048
      · exact .inr (.inl ⟨r.toNat, e, by omega, by omega, hv⟩)
      · by_cases h3 : r < 65536
        · exact .inr (.inr (.inl ⟨r.toNat, e, by omega, by omega, by omega, hv⟩))
        · exact .inr (.inr (.inr (.inl ⟨r.toNat, e, by omega, by omega, hv⟩)))

theorem asRune_of {r : Int} {n : Nat} (h : r = n) (hv : Utf8.valid r = true) : asRune r = n := by unfold asRune; rw [hv, if_pos rfl, h]; rfl

/-- A rune's bytes are read as that rune, whatever stands behind them. -/
theorem dec_enc (r : Int) (t : List UInt8) : decodeL (encL r ++ t) = (asRune r, (encL r).length) := by
  rcases enc_cases r with ⟨n, e, h1, hv⟩ | ⟨n, e, h1, h2, hv⟩ | ⟨n, e, h1, h2, hs, hv⟩ | ⟨n, e, h1, h2, hv⟩ | ⟨h, hv⟩
  · rw [asRune_of e hv, e, enc1 n h1, decodeL_N]
    show decodeN _ (UInt8.ofNat n).toNat _ _ _ = (n, 1)
    rw [ofNat_toNat (by omega), decN1 _ _ _ _ _ h1]
  · rw [asRune_of e hv, e, enc2 n h1 h2, decodeL_N]
    show decodeN (t.length + 1 + 1) (UInt8.ofNat (192 + n / 64)).toNat (UInt8.ofNat (128 + n % 64)).toNat _ _ = (n, 2)
    rw [ofNat_toNat (by omega), ofNat_toNat (by omega), decN2 _ _ _ _ (by omega) h1 h2]
  · rw [asRune_of e hv, e, enc3 n h1 h2 hs, decodeL_N]
    show decodeN (t.length + 1 + 1 + 1) (UInt8.ofNat (224 + n / 4096)).toNat (UInt8.ofNat (128 + n / 64 % 64)).toNat (UInt8.ofNat (128 + n % 64)).toNat _ = (n, 3)
    rw [ofNat_toNat (by omega), ofNat_toNat (by omega), ofNat_toNat (by omega), decN3 _ _ _ (by omega) h1 h2 hs]
  · rw [asRune_of e hv, e, enc4 n h1 h2, decodeL_N]
    show decodeN (t.length + 1 + 1 + 1 + 1) (UInt8.ofNat (240 + n / 262144)).toNat (UInt8.ofNat (128 + n / 4096 % 64)).toNat (UInt8.ofNat (128 + n / 64 % 64)).toNat (UInt8.ofNat (128 + n % 64)).toNat = (n, 4)
    rw [ofNat_toNat (by omega), ofNat_toNat (by omega), ofNat_toNat (by omega), ofNat_toNat (by omega), decN4 _ _ (by omega) h1 h2]
  · have e : asRune r = 65533 := by unfold asRune; rw [hv]; rfl
    rw [e, encBad r h]
    exact dec_repl t

theorem ps_enc (r : Int) (t : List UInt8) : ps (encL r ++ t) = encL r :: ps t := by
  have hl := encL_len r
  have hne : encL r ++ t ≠ [] := by
    intro e
    have := congrArg List.length e
    rw [List.length_append, List.length_nil] at this
    omega
  rw [ps_cons _ hne, dec_enc]
  show (encL r ++ t).take (encL r).length :: ps ((encL r ++ t).drop (encL r).length) = _
  rw [List.take_append_of_le_length (Nat.le_refl _), List.take_of_length_le (Nat.le_refl _), List.drop_append_of_le_length (Nat.le_refl _), List.drop_of_length_le (Nat.le_refl _), List.nil_append]

theorem ps_encs (l : List Int) (t : List UInt8) : ps (l.flatMap encL ++ t) = l.map encL ++ ps t := by
  induction l with
  | nil => rfl
  | cons r l ih => rw [List.flatMap_cons, List.append_assoc, ps_enc, ih]; rfl

theorem dec_enc0 (r : Int) : (decodeL (encL r)).1 = asRune r := by
  have h := dec_enc r []
  rw [List.append_nil] at h
  rw [h]

/-- A text of runes and a text behind it. -/
theorem joins_cnt (l : List Int) (t : List UInt8) : cnt (l.flatMap encL ++ t) = l.length + cnt t := by
  unfold cnt; rw [ps_encs, List.length_append, List.length_map]
theorem joins_cut (l : List Int) (t : List UInt8) : cutL l.length (l.flatMap encL ++ t) = l.flatMap encL := by
  unfold cutL
  rw [ps_encs, List.take_append_of_le_length (by simp), List.take_of_length_le (by simp), List.flatMap_def]
theorem joins_rns (l : List Int) (t : List UInt8) : rnsL (l.flatMap encL ++ t) = rnsL (l.flatMap encL) ++ rnsL t := by
  have h := ps_encs l []
  rw [List.append_nil, ps_nil, List.append_nil] at h
  unfold rnsL
  rw [ps_encs, h, List.map_append]
theorem flat_len (l : List Int) : (l.flatMap encL).length ≤ 4 * l.length := by
  induction l with
  | nil => simp
  | cons r l ih =>
    have := (encL_len r).2
    rw [List.flatMap_cons, List.length_append, List.length_cons]
    omega
end Go.Proofs.YtdnbkllofbnpoaaDoor
