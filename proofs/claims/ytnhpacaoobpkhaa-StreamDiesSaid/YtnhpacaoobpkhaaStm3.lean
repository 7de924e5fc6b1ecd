/- Streams: the beginnings of a packet; half a packet (the laws' first test). -/
import Derived.Test.YtnhpacaoobpkhaaStm2
namespace Go.Proofs.Ytnhpacaoobpkhaa
open Go.RowKit Go.Lib
set_option linter.unusedVariables false
set_option linter.unusedSimpArgs false

theorem st_all : ∀ (l : List UInt8) (i : Nat) (n : Int), (∀ c ∈ l, ¬ c.toNat ≤ 127) → i + l.length ≤ 3 → readAt i n l = (0, 0, 20)
  | [], _, _, _, _ => by unfold readAt; rfl
  | c :: r, i, n, h, hi => by
    rw [List.length_cons] at hi
    rw [readAt_more (h c (by simp)) (by omega)]
    exact st_all r (i + 1) _ (fun d hd => h d (by simp [hd])) (by omega)
theorem st_more (v : Int) (h : 128 ≤ v) (h1 : v ≤ 255) : ¬ (UInt8.ofNat v.toNat).toNat ≤ 127 := by
  have := byte_of v (by omega) h1
  omega
theorem st_T (x : Int) (h : 0 ≤ x) (h1 : x ≤ 268435455) (i : Nat) (hi : i < (putL x).length) : readT ((putL x).take i) = (0, 0, 20) := by
  have hle := putL_len x
  refine st_all _ 0 0 (fun c hc => ?_) (by rw [List.length_take]; omega)
  have hsub : c ∈ (putL x).take ((putL x).length - 1) := List.mem_of_mem_take (i := i) (by rw [List.take_take, Nat.min_eq_left (by omega)]; exact hc)
  clear hc hi
  by_cases q1 : x ≤ 127
  · rw [putL_1 h q1] at hsub
    simp at hsub
  by_cases q2 : x ≤ 16383
  · rw [putL_2 (by omega) q2] at hsub
    simp at hsub
    rw [hsub]
    exact st_more _ (by omega) (by omega)
  by_cases q3 : x ≤ 2097151
  · rw [putL_3 (by omega) q3] at hsub
    simp at hsub
    rcases hsub with e | e <;> rw [e] <;> exact st_more _ (by omega) (by omega)
  · rw [putL_4 (by omega) h1] at hsub
    simp at hsub
    rcases hsub with e | e | e <;> rw [e] <;> exact st_more _ (by omega) (by omega)
/-- The beginning of a right packet is short. -/
theorem rd_pre (p : Pk) (h : rightP p = true) (n : Nat) (hn : n < (encP p).length) : (rdP ((encP p).take n)).2.2 = 20 := by
  have f := right_f p h
  obtain ⟨g1, g2⟩ := f.len
  have hbn := bnd_enc p h []
  rw [List.append_nil] at hbn
  have hl := enc_len p
  have e : encP p = UInt8.ofNat (headP p).toNat :: (putL (lenP p) ++ bodyL p) := by unfold encP; simp [List.append_assoc]
  have hb : begP (UInt8.ofNat (headP p).toNat).toNat = true := by
    have k := bnd_ok (UInt8.ofNat (headP p).toNat) (putL (lenP p) ++ bodyL p) (by rw [← e, hbn])
    exact k.1
  cases n with
  | zero => rfl
  | succ k =>
    have hk : bndP (UInt8.ofNat (headP p).toNat :: (putL (lenP p) ++ bodyL p).take k) = (0, 0, 20) := by
      simp only [bndP]
      rw [if_neg (by rw [hb]; simp)]
      by_cases q : k < (putL (lenP p)).length
      · rw [List.take_append_of_le_length (by omega), st_T _ g1 (by omega) k q]
        simp
      · have ht : (putL (lenP p) ++ bodyL p).take k = putL (lenP p) ++ (bodyL p).take (k - (putL (lenP p)).length) := by
          rw [List.take_append]
          rw [List.take_of_length_le (by omega)]
        have hlen : ((UInt8.ofNat (headP p).toNat) :: (putL (lenP p) ++ bodyL p).take k).length ≤ 1 + k := by
          rw [List.length_cons, List.length_take]; omega
        rw [ht] at hlen ⊢
        rw [back_T _ g1 (by omega)]
        simp only [ne_eq, not_true_eq_false, if_false]
        rw [if_neg (by omega), if_pos (by omega)]
    rw [e, List.take_succ_cons]
    simp only [rdP]
    rw [hk]
    simp
theorem pks_pre (p : Pk) (h : rightP p = true) (n : Nat) (hn : n < (encP p).length) : pksP ((encP p).take n) = ([], 0, 0) := pksP_short (rd_pre p h n hn)
theorem pks_nil : pksP [] = ([], 0, 0) := pksP_short rfl
theorem pks_cons (p : Pk) (h : rightP p = true) (r : List UInt8) : pksP (encP p ++ r) = (p :: (pksP r).1, (encP p).length + (pksP r).2.1, (pksP r).2.2) := by
  have k := rd_enc p h r
  have s := @pksP_step (encP p ++ r) (by rw [k])
  rw [k] at s
  simp only [Int.toNat_natCast] at s
  rw [List.drop_left] at s
  exact s
theorem pks_enc (p : Pk) (h : rightP p = true) : pksP (encP p) = ([p], (encP p).length, 0) := by
  have := pks_cons p h []
  rw [List.append_nil, pks_nil] at this
  exact this
theorem enc_small (p : Pk) (h : rightP p = true) : (encP p).length ≤ 9000 := by
  have h1 := enc_len p
  have h2 := putL_len (lenP p)
  have h3 := (right_f p h).len
  omega
/-- A Feed whose answer is known. -/
theorem FeedPost.known {w : World} {b : Nat} {g : Option Nat} {T : List UInt8} {e : Ending} {w' : World} (h : FeedPost w b g T e w') (P : List Pk) (z : Nat) (er : Int) (k : Nat) (R : List UInt8) (hp : pksP T = (P, z, er)) (hk : P.length = k) (hr : restP T = R) :
    ∃ (A : Option Addr) (C : Nat) (Ls : List (Pk × Sv)) (A' : Option Addr) (C' : Nat), e = .returned (.tuple #[.slice A k C, .int .i64 er]) ∧ Ls.map (·.1) = P ∧ PksAt w' w.heap.size (.slice A k C) Ls ∧ StrAt w' b A' C' R er ∧ Fed w w' b g (Value.slice A' R.length C').ownBlock := by
  obtain ⟨A, C, Ls, A', C', rfl, h1, h2, h3, h4⟩ := h
  have e : Ls.length = k := by rw [← hk, ← show (pksP T).1 = P by rw [hp], ← h1, List.length_map]
  rw [e] at h2 ⊢
  rw [hp] at h1 h3 ⊢
  rw [hr] at h3 h4
  exact ⟨A, C, Ls, A', C', rfl, h1, h2, h3, h4⟩
def b0 : List UInt8 := [192]
def b1 : List UInt8 := [0, 208, 0, 224]
def b2 : List UInt8 := [1, 9]
set_option maxRecDepth 100000 in
set_option maxHeartbeats 4000000 in
theorem known5_any (w : World) : Calls Try.prog 26 #[] w fun e w' => e = .returned (.bool true) ∧ Below w.heap.size w w' := by
  go_enter Try.func26, Try.ntmps26
  go_wp2_with fail
  refine (new_any w).mono ?_
  rintro e w1 ⟨rfl, hb, hs, hS⟩
  have B1 := Lib.hid hb
  have S1 := Lib.hid (hS.below (alB (Below.refl _ _) (.cells #[.int .u8 192] 5)))
  clear hb hS
  go_wp2_with fail
  have v1 := bytesAt_new w1 b0 #[.int .u8 192] (0, 0) rfl (by decide)
  rw [← World.size_alloc] at v1
  have F1 := feed_any w.heap.size 0 none [] _ _ b0 _ S1.out v1 (by simp) (by decide)
  refine F1.mono ?_
  rintro e w2 h2
  obtain ⟨A2, C2, L2, A2', C2', rfl, _, _, hS2, hF2⟩ := h2.known [] 0 0 0 b0 (by decide +kernel) rfl (by decide +kernel)
  have B2 : Hid (Below w.heap.size w w2) := Lib.hid ((alB B1.out _).trans hF2.below)
  have S2 := Lib.hid (hS2.below (alB (Below.refl _ _) (.cells #[.int .u8 0, .int .u8 208, .int .u8 0, .int .u8 224] 5)))
  clear h2 hS2 hF2 F1 v1 S1 B1
  go_wp2_with fail
  have v2 := bytesAt_new w2 b1 #[.int .u8 0, .int .u8 208, .int .u8 0, .int .u8 224] (0, 0) rfl (by decide)
  rw [← World.size_alloc] at v2
  have F2 := feed_any w.heap.size _ _ b0 _ _ b1 _ S2.out v2 (by simp) (by decide)
  refine F2.mono ?_
  rintro e w3 h3
  obtain ⟨A3, C3, L3, A3', C3', rfl, _, _, hS3, hF3⟩ := h3.known (pksP (b0 ++ b1)).1 4 0 2 [224] (by decide +kernel) (by decide +kernel) (by decide +kernel)
  have B3 : Hid (Below w.heap.size w w3) := Lib.hid ((alB B2.out _).trans hF3.below)
  have S3 := Lib.hid (hS3.below (alB (Below.refl _ _) (.cells #[.int .u8 1, .int .u8 9] 5)))
  clear h3 hS3 hF3 F2 v2 S2 B2
  go_wp2_with fail
  have v3 := bytesAt_new w3 b2 #[.int .u8 1, .int .u8 9] (0, 0) rfl (by decide)
  rw [← World.size_alloc] at v3
  have F3 := feed_any w.heap.size _ _ [224] _ _ b2 _ S3.out v3 (by simp) (by decide)
  refine F3.mono ?_
  rintro e w4 h4
  obtain ⟨A4, C4, L4, A4', C4', rfl, _, _, hS4, hF4⟩ := h4.known [] 0 21 0 [] (by decide +kernel) rfl (by decide +kernel)
  have B4 : Hid (Below w.heap.size w w4) := Lib.hid ((alB B3.out _).trans hF4.below)
  have D4 : Calls Try.prog 33 #[.pointer (some ⟨w.heap.size, 0, none⟩)] w4 fun e w' => e = .returned (.bool true) ∧ w4 = w' := dead_any _ _ _ _ _ _ hS4
  have L4 : Calls Try.prog 32 #[.pointer (some ⟨w.heap.size, 0, none⟩)] w4 fun e w' => e = .returned (.int .i64 0) ∧ w4 = w' := left_any _ _ _ _ _ _ hS4
  clear h4 hS4 hF4 F3 v3 S3 B3
  go_wp2_with (first | (go_at_call 33; refine D4.mono ?_; rintro e w' ⟨rfl, rfl⟩) | (go_at_call 32; refine L4.mono ?_; rintro e w' ⟨rfl, rfl⟩))
  go_ret
  exact ⟨rfl, B4.out⟩
end Go.Proofs.Ytnhpacaoobpkhaa
