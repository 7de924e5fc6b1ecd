/- Runes as bytes and back: plain facts. -/
import Derived.Test.YtdnbkllofbnpoaaDoorCheck
namespace Go.Proofs.YtdnbkllofbnpoaaDoor
open Go.RowKit Go.Lib

/-- A rune's bytes, as a list. -/
def encL (r : Int) : List UInt8 := (Utf8.encode r).data.toList

theorem byte_eq {n : Nat} {b : UInt8} (h : n = b.toNat) : UInt8.ofNat n = b := by rw [h]; simp

set_option maxRecDepth 100000 in
theorem enc1 (r : Nat) (h : r < 128) : encL r = [UInt8.ofNat r] := by
  have hv : Utf8.valid (r : Int) = true := by rw [validRune_eq]; unfold validRune; exact decide_eq_true (by omega)
  unfold encL Utf8.encode
  simp only [hv, if_true, Int.toNat_natCast]
  rw [if_pos h]
set_option maxRecDepth 100000 in
theorem enc2 (r : Nat) (h : 128 ≤ r) (h2 : r < 2048) : encL r = [UInt8.ofNat (192 + r / 64), UInt8.ofNat (128 + r % 64)] := by
  have hv : Utf8.valid (r : Int) = true := by rw [validRune_eq]; unfold validRune; exact decide_eq_true (by omega)
  unfold encL Utf8.encode
  simp only [hv, if_true, Int.toNat_natCast]
  rw [if_neg (by omega), if_pos h2]
set_option maxRecDepth 100000 in
theorem enc3 (r : Nat) (h : 2048 ≤ r) (h2 : r < 65536) (hs : r < 55296 ∨ 57343 < r) : encL r = [UInt8.ofNat (224 + r / 4096), UInt8.ofNat (128 + r / 64 % 64), UInt8.ofNat (128 + r % 64)] := by
  have hv : Utf8.valid (r : Int) = true := by rw [validRune_eq]; unfold validRune; exact decide_eq_true (by omega)
  unfold encL Utf8.encode
  simp only [hv, if_true, Int.toNat_natCast]
  rw [if_neg (by omega), if_neg (by omega), if_pos h2]
set_option maxRecDepth 100000 in
theorem enc4 (r : Nat) (h : 65536 ≤ r) (h2 : r ≤ 1114111) : encL r = [UInt8.ofNat (240 + r / 262144), UInt8.ofNat (128 + r / 4096 % 64), UInt8.ofNat (128 + r / 64 % 64), UInt8.ofNat (128 + r % 64)] := by
  have hv : Utf8.valid (r : Int) = true := by rw [validRune_eq]; unfold validRune; exact decide_eq_true (by omega)
  unfold encL Utf8.encode
  simp only [hv, if_true, Int.toNat_natCast]
  rw [if_neg (by omega), if_neg (by omega), if_neg (by omega)]
set_option maxRecDepth 100000 in
theorem encBad (r : Int) (h : r < 0 ∨ (55296 ≤ r ∧ r ≤ 57343) ∨ 1114111 < r) : encL r = [239, 191, 189] := by
  have hv : Utf8.valid r = false := by rw [validRune_eq]; unfold validRune; exact decide_eq_false (by omega)
  unfold encL Utf8.encode
  rw [hv]
  simp only [Bool.false_eq_true, if_false]
  decide

theorem one_of (l : List UInt8) (h : 1 ≤ l.length) : ∃ b0 t, l = b0 :: t := by
  cases l with
  | nil => simp at h
  | cons b t => exact ⟨b, t, rfl⟩
theorem two_of (l : List UInt8) (h : 2 ≤ l.length) : ∃ b0 b1 t, l = b0 :: b1 :: t := by
  obtain ⟨b, t, rfl⟩ := one_of l (by omega)
  obtain ⟨c, t, rfl⟩ := one_of t (by simp at h; omega)
  exact ⟨b, c, t, rfl⟩
theorem three_of (l : List UInt8) (h : 3 ≤ l.length) : ∃ b0 b1 b2 t, l = b0 :: b1 :: b2 :: t := by
  obtain ⟨b, t, rfl⟩ := one_of l (by omega)
  obtain ⟨c, d, t, rfl⟩ := two_of t (by simp at h; omega)
  exact ⟨b, c, d, t, rfl⟩
theorem four_of (l : List UInt8) (h : 4 ≤ l.length) : ∃ b0 b1 b2 b3 t, l = b0 :: b1 :: b2 :: b3 :: t := by
  obtain ⟨b, t, rfl⟩ := one_of l (by omega)
  obtain ⟨c, d, e, t, rfl⟩ := three_of t (by simp at h; omega)
  exact ⟨b, c, d, e, t, rfl⟩

theorem byte0 (b0 : UInt8) (p : b0.toNat < 128) : encL ((b0.toNat : Nat) : Int) = [b0] := by rw [enc1 _ p, byte_eq rfl]
set_option maxRecDepth 100000 in
theorem byte2 (b0 b1 : UInt8) (p1 : b0.toNat / 32 = 6) (p3 : b1.toNat / 64 = 2) (p4 : 128 ≤ b0.toNat % 32 * 64 + b1.toNat % 64) : encL ((b0.toNat % 32 * 64 + b1.toNat % 64 : Nat) : Int) = [b0, b1] := by
  have k0 := b0.toNat_lt
  have k1 := b1.toNat_lt
  rw [enc2 _ p4 (by omega), byte_eq (b := b0) (by omega), byte_eq (b := b1) (by omega)]
set_option maxRecDepth 100000 in
theorem byte3 (b0 b1 b2 : UInt8) (p1 : b0.toNat / 16 = 14) (p3 : b1.toNat / 64 = 2) (p4 : b2.toNat / 64 = 2) (p5 : 2048 ≤ b0.toNat % 16 * 4096 + b1.toNat % 64 * 64 + b2.toNat % 64)
    (p6 : b0.toNat % 16 * 4096 + b1.toNat % 64 * 64 + b2.toNat % 64 < 55296 ∨ 57344 ≤ b0.toNat % 16 * 4096 + b1.toNat % 64 * 64 + b2.toNat % 64) :
    encL ((b0.toNat % 16 * 4096 + b1.toNat % 64 * 64 + b2.toNat % 64 : Nat) : Int) = [b0, b1, b2] := by
  have k0 := b0.toNat_lt
  have k1 := b1.toNat_lt
  have k2 := b2.toNat_lt
  rw [enc3 _ p5 (by omega) (by omega), byte_eq (b := b0) (by omega), byte_eq (b := b1) (by omega), byte_eq (b := b2) (by omega)]
set_option maxRecDepth 100000 in
theorem byte4 (b0 b1 b2 b3 : UInt8) (p1 : b0.toNat / 8 = 30) (p3 : b1.toNat / 64 = 2) (p4 : b2.toNat / 64 = 2) (p5 : b3.toNat / 64 = 2) (p6 : 65536 ≤ b0.toNat % 8 * 262144 + b1.toNat % 64 * 4096 + b2.toNat % 64 * 64 + b3.toNat % 64)
    (p7 : b0.toNat % 8 * 262144 + b1.toNat % 64 * 4096 + b2.toNat % 64 * 64 + b3.toNat % 64 ≤ 1114111) :
    encL ((b0.toNat % 8 * 262144 + b1.toNat % 64 * 4096 + b2.toNat % 64 * 64 + b3.toNat % 64 : Nat) : Int) = [b0, b1, b2, b3] := by
  have k0 := b0.toNat_lt
  have k1 := b1.toNat_lt
  have k2 := b2.toNat_lt
  have k3 := b3.toNat_lt
  rw [enc4 _ p6 p7, byte_eq (b := b0) (by omega), byte_eq (b := b1) (by omega), byte_eq (b := b2) (by omega), byte_eq (b := b3) (by omega)]

/-- What was read comes back, if it was no broken byte. -/
theorem enc_dec (l : List UInt8) (hne : l ≠ []) (hok : (decodeL l).1 = 65533 → l.take (decodeL l).2 = [239, 191, 189]) : encL ((decodeL l).1 : Nat) = l.take (decodeL l).2 := by
  have hL := decodeL_le l hne
  have hN := decodeL_N l
  rcases decodeN_shape l.length (l.getD 0 0).toNat (l.getD 1 0).toNat (l.getD 2 0).toNat (l.getD 3 0).toNat with ⟨p, q⟩ | ⟨p1, p2, p3, p4, q⟩ | ⟨p1, p2, p3, p4, p5, p6, q⟩ | ⟨p1, p2, p3, p4, p5, p6, p7, q⟩ | q
  · rw [q] at hN
    rw [hN] at hL ⊢
    obtain ⟨b0, t, rfl⟩ := one_of l hL
    exact byte0 b0 p
  · rw [q] at hN
    rw [hN] at hL ⊢
    obtain ⟨b0, b1, t, rfl⟩ := two_of l hL
    exact byte2 b0 b1 p1 p3 p4
  · rw [q] at hN
    rw [hN] at hL ⊢
    obtain ⟨b0, b1, b2, t, rfl⟩ := three_of l hL
    exact byte3 b0 b1 b2 p1 p3 p4 p5 p6
  · rw [q] at hN
    rw [hN] at hL ⊢
    obtain ⟨b0, b1, b2, b3, t, rfl⟩ := four_of l hL
    exact byte4 b0 b1 b2 b3 p1 p3 p4 p5 p6 p7
  · rw [q] at hN
    rw [hN] at hok
    have h := congrArg List.length (hok rfl)
    rw [List.length_take] at h
    simp at h
    omega

/-- Of a text's pieces each is one rune's, whole. -/
theorem piece_whole : ∀ l, ∀ c ∈ ps l, c ≠ [] ∧ (decodeL c).2 = c.length := by
  apply ps_ind
  · simp [ps_nil]
  · intro l hne ih c hc
    rw [ps_cons l hne] at hc
    rcases List.mem_cons.1 hc with rfl | hc
    · have w1 := decodeL_width l
      have w2 := decodeL_le l hne
      rw [decodeL_take l _ (Nat.le_refl _), List.length_take, Nat.min_eq_left w2]
      refine ⟨fun e => ?_, rfl⟩
      have := congrArg List.length e
      rw [List.length_take, Nat.min_eq_left w2] at this
      simp at this
      omega
    · exact ih c hc

theorem chkP_neg : ∀ (cs : List (List UInt8)) (o : Nat), chkP cs o < 0 → ∀ c ∈ cs, badP c = false
  | [], _, _, c, hc => by cases hc
  | d :: cs, o, h, c, hc => by
    unfold chkP at h
    cases hb : badP d with
    | true => rw [hb, if_pos rfl] at h; omega
    | false =>
      rw [hb, if_neg (by simp)] at h
      rcases List.mem_cons.1 hc with rfl | hc
      · exact hb
      · exact chkP_neg cs _ h c hc

theorem runesBytes_list (ns : List Int) : (runesBytes ns).data.toList = ns.flatMap encL := by
  have key : ∀ (ns : List Int) (s : ByteArray), (ns.foldl (fun r n => r ++ Utf8.encode n) s).data.toList = s.data.toList ++ ns.flatMap encL := by
    intro ns
    induction ns with
    | nil => intro s; simp
    | cons n ns ih =>
      intro s
      rw [List.foldl_cons, ih, ByteArray.data_append, Array.toList_append, List.flatMap_cons, List.append_assoc]
      rfl
  unfold runesBytes
  rw [key]
  rfl

theorem back_runes (s : ByteArray) (h : chkL s.data.toList < 0) : runesBytes (rnsL s.data.toList) = s := by
  apply ByteArray.ext
  apply Array.toList_inj.1
  rw [runesBytes_list]
  have hb := chkP_neg _ _ h
  have hw := piece_whole s.data.toList
  have key : ∀ cs : List (List UInt8), (∀ c ∈ cs, badP c = false) → (∀ c ∈ cs, c ≠ [] ∧ (decodeL c).2 = c.length) → (cs.map fun c => ((decodeL c).1 : Int)).flatMap encL = cs.flatten := by
    intro cs
    induction cs with
    | nil => intro _ _; rfl
    | cons c cs ih =>
      intro h1 h2
      have g1 := h1 c (List.mem_cons_self ..)
      have g2 := h2 c (List.mem_cons_self ..)
      rw [List.map_cons, List.flatMap_cons, List.flatten_cons, ih (fun d hd => h1 d (List.mem_cons_of_mem _ hd)) (fun d hd => h2 d (List.mem_cons_of_mem _ hd))]
      have e := enc_dec c g2.1 (fun hr => by
        rw [g2.2, List.take_length]
        unfold badP at g1
        rw [hr] at g1
        simpa using g1)
      rw [g2.2, List.take_length] at e
      rw [e]
  unfold rnsL
  rw [key _ hb hw, ps_flatten]
end Go.Proofs.YtdnbkllofbnpoaaDoor
