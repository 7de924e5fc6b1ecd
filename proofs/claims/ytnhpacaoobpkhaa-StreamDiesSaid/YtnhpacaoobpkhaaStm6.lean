/- Reading on: what is read stays read when more bytes come (for StreamParts). -/
import Derived.Test.YtnhpacaoobpkhaaStm3
namespace Go.Proofs.Ytnhpacaoobpkhaa
open Go.RowKit Go.Lib
set_option linter.unusedVariables false
set_option linter.unusedSimpArgs false

theorem readAt_ext (x : List UInt8) : ∀ (l : List UInt8) (i : Nat) (n : Int), (readAt i n l).2.2 ≠ 20 → readAt i n (l ++ x) = readAt i n l
  | [], _, _, h => absurd rfl h
  | c :: r, i, n, h => by
    rw [List.cons_append]
    unfold readAt at h ⊢
    split
    · rfl
    · rename_i q
      rw [if_neg q] at h
      split
      · rfl
      · rename_i q2
        rw [if_neg q2] at h
        exact readAt_ext x r _ _ h
theorem readT_ext (x l : List UInt8) (h : (readT l).2.2 ≠ 20) : readT (l ++ x) = readT l := readAt_ext x l 0 0 h
theorem bnd_ext (x b : List UInt8) (h : (bndP b).2.2 ≠ 20) : bndP (b ++ x) = bndP b := by
  rcases b with _ | ⟨c, r⟩
  · exact absurd rfl h
  · rw [List.cons_append]
    simp only [bndP] at h ⊢
    by_cases q1 : begP c.toNat = false
    · rw [if_pos q1, if_pos q1]
    rw [if_neg q1] at h ⊢
    rw [if_neg q1]
    by_cases q2 : (readT r).2.2 ≠ 0
    · rw [if_pos q2] at h ⊢
      rw [readT_ext x r h, if_pos q2]
    rw [if_neg q2] at h ⊢
    have e := readT_ext x r (by simp only [ne_eq, Decidable.not_not] at q2; rw [q2]; decide)
    rw [e, if_neg q2]
    by_cases q3 : (readT r).1 > 8192
    · rw [if_pos q3, if_pos q3]
    rw [if_neg q3] at h ⊢
    rw [if_neg q3]
    by_cases q4 : 1 + (readT r).2.1 + (readT r).1 > (c :: r).length
    · rw [if_pos q4] at h; exact absurd rfl h
    rw [if_neg q4]
    rw [if_neg (by simp only [List.length_cons, List.length_append] at q4 ⊢; omega)]
theorem rd_ext (x b : List UInt8) (h : (rdP b).2.2 ≠ 20) : rdP (b ++ x) = rdP b := by
  rcases b with _ | ⟨c, r⟩
  · exact absurd rfl h
  · have hb : (bndP (c :: r)).2.2 ≠ 20 := fun e => by
      have : rdP (c :: r) = (pk0, 0, (bndP (c :: r)).2.2) := by simp only [rdP]; rw [if_pos (by rw [e]; decide)]
      rw [this] at h
      exact h e
    have e := bnd_ext x (c :: r) hb
    rw [List.cons_append] at e ⊢
    by_cases hz : (bndP (c :: r)).2.2 ≠ 0
    · simp only [rdP]
      rw [e, if_pos hz, if_pos hz]
    · have hz' := hz
      simp only [ne_eq, Decidable.not_not] at hz
      obtain ⟨h1, h2, h3, h4, h5, _⟩ := bnd_ok c r hz
      have ht : (c :: (r ++ x)).take (bndP (c :: r)).2.1.toNat = (c :: r).take (bndP (c :: r)).2.1.toNat := by
        rw [← List.cons_append, List.take_append_of_le_length (by omega)]
      simp only [rdP]
      rw [e, if_neg hz', if_neg hz', ht]
theorem pks_ext (X : List UInt8) : ∀ (n : Nat) (T : List UInt8), T.length ≤ n →
    ((pksP T).2.2 ≠ 0 → pksP (T ++ X) = pksP T) ∧
    ((pksP T).2.2 = 0 → pksP (T ++ X) = ((pksP T).1 ++ (pksP (T.drop (pksP T).2.1 ++ X)).1, (pksP T).2.1 + (pksP (T.drop (pksP T).2.1 ++ X)).2.1, (pksP (T.drop (pksP T).2.1 ++ X)).2.2)) := by
  intro n
  induction n with
  | zero =>
    intro T hT
    obtain rfl : T = [] := List.eq_nil_of_length_eq_zero (by omega)
    rw [pks_nil]
    exact ⟨fun h => absurd rfl h, fun _ => by simp⟩
  | succ n ih =>
    intro T hT
    by_cases h20 : (rdP T).2.2 = 20
    · rw [pksP_short h20]
      exact ⟨fun h => absurd rfl h, fun _ => by simp⟩
    · have e := rd_ext X T h20
      by_cases h0 : (rdP T).2.2 = 0
      · obtain ⟨k1, k2⟩ := rd_len T h0
        obtain ⟨i1, i2⟩ := ih (T.drop (rdP T).2.1.toNat) (by rw [List.length_drop]; omega)
        have hd : (T ++ X).drop (rdP T).2.1.toNat = T.drop (rdP T).2.1.toNat ++ X := List.drop_append_of_le_length (by omega)
        have e1 := pksP_step h0
        have e2 := pksP_step (b := T ++ X) (by rw [e]; exact h0)
        rw [e, hd] at e2
        rw [e2, e1]
        refine ⟨fun h => ?_, fun h => ?_⟩
        · rw [i1 h]
        · rw [i2 h]
          simp only [List.drop_drop, List.cons_append, Nat.add_assoc]
      · have e1 := pksP_bad h20 h0
        have e2 := pksP_bad (b := T ++ X) (by rw [e]; exact h20) (by rw [e]; exact h0)
        rw [e1, e2, e]
        exact ⟨fun _ => rfl, fun h => absurd h h0⟩
/-- Packets' bytes behind one another. -/
theorem pks_flat (r : List UInt8) : ∀ (ps : List Pk), (∀ p ∈ ps, rightP p = true) → pksP (ps.flatMap encP ++ r) = (ps ++ (pksP r).1, (ps.flatMap encP).length + (pksP r).2.1, (pksP r).2.2)
  | [], _ => by simp
  | p :: t, h => by
    rw [List.flatMap_cons, List.append_assoc, pks_cons p (h p (by simp)), pks_flat r t (fun q hq => h q (by simp [hq]))]
    simp [Nat.add_assoc]
end Go.Proofs.Ytnhpacaoobpkhaa
