/- A text as its pieces (one a rune, broken bytes one by one): plain facts on lists of bytes, over the model's own reading of a rune. -/
import Derived.Lib.MapLaws
namespace Go.Proofs.YtdnbkllofbnpoaaDoor
open Go.Lib

set_option maxRecDepth 100000 in
set_option maxHeartbeats 4000000 in
theorem decodeN_cut (n m b0 b1 b2 b3 c1 c2 c3 : Nat) (hm : m ≤ n) (hw : (decodeN n b0 b1 b2 b3).2 ≤ m)
    (e1 : 1 < m → c1 = b1) (e2 : 2 < m → c2 = b2) (e3 : 3 < m → c3 = b3) : decodeN m b0 c1 c2 c3 = decodeN n b0 b1 b2 b3 := by
  rcases decodeN_shape m b0 c1 c2 c3 with ⟨p, q⟩ | ⟨p1, p2, p3, p4, q⟩ | ⟨p1, p2, p3, p4, p5, p6, q⟩ | ⟨p1, p2, p3, p4, p5, p6, p7, q⟩ | q
  · rw [q]; unfold decodeN; rw [if_pos p]
  · obtain rfl := e1 p2
    rw [q]; unfold decodeN
    rw [if_neg (by omega), if_pos ⟨p1, by omega, p3⟩, if_pos p4]
  · obtain rfl := e1 (by omega)
    obtain rfl := e2 p2
    rw [q]; unfold decodeN
    rw [if_neg (by omega), if_neg (by omega), if_pos ⟨p1, ⟨by omega, p3⟩, by omega, p4⟩, if_pos (by omega)]
  · obtain rfl := e1 (by omega)
    obtain rfl := e2 (by omega)
    obtain rfl := e3 p2
    rw [q]; unfold decodeN
    rw [if_neg (by omega), if_neg (by omega), if_neg (by omega), if_pos ⟨p1, ⟨by omega, p3⟩, ⟨by omega, p4⟩, by omega, p5⟩, if_pos (by omega)]
  · rcases decodeN_shape n b0 b1 b2 b3 with ⟨p, r⟩ | ⟨p1, p2, p3, p4, r⟩ | ⟨p1, p2, p3, p4, p5, p6, r⟩ | ⟨p1, p2, p3, p4, p5, p6, p7, r⟩ | r
    · rw [r]; unfold decodeN; rw [if_pos p]
    · rw [r] at hw
      have hw : 2 ≤ m := hw
      obtain rfl := e1 (by omega)
      rw [r]; unfold decodeN
      rw [if_neg (by omega), if_pos ⟨p1, by omega, p3⟩, if_pos p4]
    · rw [r] at hw
      have hw : 3 ≤ m := hw
      obtain rfl := e1 (by omega)
      obtain rfl := e2 (by omega)
      rw [r]; unfold decodeN
      rw [if_neg (by omega), if_neg (by omega), if_pos ⟨p1, ⟨by omega, p3⟩, by omega, p4⟩, if_pos (by omega)]
    · rw [r] at hw
      have hw : 4 ≤ m := hw
      obtain rfl := e1 (by omega)
      obtain rfl := e2 (by omega)
      obtain rfl := e3 (by omega)
      rw [r]; unfold decodeN
      rw [if_neg (by omega), if_neg (by omega), if_neg (by omega), if_pos ⟨p1, ⟨by omega, p3⟩, ⟨by omega, p4⟩, by omega, p5⟩, if_pos (by omega)]
    · rw [q, r]

theorem decodeL_take (l : List UInt8) (m : Nat) (hw : (decodeL l).2 ≤ m) : decodeL (l.take m) = decodeL l := by
  by_cases hm : l.length ≤ m
  · rw [List.take_of_length_le hm]
  · have hd : ∀ k, k < m → (l.take m).getD k 0 = l.getD k 0 := fun k hk => by simp [List.getD, hk]
    have w1 := decodeL_width l
    have m1 : 1 ≤ m := Nat.le_trans w1 hw
    rw [decodeL_N, decodeL_N l]
    rw [decodeL_N] at hw
    have hl : (l.take m).length = m := by simp; omega
    rw [hl, hd 0 (by omega)]
    exact decodeN_cut _ _ _ _ _ _ _ _ _ (by omega) hw (fun h => by rw [hd 1 h]) (fun h => by rw [hd 2 h]) (fun h => by rw [hd 3 h])

/-- The pieces of a text. -/
def pcs : Nat → List UInt8 → List (List UInt8)
  | 0, _ => []
  | f + 1, l => if l = [] then [] else l.take (decodeL l).2 :: pcs f (l.drop (decodeL l).2)
def ps (l : List UInt8) : List (List UInt8) := pcs l.length l

theorem pcs_nil (f : Nat) : pcs f [] = [] := by cases f <;> simp [pcs]
theorem ps_nil : ps [] = [] := rfl

theorem pcs_fuel : ∀ (f g : Nat) (l : List UInt8), l.length ≤ f → l.length ≤ g → pcs f l = pcs g l
  | 0, g, l, hf, _ => by
    have : l = [] := List.eq_nil_of_length_eq_zero (by omega)
    subst this; rw [pcs_nil, pcs_nil]
  | f + 1, 0, l, _, hg => by
    have : l = [] := List.eq_nil_of_length_eq_zero (by omega)
    subst this; rw [pcs_nil, pcs_nil]
  | f + 1, g + 1, l, hf, hg => by
    unfold pcs
    by_cases hl : l = []
    · rw [if_pos hl, if_pos hl]
    · rw [if_neg hl, if_neg hl]
      have w1 := decodeL_width l
      have e : (l.drop (decodeL l).2).length = l.length - (decodeL l).2 := List.length_drop
      rw [pcs_fuel f g _ (by omega) (by omega)]

theorem ps_cons (l : List UInt8) (h : l ≠ []) : ps l = l.take (decodeL l).2 :: ps (l.drop (decodeL l).2) := by
  have hl : 0 < l.length := List.length_pos_iff.2 h
  have w1 := decodeL_width l
  have e : (l.drop (decodeL l).2).length = l.length - (decodeL l).2 := List.length_drop
  unfold ps
  obtain ⟨n, hn⟩ : ∃ n, l.length = n + 1 := ⟨l.length - 1, by omega⟩
  rw [hn]
  conv => lhs; unfold pcs
  rw [if_neg h, pcs_fuel n (l.drop (decodeL l).2).length _ (by omega) (Nat.le_refl _)]

/-- Induction over a text, a rune at a time. -/
theorem ps_ind {P : List UInt8 → Prop} (h0 : P []) (h1 : ∀ l, l ≠ [] → P (l.drop (decodeL l).2) → P l) : ∀ l, P l := by
  have key : ∀ (n : Nat) (l : List UInt8), l.length ≤ n → P l := by
    intro n
    induction n with
    | zero => intro l hl; have : l = [] := List.eq_nil_of_length_eq_zero (by omega); subst this; exact h0
    | succ n ih =>
      intro l hl
      by_cases hne : l = []
      · subst hne; exact h0
      · have w1 := decodeL_width l
        have hp : 0 < l.length := List.length_pos_iff.2 hne
        exact h1 l hne (ih _ (by rw [List.length_drop]; omega))
  exact fun l => key l.length l (Nat.le_refl _)

theorem ps_flatten : ∀ l, (ps l).flatten = l := by
  apply ps_ind
  · rfl
  · intro l hne ih
    rw [ps_cons l hne, List.flatten_cons, ih, List.take_append_drop]

theorem ps_length_le : ∀ l, (ps l).length ≤ l.length := by
  apply ps_ind
  · simp [ps_nil]
  · intro l hne ih
    have w1 := decodeL_width l
    have hp : 0 < l.length := List.length_pos_iff.2 hne
    rw [ps_cons l hne, List.length_cons]
    rw [List.length_drop] at ih
    omega

/-- What is cut off at a rune's place has just its runes. -/
theorem ps_cut (n : Nat) : ∀ l, ps ((ps l).take n).flatten = (ps l).take n := by
  induction n with
  | zero => intro l; simp [ps_nil]
  | succ n ih =>
    intro l
    by_cases hne : l = []
    · subst hne; simp [ps_nil]
    · have w1 := decodeL_width l
      have w2 := decodeL_le l hne
      have hp : 0 < l.length := List.length_pos_iff.2 hne
      rw [ps_cons l hne, List.take_succ_cons, List.flatten_cons]
      generalize hF : ((ps (l.drop (decodeL l).2)).take n).flatten = F
      have hpre : ∃ G, l.drop (decodeL l).2 = F ++ G := by
        refine ⟨((ps (l.drop (decodeL l).2)).drop n).flatten, ?_⟩
        rw [← hF, ← List.flatten_append, List.take_append_drop, ps_flatten]
      obtain ⟨G, hG⟩ := hpre
      have hl : l = l.take (decodeL l).2 ++ (F ++ G) := by rw [← hG, List.take_append_drop]
      have ht : (l.take (decodeL l).2).length = (decodeL l).2 := by rw [List.length_take]; omega
      have hlt : l.take ((decodeL l).2 + F.length) = l.take (decodeL l).2 ++ F := by
        generalize (decodeL l).2 = w at *
        generalize l.take w = c at *
        subst hl
        rw [← List.append_assoc, List.take_append_of_le_length (by rw [List.length_append, ht]; omega), List.take_of_length_le (by rw [List.length_append, ht]; omega)]
      have hd : decodeL (l.take (decodeL l).2 ++ F) = decodeL l := by
        rw [← hlt]; exact decodeL_take l _ (by omega)
      have hne2 : l.take (decodeL l).2 ++ F ≠ [] := by
        intro h
        have := congrArg List.length h
        rw [List.length_append, ht] at this
        simp at this
        omega
      rw [ps_cons _ hne2, hd]
      have h1 : (l.take (decodeL l).2 ++ F).take (decodeL l).2 = l.take (decodeL l).2 := by
        rw [List.take_append_of_le_length (by omega), List.take_of_length_le (by omega)]
      have h2 : (l.take (decodeL l).2 ++ F).drop (decodeL l).2 = F := by
        rw [List.drop_append_of_le_length (by omega), List.drop_of_length_le (by omega), List.nil_append]
      rw [h1, h2]
      congr 1
      rw [← hF]
      exact ih _

theorem ps_rest (n : Nat) : ∀ l, ps ((ps l).drop n).flatten = (ps l).drop n := by
  induction n with
  | zero => intro l; simp [ps_flatten]
  | succ n ih =>
    intro l
    by_cases hne : l = []
    · subst hne; simp [ps_nil]
    · rw [ps_cons l hne, List.drop_succ_cons]
      exact ih _

/-- How many runes; the text ahead of the n-th one; its place. -/
def cnt (l : List UInt8) : Nat := (ps l).length
def cutL (n : Nat) (l : List UInt8) : List UInt8 := ((ps l).take n).flatten
def placeL (n : Nat) (l : List UInt8) : Nat := (cutL n l).length

theorem cnt_nil : cnt [] = 0 := rfl
theorem cnt_cons (l : List UInt8) (h : l ≠ []) : cnt l = cnt (l.drop (decodeL l).2) + 1 := by unfold cnt; rw [ps_cons l h]; rfl
theorem cnt_le (l : List UInt8) : cnt l ≤ l.length := ps_length_le l
theorem cut_zero (l : List UInt8) : cutL 0 l = [] := by simp [cutL]
theorem cut_nil (n : Nat) : cutL n [] = [] := by simp [cutL, ps_nil]
theorem cut_cons (n : Nat) (l : List UInt8) (h : l ≠ []) : cutL (n + 1) l = l.take (decodeL l).2 ++ cutL n (l.drop (decodeL l).2) := by
  unfold cutL; rw [ps_cons l h, List.take_succ_cons, List.flatten_cons]
theorem place_zero (l : List UInt8) : placeL 0 l = 0 := by simp [placeL, cut_zero]
theorem place_cons (n : Nat) (l : List UInt8) (h : l ≠ []) : placeL (n + 1) l = (decodeL l).2 + placeL n (l.drop (decodeL l).2) := by
  have w2 := decodeL_le l h
  unfold placeL
  rw [cut_cons n l h, List.length_append, List.length_take, Nat.min_eq_left w2]
theorem cut_append (n : Nat) (l : List UInt8) : cutL n l ++ ((ps l).drop n).flatten = l := by
  unfold cutL; rw [← List.flatten_append, List.take_append_drop, ps_flatten]
theorem cut_take (n : Nat) (l : List UInt8) : cutL n l = l.take (placeL n l) := by
  have h := cut_append n l
  unfold placeL
  conv => rhs; arg 2; rw [← h]
  rw [List.take_append_of_le_length (Nat.le_refl _), List.take_of_length_le (Nat.le_refl _)]
theorem place_le (n : Nat) (l : List UInt8) : placeL n l ≤ l.length := by
  have h := congrArg List.length (cut_append n l)
  rw [List.length_append] at h
  unfold placeL
  omega
theorem drop_place (n : Nat) (l : List UInt8) : l.drop (placeL n l) = ((ps l).drop n).flatten := by
  have h := cut_append n l
  unfold placeL
  conv => lhs; arg 2; rw [← h]
  rw [List.drop_append_of_le_length (Nat.le_refl _), List.drop_of_length_le (Nat.le_refl _), List.nil_append]
theorem cut_all (n : Nat) (l : List UInt8) (h : cnt l ≤ n) : cutL n l = l := by
  unfold cutL cnt at *
  rw [List.take_of_length_le h, ps_flatten]
theorem place_all (n : Nat) (l : List UInt8) (h : cnt l ≤ n) : placeL n l = l.length := by unfold placeL; rw [cut_all n l h]
theorem cnt_cut (n : Nat) (l : List UInt8) : cnt (cutL n l) = min n (cnt l) := by
  unfold cnt cutL; rw [ps_cut, List.length_take]
theorem cnt_rest (n : Nat) (l : List UInt8) : cnt (l.drop (placeL n l)) = cnt l - n := by
  rw [drop_place]; unfold cnt; rw [ps_rest, List.length_drop]
theorem cut_cut (n m : Nat) (l : List UInt8) : cutL m (cutL n l) = cutL (min m n) l := by
  unfold cutL; rw [ps_cut, List.take_take]
end Go.Proofs.YtdnbkllofbnpoaaDoor
