/- What TopicOwn says, plainly: a name's own filters. -/
import Derived.Test.YtdnbkllofbnpoaaDoorTlW
import Derived.Test.YtdnbkllofbnpoaaDoorTlL
namespace Go.Proofs.YtdnbkllofbnpoaaDoor
open Go.RowKit Go.Lib
set_option linter.unusedVariables false

/-- All pieces of a text are good. -/
def goodL (l : List UInt8) : Prop := ∀ p ∈ ps l, badP p = false
theorem chk_all : ∀ (cs : List (List UInt8)) (o : Nat), (∀ p ∈ cs, badP p = false) → chkP cs o = -1
  | [], _, _ => rfl
  | c :: r, o, h => by
    rw [chkP, h c (by simp), if_neg (by simp)]
    exact chk_all r _ (fun p hp => h p (List.mem_cons_of_mem _ hp))
theorem good_iff (l : List UInt8) : chkL l < 0 ↔ goodL l := by
  constructor
  · intro h; exact chkP_neg (ps l) 0 h
  · intro h; unfold chkL; rw [chk_all _ _ h]; decide
set_option maxRecDepth 100000 in
theorem cont_of_width (l : List UInt8) (hne : l ≠ []) (k : Nat) (hk : k < (decodeL l).2) (h0 : 0 < k) : 128 ≤ (l.getD k 0).toNat := by
  have hN := decodeL_N l
  rcases decodeN_shape l.length (l.getD 0 0).toNat (l.getD 1 0).toNat (l.getD 2 0).toNat (l.getD 3 0).toNat with ⟨p, q⟩ | ⟨p1, p2, p3, p4, q⟩ | ⟨p1, p2, p3, p4, p5, p6, q⟩ | ⟨p1, p2, p3, p4, p5, p6, p7, q⟩ | q
  · rw [hN, q] at hk; have hk : k < 1 := hk; omega
  · rw [hN, q] at hk
    have hk : k < 2 := hk
    obtain rfl : k = 1 := by omega
    omega
  · rw [hN, q] at hk
    have hk : k < 3 := hk
    rcases (show k = 1 ∨ k = 2 by omega) with rfl | rfl <;> omega
  · rw [hN, q] at hk
    have hk : k < 4 := hk
    rcases (show k = 1 ∨ k = 2 ∨ k = 3 by omega) with rfl | rfl | rfl <;> omega
  · rw [hN, q] at hk; have hk : k < 1 := hk; omega
theorem dec_ascii (a b : List UInt8) (c : UInt8) (hc : c.toNat < 128) (ha : a ≠ []) : decodeL (a ++ c :: b) = decodeL a := by
  have hw : (decodeL (a ++ c :: b)).2 ≤ a.length := by
    apply Decidable.byContradiction
    intro h
    have := cont_of_width (a ++ c :: b) (by simp) a.length (by omega) (List.length_pos_iff.2 ha)
    rw [List.getD_eq_getElem?_getD, List.getElem?_append_right (Nat.le_refl _), Nat.sub_self] at this
    simp at this
    omega
  have := decodeL_take (a ++ c :: b) a.length hw
  rw [List.take_left] at this
  exact this.symm
theorem ps_mid (c : UInt8) (hc : c.toNat < 128) (b : List UInt8) : ∀ a, ps (a ++ c :: b) = ps a ++ [c] :: ps b := by
  have base : ps (c :: b) = [c] :: ps b := by
    have hd : decodeL (c :: b) = (c.toNat, 1) := by
      rw [decodeL_N]
      unfold decodeN
      rw [if_pos (by simpa using hc)]
      rfl
    rw [ps_cons (c :: b) (by simp), hd]
    rfl
  refine ps_ind ?_ ?_
  · exact base
  · intro l hne ih
    have hd := dec_ascii l b c hc hne
    have hle := decodeL_le l hne
    rw [ps_cons (l ++ c :: b) (by simp), hd, List.take_append_of_le_length hle, List.drop_append_of_le_length hle, ih, ps_cons l hne]
    rfl
theorem good_mid (a b : List UInt8) : goodL (a ++ 47 :: b) ↔ goodL a ∧ goodL b := by
  unfold goodL
  rw [ps_mid 47 (by decide)]
  constructor
  · intro h
    exact ⟨fun p hp => h p (by simp [hp]), fun p hp => h p (by simp [hp])⟩
  · rintro ⟨h1, h2⟩ p hp
    rcases List.mem_append.1 hp with hp | hp
    · exact h1 p hp
    · rcases List.mem_cons.1 hp with rfl | hp
      · decide +kernel
      · exact h2 p hp
theorem good_join : ∀ M : List (List UInt8), M ≠ [] → (goodL (joinL M) ↔ ∀ x ∈ M, goodL x)
  | [], h => absurd rfl h
  | [x], _ => by simp [joinL]
  | x :: y :: r, _ => by
    rw [joinL_cons x _ (by simp), good_mid, good_join (y :: r) (by simp)]
    simp
theorem lev_no47 : ∀ (l : List UInt8), ∀ x ∈ lev l, (47 : UInt8) ∉ x
  | [], x, hx => by simp [lev] at hx; subst hx; simp
  | b :: t, x, hx => by
    have ih := lev_no47 t
    rw [lev] at hx
    by_cases q : b = 47
    · rw [if_pos q] at hx
      rcases List.mem_cons.1 hx with rfl | hx
      · simp
      · exact ih x hx
    · rw [if_neg q] at hx
      rcases List.mem_cons.1 hx with rfl | hx
      · have := ih ((lev t).headD []) (by rw [lev_ht t]; simp)
        simp [Ne.symm q]
        simpa using this
      · exact ih x (List.mem_of_mem_tail hx)
theorem lev_app (r : List UInt8) : ∀ x : List UInt8, (47 : UInt8) ∉ x → lev (x ++ 47 :: r) = x :: lev r
  | [], _ => by rw [List.nil_append, lev, if_pos rfl]
  | b :: t, h => by
    have hb : b ≠ 47 := fun e => h (by rw [e]; simp)
    rw [List.cons_append, lev, if_neg hb, lev_app r t (fun e => h (List.mem_cons_of_mem _ e))]
    rfl
theorem lev_one : ∀ x : List UInt8, (47 : UInt8) ∉ x → lev x = [x]
  | [], _ => rfl
  | b :: t, h => by
    have hb : b ≠ 47 := fun e => h (by rw [e]; simp)
    rw [lev, if_neg hb, lev_one t (fun e => h (List.mem_cons_of_mem _ e))]
    rfl
theorem lev_join : ∀ M : List (List UInt8), M ≠ [] → (∀ x ∈ M, (47 : UInt8) ∉ x) → lev (joinL M) = M
  | [], h, _ => absurd rfl h
  | [x], _, h => lev_one x (h x (by simp))
  | x :: y :: r, _, h => by
    rw [joinL_cons x _ (by simp), lev_app _ x (h x (by simp)), lev_join (y :: r) (by simp) (fun z hz => h z (List.mem_cons_of_mem _ hz))]
theorem join_up : ∀ M : List (List UInt8), (∀ x ∈ M, x.length ≤ 100) → (joinL M).length ≤ 101 * M.length
  | [], _ => Nat.zero_le _
  | [x], h => by have := h x (by simp); simp [joinL]; omega
  | x :: y :: r, h => by
    have ih := join_up (y :: r) (fun z hz => h z (List.mem_cons_of_mem _ hz))
    have := h x (by simp)
    rw [joinL_cons x _ (by simp)]
    simp only [List.length_append, List.length_cons] at ih ⊢
    omega
theorem join_lo (x : List UInt8) : ∀ M : List (List UInt8), x ∈ M → x.length ≤ (joinL M).length
  | [], h => by simp at h
  | [y], h => by simp at h; subst h; exact Nat.le_refl _
  | y :: z :: r, h => by
    rw [joinL_cons y _ (by simp), List.length_append, List.length_cons]
    rcases List.mem_cons.1 h with rfl | h
    · omega
    · have := join_lo x (z :: r) h; omega

theorem fitsAll_mix : ∀ L : List (List UInt8), (∀ y ∈ L, (y.contains 43 = false ∧ y.contains 35 = false) ∨ y = [43]) → fitsAll L = true
  | [], _ => rfl
  | x :: r, h => by
    have ih := fitsAll_mix r (fun y hy => h y (List.mem_cons_of_mem _ hy))
    unfold fitsAll
    rw [ih, Bool.and_true]
    rcases h x (by simp) with ⟨a, b⟩ | rfl
    · unfold fitsP; rw [a, b]; rfl
    · cases r.isEmpty <;> decide
theorem fitsAll_snoc : ∀ L : List (List UInt8), (∀ y ∈ L, y.contains 43 = false ∧ y.contains 35 = false) → fitsAll (L ++ [[35]]) = true
  | [], _ => by decide
  | x :: r, h => by
    have ih := fitsAll_snoc r (fun y hy => h y (List.mem_cons_of_mem _ hy))
    obtain ⟨a, b⟩ := h x (by simp)
    rw [List.cons_append]
    unfold fitsAll
    rw [ih, Bool.and_true]
    unfold fitsP; rw [a, b]; rfl
theorem cov_set : ∀ (L : List (List UInt8)) (i : Nat), (∀ y ∈ L, (y == [35]) = false) → covP (L.set i [43]) L = true
  | [], i, _ => by cases i <;> rfl
  | x :: r, 0, h => by
    show covP ([43] :: r) (x :: r) = true
    rw [covP_cons]
    show (false || (covLev [43] x && covP r r)) = true
    rw [cov_self, Bool.and_true, Bool.false_or]
    unfold covLev
    rw [h x (by simp)]; simp
  | x :: r, i + 1, h => by
    show covP (x :: r.set i [43]) (x :: r) = true
    rw [covP_cons]
    show (x == [35] || (covLev x x && covP (r.set i [43]) r)) = true
    rw [cov_set r i (fun y hy => h y (List.mem_cons_of_mem _ hy))]
    unfold covLev
    simp
theorem cov_take : ∀ (L : List (List UInt8)) (i : Nat), covP (L.take i ++ [[35]]) L = true
  | L, 0 => by rw [List.take_zero, List.nil_append, covP_cons]; rfl
  | [], i + 1 => by rfl
  | x :: r, i + 1 => by
    show covP (x :: (r.take i ++ [[35]])) (x :: r) = true
    rw [covP_cons]
    show (x == [35] || (covLev x x && covP (r.take i ++ [[35]]) r)) = true
    rw [cov_take r i]
    unfold covLev
    simp
theorem cov_a : ∀ (L : List (List UInt8)), (∀ y ∈ L, (y == [35]) = false) → covP (L ++ [[97]]) L = false
  | [], _ => by decide
  | x :: r, h => by
    show covP (x :: (r ++ [[97]])) (x :: r) = false
    rw [covP_cons, h x (by simp)]
    show (false || (covLev x x && covP (r ++ [[97]]) r)) = false
    rw [cov_a r (fun y hy => h y (List.mem_cons_of_mem _ hy))]
    simp

/-- What a filter of levels is, put together: a text, a filter, its levels. -/
theorem own_filter (s : List UInt8) (M : List (List UInt8)) (hn : nameP s = true) (hne : M ≠ []) (h47 : ∀ x ∈ M, (47 : UInt8) ∉ x) (hg : ∀ x ∈ M, goodL x) (hl : ∀ x ∈ M, x.length ≤ 100) (hM : M.length ≤ 200) (h1 : ∃ x ∈ M, 1 ≤ x.length ∨ 2 ≤ M.length) (hf : fitsAll M = true) :
    matchP (joinL M) s = (!(dolP s && wildP (M.headD [])) && covP M (lev s)) := by
  have hlev := lev_join M hne h47
  have ht : textP (joinL M) = true := by
    unfold textP
    have hup := join_up M hl
    have hgood := (good_iff _).2 ((good_join M hne).2 hg)
    have hlo : 1 ≤ (joinL M).length := by
      obtain ⟨x, hx, h | h⟩ := h1
      · exact Nat.le_trans h (join_lo x M hx)
      · cases M with
        | nil => exact absurd rfl hne
        | cons a r =>
          cases r with
          | nil => simp at h
          | cons b r => rw [joinL_cons a _ (by simp), List.length_append, List.length_cons]; omega
    rw [decide_eq_true hlo, decide_eq_true (show (joinL M).length ≤ 65535 by omega), decide_eq_true hgood]
    rfl
  unfold matchP coversP filtP
  rw [ht, hlev, hf, hn]
  rfl
end Go.Proofs.YtdnbkllofbnpoaaDoor
