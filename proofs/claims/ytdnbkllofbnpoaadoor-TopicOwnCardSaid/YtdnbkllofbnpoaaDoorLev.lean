/- Topics, plainly: levels, names, filters, what matches what. -/
import Derived.Test.YtdnbkllofbnpoaaDoorEnc
import Derived.Lib.SplitLaws
namespace Go.Proofs.YtdnbkllofbnpoaaDoor
open Go.RowKit Go.Lib

/-- What stands between the slashes of a text. -/
def lev : List UInt8 → List (List UInt8)
  | [] => [[]]
  | c :: l => if c = 47 then [] :: lev l else (c :: (lev l).headD []) :: (lev l).tail
def bs (x : List UInt8) : ByteArray := ⟨x.toArray⟩
def lvs (L : List (List UInt8)) : List Value := L.map fun x => Value.string (bs x)
theorem bs_list (s : ByteArray) : bs s.data.toList = s := ofList s
theorem bs_inj {a b : List UInt8} (h : bs a = bs b) : a = b := by
  have := congrArg (fun s : ByteArray => s.data.toList) h
  simpa [bs] using this
theorem bs_size (x : List UInt8) : (bs x).size = x.length := by simp [bs, ByteArray.size]
theorem bs_data (x : List UInt8) : (bs x).data.toList = x := by simp [bs]
theorem bs_toList (x : List UInt8) : (bs x).toList = x := by rw [ByteArray.toList_eq, bs_data]
theorem lev_ne (l : List UInt8) : lev l ≠ [] := by
  cases l with
  | nil => simp [lev]
  | cons c l => unfold lev; split <;> simp
theorem lev_ht (l : List UInt8) : lev l = (lev l).headD [] :: (lev l).tail := by
  rcases h : lev l with _ | ⟨x, r⟩
  · exact absurd h (lev_ne l)
  · rfl
theorem lev_pos (l : List UInt8) : 1 ≤ (lev l).length := List.length_pos_iff.2 (lev_ne l)
theorem lev_len : ∀ l, (lev l).length = l.count 47 + 1
  | [] => rfl
  | c :: l => by
    unfold lev
    by_cases h : c = 47
    · subst h; rw [if_pos rfl, List.length_cons, lev_len l, List.count_cons_self]
    · rw [if_neg h, List.count_cons_of_ne (by simpa using h), ← lev_len l]
      conv => rhs; rw [lev_ht l]
      rfl
theorem lev_le (l : List UInt8) : (lev l).length ≤ l.length + 1 := by rw [lev_len]; have := List.count_le_length (a := (47 : UInt8)) (l := l); omega

theorem index_cons (b : UInt8) (t : List UInt8) : index (b :: t) [47] = if b = 47 then 0 else if index t [47] == -1 then -1 else index t [47] + 1 := by
  rw [index]
  by_cases h : b = 47
  · subst h; simp [List.isPrefixOf]
  · have : ([47] : List UInt8).isPrefixOf (b :: t) = false := by simp [List.isPrefixOf, Ne.symm h]
    rw [this, if_neg h]
    simp

theorem splitK_lev : ∀ l : List UInt8, splitK [47] 0 (l.count 47) l = lev l
  | [] => rfl
  | b :: t => by
    have ih := splitK_lev t
    unfold lev
    by_cases h : b = 47
    · subst h
      rw [if_pos rfl, List.count_cons_self, splitK, index_cons, if_pos rfl, if_neg (by decide)]
      simp [ih]
    · rw [if_neg h, List.count_cons_of_ne (by simpa using h), ← ih]
      generalize t.count 47 = k
      cases k with
      | zero => rfl
      | succ k =>
        rw [splitK, splitK, index_cons, if_neg h]
        by_cases hm : index t [47] = -1
        · simp [hm]
        · have hge := index_ge t [47]
          rw [if_neg (fun e => hm (beq_iff_eq.1 e)), if_neg (by rw [beq_iff_eq]; omega), if_neg (fun e => hm (beq_iff_eq.1 e))]
          have e1 : (index t [47] + 1).toNat = (index t [47]).toNat + 1 := by omega
          rw [e1]
          simp

theorem split_lev (s : ByteArray) : (splitB ⟨#[47]⟩ 0 (countB s ⟨#[47]⟩) s).map Value.string = lvs (lev s.data.toList) := by
  have h := splitB_data ⟨#[47]⟩ 0 (countB s ⟨#[47]⟩) s
  have hc : countB s ⟨#[47]⟩ = s.data.toList.count 47 := by unfold countB; exact count_one 47 s.data.toList
  rw [hc] at h ⊢
  have h2 : splitK (⟨#[47]⟩ : ByteArray).data.toList 0 (s.data.toList.count 47) s.data.toList = lev s.data.toList := splitK_lev _
  rw [h2] at h
  rw [← h]
  unfold lvs
  rw [List.map_map]
  refine List.map_congr_left fun x _ => ?_
  show Value.string x = Value.string (bs x.data.toList)
  rw [bs_list]
theorem count_lev (s : ByteArray) : countB s ⟨#[47]⟩ + 1 = (lev s.data.toList).length := by
  rw [lev_len]; unfold countB; rw [show (⟨#[47]⟩ : ByteArray).data.toList = [47] from rfl, count_one]

/-- Is it as long as a name or a filter can be, of bytes that it can have? -/
def textP (l : List UInt8) : Bool := decide (1 ≤ l.length) && decide (l.length ≤ 65535) && decide (chkL l < 0)
def wildP (l : List UInt8) : Bool := l.contains 43 || l.contains 35
def nameP (l : List UInt8) : Bool := textP l && !wildP l
def fitsP (x : List UInt8) (last : Bool) : Bool := !(x.contains 43 && !(x == [43])) && !(x.contains 35 && (!(x == [35]) || !last))
def fitsAll : List (List UInt8) → Bool
  | [] => true
  | x :: r => fitsP x r.isEmpty && fitsAll r
def filtP (l : List UInt8) : Bool := textP l && fitsAll (lev l)
def covLev (x y : List UInt8) : Bool := x == y || (x == [43] && !(y == [35]))
def covP : List (List UInt8) → List (List UInt8) → Bool
  | [], n => n.isEmpty
  | x :: r, n => x == [35] || (match n with | [] => false | y :: t => covLev x y && covP r t)
def dolP (s : List UInt8) : Bool := s.take 1 == [36]
def coversP (f s : List UInt8) : Bool := !(dolP s && wildP ((lev f).headD [])) && covP (lev f) (lev s)
def matchP (f n : List UInt8) : Bool := filtP f && nameP n && coversP f n
def withinP (a b : List UInt8) : Bool := filtP a && filtP b && coversP b a

set_option maxRecDepth 100000 in
/-- Whether an ASCII byte stands in a text is told rune by rune. -/
theorem contains_step (c : UInt8) (hc : c.toNat < 128) (l : List UInt8) (hne : l ≠ []) : l.contains c = (decide ((decodeL l).1 = c.toNat) || (l.drop (decodeL l).2).contains c) := by
  have hL := decodeL_le l hne
  have hN := decodeL_N l
  have big : ∀ b : UInt8, 128 ≤ b.toNat → (b == c) = false := fun b hb => beq_eq_false_iff_ne.2 (fun e => by subst e; omega)
  have big' : ∀ b : UInt8, 128 ≤ b.toNat → (c == b) = false := fun b hb => beq_eq_false_iff_ne.2 (fun e => by subst e; omega)
  rcases decodeN_shape l.length (l.getD 0 0).toNat (l.getD 1 0).toNat (l.getD 2 0).toNat (l.getD 3 0).toNat with ⟨p, q⟩ | ⟨p1, p2, p3, p4, q⟩ | ⟨p1, p2, p3, p4, p5, p6, q⟩ | ⟨p1, p2, p3, p4, p5, p6, p7, q⟩ | q
  · rw [hN, q]
    obtain ⟨b0, t, rfl⟩ : ∃ b0 t, l = b0 :: t := by cases l with | nil => exact absurd rfl hne | cons b t => exact ⟨b, t, rfl⟩
    show (b0 :: t).contains c = (decide (b0.toNat = c.toNat) || t.contains c)
    rw [List.contains_cons]
    congr 1
    rw [Bool.eq_iff_iff, beq_iff_eq, decide_eq_true_eq]
    exact ⟨fun e => by rw [e], fun e => (UInt8.toNat_inj.1 e).symm⟩
  · rw [hN, q] at hL ⊢
    obtain ⟨b0, b1, t, rfl⟩ : ∃ b0 b1 t, l = b0 :: b1 :: t := by match l, hL with | b0 :: b1 :: t, _ => exact ⟨b0, b1, t, rfl⟩
    have p1 : b0.toNat / 32 = 6 := p1
    have p3 : b1.toNat / 64 = 2 := p3
    have hr : ¬ ((b0.toNat % 32 * 64 + b1.toNat % 64) = c.toNat) := by
      have p4 : 128 ≤ b0.toNat % 32 * 64 + b1.toNat % 64 := p4
      omega
    show (b0 :: b1 :: t).contains c = (decide ((b0.toNat % 32 * 64 + b1.toNat % 64) = c.toNat) || t.contains c)
    rw [decide_eq_false hr, List.contains_cons, List.contains_cons, big' b0 (by omega), big' b1 (by omega)]
    rfl
  · rw [hN, q] at hL ⊢
    obtain ⟨b0, b1, b2, t, rfl⟩ : ∃ b0 b1 b2 t, l = b0 :: b1 :: b2 :: t := by match l, hL with | b0 :: b1 :: b2 :: t, _ => exact ⟨b0, b1, b2, t, rfl⟩
    have p1 : b0.toNat / 16 = 14 := p1
    have p3 : b1.toNat / 64 = 2 := p3
    have p4 : b2.toNat / 64 = 2 := p4
    have hr : ¬ ((b0.toNat % 16 * 4096 + b1.toNat % 64 * 64 + b2.toNat % 64) = c.toNat) := by
      have p5 : 2048 ≤ b0.toNat % 16 * 4096 + b1.toNat % 64 * 64 + b2.toNat % 64 := p5
      omega
    show (b0 :: b1 :: b2 :: t).contains c = (decide ((b0.toNat % 16 * 4096 + b1.toNat % 64 * 64 + b2.toNat % 64) = c.toNat) || t.contains c)
    rw [decide_eq_false hr, List.contains_cons, List.contains_cons, List.contains_cons, big' b0 (by omega), big' b1 (by omega), big' b2 (by omega)]
    rfl
  · rw [hN, q] at hL ⊢
    obtain ⟨b0, b1, b2, b3, t, rfl⟩ := four_of l hL
    have p1 : b0.toNat / 8 = 30 := p1
    have p3 : b1.toNat / 64 = 2 := p3
    have p4 : b2.toNat / 64 = 2 := p4
    have p5 : b3.toNat / 64 = 2 := p5
    have hr : ¬ ((b0.toNat % 8 * 262144 + b1.toNat % 64 * 4096 + b2.toNat % 64 * 64 + b3.toNat % 64) = c.toNat) := by
      simp only [List.getD_cons_zero, List.getD_cons_succ] at p6
      omega
    show (b0 :: b1 :: b2 :: b3 :: t).contains c = (decide ((b0.toNat % 8 * 262144 + b1.toNat % 64 * 4096 + b2.toNat % 64 * 64 + b3.toNat % 64) = c.toNat) || t.contains c)
    rw [decide_eq_false hr, List.contains_cons, List.contains_cons, List.contains_cons, List.contains_cons, big' b0 (by omega), big' b1 (by omega), big' b2 (by omega), big' b3 (by omega)]
    rfl
  · obtain ⟨b0, t, rfl⟩ : ∃ b0 t, l = b0 :: t := by cases l with | nil => exact absurd rfl hne | cons b t => exact ⟨b, t, rfl⟩
    have hb : 128 ≤ b0.toNat := by
      apply Decidable.byContradiction
      intro hb
      have : decodeN (b0 :: t).length ((b0 :: t).getD 0 0).toNat ((b0 :: t).getD 1 0).toNat ((b0 :: t).getD 2 0).toNat ((b0 :: t).getD 3 0).toNat = (b0.toNat, 1) := by
        unfold decodeN
        rw [if_pos (show ((b0 :: t).getD 0 0).toNat < 128 by simpa using by omega)]
        rfl
      rw [this] at q
      have := congrArg Prod.fst q
      simp at this
      omega
    rw [hN, q]
    show (b0 :: t).contains c = (decide (65533 = c.toNat) || t.contains c)
    rw [decide_eq_false (by omega), List.contains_cons, big' b0 hb]
end Go.Proofs.YtdnbkllofbnpoaaDoor
