/- The document's names, filters, matches, withins. -/
import Derived.Test.YtdnbkllofbnpoaaDoorTr1
import Derived.Test.YtdnbkllofbnpoaaDoorRefCheck
namespace Go.Proofs.YtdnbkllofbnpoaaDoor
open Go.RowKit Go.Lib
set_option linter.unusedVariables false

set_option maxRecDepth 100000 in
set_option maxHeartbeats 400000 in
theorem rtext_any (s : ByteArray) (w : World) (hs : s.size ≤ 1000000) :
    Calls Tryd.prog 25 #[.string s] w fun e w' => e = .returned (.bool (textP s.data.toList)) ∧ Below w.heap.size w w' := by
  obtain ⟨C, W, hcv, hB, hb⟩ := conv_str s w hs
  go_enter Tryd.func25, Tryd.ntmps25
  go_wp2_with (go_at_call 34; refine (rcheck_any _ _ _ _ hB (by rw [size_list]; omega)).mono ?_; rintro e w' ⟨rfl, rfl⟩)
  all_goals (go_ret; first | exact ⟨ret_bool (by unfold textP; simp; try omega), hb⟩ | exact ⟨ret_bool (by unfold textP; simp; try omega), Below.refl _ _⟩)

set_option maxRecDepth 100000 in
set_option maxHeartbeats 400000 in
theorem rname_any (s : ByteArray) (w : World) (hs : s.size ≤ 1000000) :
    Calls Tryd.prog 13 #[.string s] w fun e w' => e = .returned (.bool (nameP s.data.toList)) ∧ Below w.heap.size w w' := by
  have c1 := fun W => rtext_any s W hs
  have c2 := fun W => has_any s 43 W hs
  have c3 := fun W => has_any s 35 W hs
  have R := Lib.hid (show nameP s.data.toList = (textP s.data.toList && !(s.data.toList.contains 43 || s.data.toList.contains 35)) from rfl)
  generalize textP s.data.toList = a at *
  generalize s.data.toList.contains 43 = b at *
  generalize s.data.toList.contains 35 = c at *
  cases a <;> cases b <;> cases c
  all_goals
    go_enter Tryd.func13, Tryd.ntmps13
    go_wp2_with (first
      | (go_at_call 25; refine (c1 _).mono ?_; rintro e w1 ⟨rfl, hb1⟩)
      | (go_at_call_of 26 (Value.int .u8 43); refine (c2 _).mono ?_; rintro e w2 ⟨rfl, rfl⟩)
      | (go_at_call_of 26 (Value.int .u8 35); refine (c3 _).mono ?_; rintro e w3 ⟨rfl, rfl⟩))
    go_ret
    exact ⟨ret_bool (by rw [R.out]; rfl), hb1⟩

/-- What the slices of texts of the document read as. -/
def TxAt (w : World) (v : Value) (L : List (List UInt8)) : Prop :=
  ∃ (b o c : Nat), v = .slice (some ⟨b, o, none⟩) L.length c ∧ L.length ≤ c ∧ c ≤ maxLen ∧ ∀ (j : Nat) (x : List UInt8), L[j]? = some x → w.cell? ⟨b, o + j, none⟩ = some (.string (bs x))
theorem TxAt.below {w w' : World} {v : Value} {L : List (List UInt8)} (h : TxAt w v L) (hb : Below w.heap.size w w') : TxAt w' v L := by
  obtain ⟨b, o, c, hv, hc, hm, hx⟩ := h
  refine ⟨b, o, c, hv, hc, hm, fun j x hj => ?_⟩
  have h1 := hx j x hj
  rw [hb.cell (p := ⟨b, o + j, none⟩) (World.block_lt_of_cell? w _ h1)]
  exact h1
theorem tx_of_own {w : World} {base n : Nat} {v : Value} {L : List (List UInt8)} (h : w.ownsRow base 9 1 v n (lvs L)) (hn : n = L.length) (hL : 0 < n) : TxAt w v L := by
  subst hn
  obtain ⟨g, cap, rfl, hg, hc, hm⟩ := row_form h hL
  refine ⟨g, 0, cap, rfl, hc, hm, fun j x hj => ?_⟩
  have hj2 : j < L.length := (List.getElem?_eq_some_iff.1 hj).1
  rw [Nat.zero_add, h.cellAt j (by omega)]
  unfold lvs
  rw [List.getElem?_map, hj]
  rfl
theorem tx_of_new (w : World) (L : List (List UInt8)) (hm : L.length ≤ maxLen) : TxAt (w.alloc (.cells (lvs L).toArray 9)) (.slice (some ⟨w.heap.size, 0, none⟩) L.length L.length) L := by
  refine ⟨_, 0, _, rfl, Nat.le_refl _, hm, fun j x hj => ?_⟩
  rw [Nat.zero_add, World.cell?_alloc_mark, lvs_get, hj]
  rfl

/-- The document's own filter matches levels. -/
def rmat : List (List UInt8) → List (List UInt8) → Bool
  | [], n => n.isEmpty
  | x :: r, n => if x == [35] then true else match n with | [] => false | y :: t => (x == [43] || x == y) && rmat r t
def rins (a : List (List UInt8)) : List (List UInt8) → Bool
  | [] => a.isEmpty
  | y :: r => if y == [35] then true else match a with | [] => false | x :: t => if x == [35] || (!(y == [43]) && !(x == y)) then false else rins t r

theorem len_z (F : List (List UInt8)) : ((F.length : Int) + 1 == 0) = false := beq_eq_false_iff_ne.2 (by omega)
theorem len_p (F : List (List UInt8)) : (0 : Int) < (F.length : Int) + 1 := by omega
theorem isE (N : List (List UInt8)) : N.isEmpty = ((0 : Int) == (N.length : Int)) := by
  rw [Bool.eq_iff_iff, List.isEmpty_iff, beq_iff_eq]
  constructor
  · intro h; rw [h]; rfl
  · intro h; exact List.eq_nil_of_length_eq_zero (by omega)
/-- A slice of texts behind its first one. -/
theorem tx_tail {w : World} {x : List UInt8} {F : List (List UInt8)} {b o c : Nat} (hc : F.length + 1 ≤ c) (hm : c ≤ maxLen) (hx : ∀ (j : Nat) (y : List UInt8), (x :: F)[j]? = some y → w.cell? ⟨b, o + j, none⟩ = some (.string (bs y))) :
    TxAt w (.slice (some ⟨b, o + 1, none⟩) F.length (c - 1)) F :=
  ⟨b, o + 1, c - 1, rfl, by omega, by omega, fun j y hj => by rw [Nat.add_assoc, Nat.add_comm 1 j]; exact hx (j + 1) y hj⟩
theorem tx_none {w : World} (b o c : Nat) (hm : c ≤ maxLen) : TxAt w (.slice (some ⟨b, o, none⟩) 0 c) [] := ⟨b, o, c, rfl, Nat.zero_le _, hm, fun j y hj => by simp at hj⟩

end Go.Proofs.YtdnbkllofbnpoaaDoor
