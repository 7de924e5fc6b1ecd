/- package topic: what stands between slashes, texts as they may be, levels. -/
import Derived.Test.YtdnbkllofbnpoaaDoorLev
import Derived.Test.YtdnbkllofbnpoaaDoorShelf
import Derived.Test.YtdnbkllofbnpoaaDoorClone
import Derived.Lib.ConvBytes
import Derived.Lib.SmallJoins
import Derived.Laws.AppendOwn
import Derived.Laws.Rows
import Derived.Deep.WholeRow
import Derived.BigFrame
namespace Go.Proofs.YtdnbkllofbnpoaaDoor
open Go.RowKit Go.Lib
set_option linter.unusedVariables false

theorem heap_keep {w : World} {o o' : Obj} {g : Nat} (h : w.heap[g]? = some o) : (w.alloc o').heap[g]? = some o := by
  have hl : g < w.heap.size := (Array.getElem?_eq_some_iff.1 h).1
  show (w.heap.push o')[g]? = some o
  rw [Array.getElem?_push, if_neg (by omega), h]
theorem heap_below {w w' : World} {o : Obj} {g : Nat} (hb : Below w.heap.size w w') (h : w.heap[g]? = some o) : w'.heap[g]? = some o := by
  rw [hb.block g (Array.getElem?_eq_some_iff.1 h).1, h]
theorem dwN {B : Nat} {a w : World} (h : Below B a w) (n : Nat) : Below B a (w.drewN n) := h.trans ⟨rfl, rfl, rfl, Nat.le_refl _, fun _ _ => rfl⟩
theorem bcell {W w1 : World} (hb : Below W.heap.size W w1) : (∀ b o, b < W.heap.size → w1.cell? ⟨b, o, none⟩ = W.cell? ⟨b, o, none⟩) ∧ (∀ b o, b < W.heap.size → w1.frozen? ⟨b, o, none⟩ = W.frozen? ⟨b, o, none⟩) :=
  ⟨fun b o h => hb.cell (p := ⟨b, o, none⟩) h, fun b o h => hb.frozen (p := ⟨b, o, none⟩) h⟩

/-- The library's own number: some number lies there. -/
def MaxAt (w : World) : Prop := ∃ m : Int, w.cell? ⟨0, 0, none⟩ = some (.int .i64 m)
theorem MaxAt.on {w w' : World} (h : MaxAt w) (hb : Below w.heap.size w w') : MaxAt w' := by
  obtain ⟨m, hm⟩ := h
  have hl : 0 < w.heap.size := World.block_lt_of_cell? w ⟨0, 0, none⟩ hm
  exact ⟨m, by rw [hb.cell (p := ⟨0, 0, none⟩) hl]; exact hm⟩

/-- '[]byte(s)': new memory with the string's bytes. -/
theorem conv_str (s : ByteArray) (w : World) (hs : s.size ≤ 1000000) :
    ∃ (C : Nat) (W : World), (convert 9 22 (.string s)).run Tryd.prog w = .ok (.slice (some ⟨w.heap.size, 0, none⟩) s.size C) W ∧ BytesAt W W.heap.size (.slice (some ⟨w.heap.size, 0, none⟩) s.size C) s.data.toList ∧ Below w.heap.size w W := by
  refine ⟨_, _, Go.Lib.run_convert_string_bytes w 9 22 5 s Tryd.underlying9 Tryd.underlying22 Tryd.underlying5, ?_, Go.Joins.below_bytesWorld _ _ _ _ (Nat.le_refl _)⟩
  refine ⟨_, _, by rw [size_list], by rw [size_list]; exact grownCap_ge _ _ _ _, grownCap_le_maxLen _ _ _ _ (by unfold maxLen; omega), by simp, fun ad had _ => ?_, fun ad had j x hj => ?_⟩
  · injection had with had; subst had
    rw [bytesWorld_size]; exact Nat.lt_succ_self _
  · injection had with had; subst had
    have hlt : j < s.size := by rw [← size_list]; exact (List.getElem?_eq_some_iff.1 hj).1
    rw [show (Addr.add ⟨w.heap.size, 0, none⟩ j) = ⟨w.heap.size, j, none⟩ by simp [Addr.add]; exact fun h => h.symm, bytesWorld_cell _ _ _ _ hlt, List.getD_eq_getElem?_getD, hj]
    rfl

set_option maxRecDepth 100000 in
set_option maxHeartbeats 400000 in
theorem isText_any (s : ByteArray) (w : World) (hs : s.size ≤ 1000000) :
    Calls Tryd.prog 23 #[.string s] w fun e w' => e = .returned (.bool (textP s.data.toList)) ∧ Below w.heap.size w w' := by
  obtain ⟨C, W, hcv, hB, hb⟩ := conv_str s w hs
  go_enter Tryd.func23, Tryd.ntmps23
  go_wp2_with (go_at_call 33; refine (check_any _ _ _ hB (by rw [size_list]; omega)).mono ?_; rintro e w' ⟨rfl, hb2⟩)
  all_goals (go_ret; first | exact ⟨ret_bool (by unfold textP; simp; try omega), thn hb hb2⟩ | exact ⟨ret_bool (by unfold textP; simp; try omega), Below.refl _ _⟩)

/-- A slice that reads as these texts, in blocks below B. -/
def TextsAt (w : World) (B : Nat) (v : Value) (L : List (List UInt8)) : Prop :=
  ∃ (a : Addr) (c : Nat), v = .slice (some a) L.length c ∧ L.length ≤ c ∧ c ≤ 100000000 ∧ (L ≠ [] → a.block < B) ∧ ∀ (j : Nat) (x : List UInt8), L[j]? = some x → w.cell? (a.add j) = some (.string (bs x))

set_option maxRecDepth 100000 in
set_option maxHeartbeats 400000 in
theorem parted_any (s : ByteArray) (w : World) (hM : MaxAt w) (hs : s.size ≤ 1000000) :
    Calls Tryd.prog 27 #[.string s] w fun e w' => e = .returned (.slice (some ⟨w.heap.size, 0, none⟩) (lev s.data.toList).length (lev s.data.toList).length) ∧ w' = w.alloc (.cells (lvs (lev s.data.toList)).toArray 9) := by
  obtain ⟨m, hm⟩ := hM
  have c := Tryd.strings_Split s ⟨#[47]⟩ m w (by omega) hm (by decide)
  rw [split_lev, count_lev] at c
  go_enter Tryd.func27, Tryd.ntmps27
  go_wp2_with (go_at_call 35; refine c.mono ?_; rintro e w' ⟨rfl, rfl⟩)
  go_ret
  exact ⟨rfl, rfl⟩

theorem lvs_get (L : List (List UInt8)) (j : Nat) : (lvs L).toArray[j]? = (L[j]?).map fun x => Value.string (bs x) := by
  unfold lvs; rw [List.getElem?_toArray, List.getElem?_map]
theorem textsAt_new (w : World) (L : List (List UInt8)) (fr : Nat × Nat) (hm : L.length ≤ 100000000) : TextsAt (w.alloc (.cells (lvs L).toArray 9 fr)) (w.heap.size + 1) (.slice (some ⟨w.heap.size, 0, none⟩) L.length L.length) L := by
  refine ⟨_, _, rfl, Nat.le_refl _, hm, fun _ => by simp, fun j x hj => ?_⟩
  rw [show (Addr.add ⟨w.heap.size, 0, none⟩ j) = ⟨w.heap.size, j, none⟩ by simp [Addr.add]; exact fun h => h.symm]
  rw [World.cell?_alloc_mark, lvs_get, hj]
  rfl
theorem TextsAt.below {w w' : World} {B : Nat} {v : Value} {L : List (List UInt8)} (h : TextsAt w B v L) (hb : Below B w w') : TextsAt w' B v L := by
  obtain ⟨a, c, hv, hc, hm, hB, hx⟩ := h
  refine ⟨a, c, hv, hc, hm, hB, fun j x hj => ?_⟩
  have hne : L ≠ [] := by intro e; rw [e] at hj; simp at hj
  rw [hb.cell (p := a.add j) (by simpa [Addr.add] using (by split <;> exact hB hne))]
  exact hx j x hj
theorem TextsAt.more {w : World} {B B' : Nat} {v : Value} {L : List (List UInt8)} (h : TextsAt w B v L) (hB : B ≤ B') : TextsAt w B' v L := by
  obtain ⟨a, c, hv, hc, hm, hb, hx⟩ := h
  exact ⟨a, c, hv, hc, hm, fun hne => Nat.lt_of_lt_of_le (hb hne) hB, hx⟩
theorem TextsAt.on {w w' : World} {v : Value} {L : List (List UInt8)} (h : TextsAt w w.heap.size v L) (hb : Below w.heap.size w w') : TextsAt w' w'.heap.size v L := (h.below hb).more hb.size

set_option maxRecDepth 100000 in
set_option maxHeartbeats 400000 in
theorem levels_any (s : ByteArray) (w : World) (hM : MaxAt w) (hs : s.size ≤ 1000000) :
    Calls Tryd.prog 17 #[.string s] w fun e w' => ∃ g : Nat, w.heap.size ≤ g ∧ e = .returned (.slice (some ⟨g, 0, none⟩) (lev s.data.toList).length (lev s.data.toList).length) ∧ w'.heap[g]? = some (.cells (lvs (lev s.data.toList)).toArray 9 (0, 0)) ∧ Below w.heap.size w w' := by
  go_enter Tryd.func17, Tryd.ntmps17
  go_wp2_with (go_at_call 29; refine (clone_any s _ (by omega)).mono ?_; rintro e w' ⟨rfl, hb⟩)
  go_wp2_with (go_at_call 27; refine (parted_any s _ (hM.on hb) hs).mono ?_; rintro e w2 ⟨rfl, rfl⟩)
  go_ret
  exact ⟨_, hb.size, rfl, heap_alloc_new _ _, alB hb _⟩

/-- Whether one of two ASCII bytes stands in a text, rune by rune. -/
theorem wild_step (s : ByteArray) (p : Nat) (h : p < s.size) : wildP (from_ s p) = (decide ((Utf8.decode s p).1 = 43) || decide ((Utf8.decode s p).1 = 35) || wildP (from_ s (p + (Utf8.decode s p).2))) := by
  have hne := from_ne s p h
  unfold wildP
  rw [contains_step 43 (by decide) _ hne, contains_step 35 (by decide) _ hne, from_rune, from_step]
  show (decide (_ = 43) || _ || (decide (_ = 35) || _)) = _
  ac_rfl

set_option maxRecDepth 100000 in
set_option maxHeartbeats 400000 in
theorem hasWild_any (s : ByteArray) (w : World) (hs : s.size ≤ 1000000) :
    Calls Tryd.prog 24 #[.string s] w fun e w' => e = .returned (.bool (wildP s.data.toList)) ∧ Below w.heap.size w w' := by
  go_enter Tryd.func24, Tryd.ntmps24
  go_wp2
  go_loopw [] (fun w' => ∃ (pos : Nat), w' = w.iter s pos ∧ pos ≤ s.size ∧ Hid (wildP (from_ s pos) = wildP s.data.toList)) (fun w' => s.size - w'.iterPos w.heap.size)
  case atStart => exact ⟨0, rfl, Nat.zero_le _, rfl⟩
  case round =>
    obtain ⟨pos, rfl, hps, hc⟩ := hrel
    by_cases hp : pos < s.size
    · have hnx : ∀ ty, (Instr.next (.pointer (some ⟨w.heap.size, 0, none⟩)) true ty).run Tryd.prog (w.iter s pos) = _ := fun ty => run_next_any w s pos ty hp
      have hwd := Lib.decode_width_pos s pos hp
      have hst := Lib.hid (wild_step s pos hp)
      have hwl : pos + (Utf8.decode s pos).2 ≤ s.size := by
        have := decodeL_le _ (from_ne s pos hp)
        rw [from_width, from_length] at this
        omega
      generalize (Utf8.decode s pos).2 = wd at *
      generalize (Utf8.decode s pos).1 = r at *
      by_cases h0 : r = 43
      · subst h0
        have hfin : Hid (wildP s.data.toList = true) := Lib.hid (by rw [← hc.out, hst.out]; simp)
        go_wp2_with fail
        go_ret
        exact ⟨ret_bool (by rw [hfin.out]), (Below.refl _ _).alloc (Nat.le_refl _) _⟩
      · have h0b : ((r : Int) == 43) = false := beq_eq_false_iff_ne.2 (by omega)
        by_cases h1 : r = 35
        · subst h1
          have hfin : Hid (wildP s.data.toList = true) := Lib.hid (by rw [← hc.out, hst.out]; simp)
          go_wp2_with fail
          go_ret
          exact ⟨ret_bool (by rw [hfin.out]), (Below.refl _ _).alloc (Nat.le_refl _) _⟩
        · have h1b : ((r : Int) == 35) = false := beq_eq_false_iff_ne.2 (by omega)
          have hfin : Hid (wildP (from_ s (pos + wd)) = wildP s.data.toList) := Lib.hid (by rw [← hc.out, hst.out]; simp [h0, h1])
          go_wp2_with fail
          go_roundw
          case rel => exact ⟨pos + wd, rfl, hwl, hfin⟩
          case measure => simp; omega
    · have hnx : ∀ ty, (Instr.next (.pointer (some ⟨w.heap.size, 0, none⟩)) true ty).run Tryd.prog (w.iter s pos) = _ := fun ty => run_next_end w s pos ty hp
      go_wp2
      go_ret
      have hc := hc.out
      rw [from_nil s pos hp] at hc
      exact ⟨ret_bool (by rw [← hc]; rfl), (Below.refl _ _).alloc (Nat.le_refl _) _⟩

/-- What is left of a level's test behind a place. -/
def fitR (P Q last : Bool) (l : List UInt8) : Bool := !(l.contains 43 && !P) && !(l.contains 35 && (!Q || !last))
theorem fit_step (P Q last : Bool) (s : ByteArray) (p : Nat) (h : p < s.size) : fitR P Q last (from_ s p) = (!(decide ((Utf8.decode s p).1 = 43) && !P) && !(decide ((Utf8.decode s p).1 = 35) && (!Q || !last)) && fitR P Q last (from_ s (p + (Utf8.decode s p).2))) := by
  have hne := from_ne s p h
  unfold fitR
  rw [contains_step 43 (by decide) _ hne, contains_step 35 (by decide) _ hne, from_rune, from_step]
  show (!((decide (_ = 43) || _) && _) && !((decide (_ = 35) || _) && _)) = _
  generalize decide ((Utf8.decode s p).fst = 43) = a
  generalize decide ((Utf8.decode s p).fst = 35) = b
  generalize (from_ s (p + (Utf8.decode s p).snd)).contains 43 = c
  generalize (from_ s (p + (Utf8.decode s p).snd)).contains 35 = d
  cases P <;> cases Q <;> cases last <;> cases a <;> cases b <;> cases c <;> cases d <;> rfl
theorem fit_nil (P Q last : Bool) : fitR P Q last [] = true := by cases P <;> cases Q <;> cases last <;> rfl

set_option maxRecDepth 100000 in
set_option maxHeartbeats 1000000 in
theorem fits_any (x : List UInt8) (last : Bool) (w : World) (hs : x.length ≤ 1000000) :
    Calls Tryd.prog 28 #[.string (bs x), .bool last] w fun e w' => e = .returned (.bool (fitsP x last)) ∧ Below w.heap.size w w' := by
  obtain ⟨s, rfl⟩ : ∃ s : ByteArray, x = s.data.toList := ⟨bs x, (bs_data x).symm⟩
  rw [bs_list]
  rw [size_list] at hs
  have hP : (s.toList == [43]) = (s.data.toList == [43]) := by rw [ByteArray.toList_eq]
  have hQ : (s.toList == [35]) = (s.data.toList == [35]) := by rw [ByteArray.toList_eq]
  have hF : Hid (fitsP s.data.toList last = fitR (s.data.toList == [43]) (s.data.toList == [35]) last s.data.toList) := Lib.hid rfl
  generalize (s.data.toList == [43]) = P at *
  generalize (s.data.toList == [35]) = Q at *
  rw [hF.out]
  clear hF
  go_enter Tryd.func28, Tryd.ntmps28
  go_wp2
  go_loopw [] (fun w' => ∃ (pos : Nat), w' = w.iter s pos ∧ pos ≤ s.size ∧ Hid (fitR P Q last (from_ s pos) = fitR P Q last s.data.toList)) (fun w' => s.size - w'.iterPos w.heap.size)
  case atStart => exact ⟨0, rfl, Nat.zero_le _, rfl⟩
  case round =>
    obtain ⟨pos, rfl, hps, hc⟩ := hrel
    by_cases hp : pos < s.size
    · have hnx : ∀ ty, (Instr.next (.pointer (some ⟨w.heap.size, 0, none⟩)) true ty).run Tryd.prog (w.iter s pos) = _ := fun ty => run_next_any w s pos ty hp
      have hwd := Lib.decode_width_pos s pos hp
      have hst := Lib.hid (fit_step P Q last s pos hp)
      have hwl : pos + (Utf8.decode s pos).2 ≤ s.size := by
        have := decodeL_le _ (from_ne s pos hp)
        rw [from_width, from_length] at this
        omega
      generalize (Utf8.decode s pos).2 = wd at *
      generalize (Utf8.decode s pos).1 = r at *
      by_cases h0 : r = 43
      · subst h0
        cases P with
        | false =>
          have hfin : Hid (fitR false Q last s.data.toList = false) := Lib.hid (by rw [← hc.out, hst.out]; simp)
          go_wp2_with fail
          go_ret
          exact ⟨ret_bool (by rw [hfin.out]), (Below.refl _ _).alloc (Nat.le_refl _) _⟩
        | true =>
          have hfin : Hid (fitR true Q last (from_ s (pos + wd)) = fitR true Q last s.data.toList) := Lib.hid (by rw [← hc.out, hst.out]; simp)
          go_wp2_with fail
          go_roundw
          case rel => exact ⟨pos + wd, rfl, hwl, hfin⟩
          case measure => simp; omega
      · have h0b : ((r : Int) == 43) = false := beq_eq_false_iff_ne.2 (by omega)
        by_cases h1 : r = 35
        · subst h1
          cases Q with
          | false =>
            have hfin : Hid (fitR P false last s.data.toList = false) := Lib.hid (by rw [← hc.out, hst.out]; simp)
            go_wp2_with fail
            go_ret
            exact ⟨ret_bool (by rw [hfin.out]), (Below.refl _ _).alloc (Nat.le_refl _) _⟩
          | true =>
            cases last with
            | false =>
              have hfin : Hid (fitR P true false s.data.toList = false) := Lib.hid (by rw [← hc.out, hst.out]; simp)
              go_wp2_with fail
              go_ret
              exact ⟨ret_bool (by rw [hfin.out]), (Below.refl _ _).alloc (Nat.le_refl _) _⟩
            | true =>
              have hfin : Hid (fitR P true true (from_ s (pos + wd)) = fitR P true true s.data.toList) := Lib.hid (by rw [← hc.out, hst.out]; simp)
              go_wp2_with fail
              go_roundw
              case rel => exact ⟨pos + wd, rfl, hwl, hfin⟩
              case measure => simp; omega
        · have h1b : ((r : Int) == 35) = false := beq_eq_false_iff_ne.2 (by omega)
          have hfin : Hid (fitR P Q last (from_ s (pos + wd)) = fitR P Q last s.data.toList) := Lib.hid (by rw [← hc.out, hst.out]; simp [h0, h1])
          go_wp2_with fail
          go_roundw
          case rel => exact ⟨pos + wd, rfl, hwl, hfin⟩
          case measure => simp; omega
    · have hnx : ∀ ty, (Instr.next (.pointer (some ⟨w.heap.size, 0, none⟩)) true ty).run Tryd.prog (w.iter s pos) = _ := fun ty => run_next_end w s pos ty hp
      go_wp2
      go_ret
      have hc := hc.out
      rw [from_nil s pos hp, fit_nil] at hc
      exact ⟨ret_bool (by rw [← hc]), (Below.refl _ _).alloc (Nat.le_refl _) _⟩

set_option maxRecDepth 100000 in
set_option maxHeartbeats 400000 in
theorem coversLevel_any (x y : List UInt8) (w : World) :
    Calls Tryd.prog 38 #[.string (bs x), .string (bs y)] w fun e w' => e = .returned (.bool (covLev x y)) ∧ w' = w := by
  have e1 : (bs x).toList = x := bs_toList x
  have e2 : (bs y).toList = y := bs_toList y
  rcases h1 : x == y with _ | _ <;> rcases h2 : x == [43] with _ | _ <;> rcases h3 : y == [35] with _ | _
  all_goals
    have R := Lib.hid (show covLev x y = (_ || (_ && !_)) by unfold covLev; rw [h1, h2, h3])
    go_enter Tryd.func38, Tryd.ntmps38
    go_wp2
    go_ret
    exact ⟨ret_bool (by rw [R.out]; rfl), rfl⟩
end Go.Proofs.YtdnbkllofbnpoaaDoor
