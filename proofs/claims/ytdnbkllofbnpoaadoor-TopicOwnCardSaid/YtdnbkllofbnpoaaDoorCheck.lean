/- What utf.Check comes to (over the base of packets). -/
import Derived.Test.YtdnbkllofbnpoaaDoorPlain
import Derived.Test.YtdnbkllofbnpoaaDoorBase
import Derived.Lib.RuneCount
namespace Go.Proofs.YtdnbkllofbnpoaaDoor
open Go.RowKit Go.Lib

/-- A string's bytes from a place on. -/
def from_ (s : ByteArray) (p : Nat) : List UInt8 := s.data.toList.drop p
theorem from_zero (s : ByteArray) : from_ s 0 = s.data.toList := rfl
theorem from_nil (s : ByteArray) (p : Nat) (h : ¬ p < s.size) : from_ s p = [] := List.drop_of_length_le (by simpa using h)
theorem from_ne (s : ByteArray) (p : Nat) (h : p < s.size) : from_ s p ≠ [] := by
  intro e
  have := congrArg List.length e
  simp [from_] at this
  omega
theorem from_step (s : ByteArray) (p : Nat) : (from_ s p).drop (decodeL (from_ s p)).2 = from_ s (p + (Utf8.decode s p).2) := by
  unfold from_; rw [decodeL_drop, List.drop_drop]
theorem from_width (s : ByteArray) (p : Nat) : (decodeL (from_ s p)).2 = (Utf8.decode s p).2 := by unfold from_; rw [decodeL_drop]
theorem from_rune (s : ByteArray) (p : Nat) : (decodeL (from_ s p)).1 = (Utf8.decode s p).1 := by unfold from_; rw [decodeL_drop]
theorem from_length (s : ByteArray) (p : Nat) : (from_ s p).length = s.size - p := by simp [from_]
theorem iterPos_of {w : World} {k : Nat} {s : ByteArray} {p : Nat} (h : w.heap[k]? = some (.stringIter s p)) : w.iterPos k = p := by simp [World.iterPos, h]

/-- Is a piece what a text may not have? -/
def badP (c : List UInt8) : Bool := (decodeL c).1 == 0 || ((decodeL c).1 == 65533 && !(c == [239, 191, 189]))
/-- Where the first such piece stands. -/
def chkP : List (List UInt8) → Nat → Int
  | [], _ => -1
  | c :: r, o => if badP c then (o : Int) else chkP r (o + c.length)
def chkL (l : List UInt8) : Int := chkP (ps l) 0

set_option maxRecDepth 100000 in
set_option maxHeartbeats 400000 in
theorem begins_any (s : ByteArray) (w : World) (hs : s.size ≤ 140737488355328) :
    Calls Tryd.prog 39 #[.string s] w fun e w' => e = .returned (.bool (s.data.toList.take 3 == [239, 191, 189])) ∧ w = w' := by
  by_cases h3 : 3 ≤ s.size
  · go_enter Tryd.func39, Tryd.ntmps39
    go_wp2
    go_ret
    refine ⟨ret_bool ?_, rfl⟩
    show ((s.extract 0 3).toList == [239, 191, 189]) = _
    rw [ByteArray.toList_eq, ByteArray.data_extract, Array.toList_extract]
    simp
  · go_enter Tryd.func39, Tryd.ntmps39
    go_wp2
    go_ret
    refine ⟨ret_bool ?_, rfl⟩
    show false = _
    symm
    rw [beq_eq_false_iff_ne]
    intro e
    have := congrArg List.length e
    simp at this
    omega

theorem ext_from (s : ByteArray) (p : Nat) : (s.extract p s.size).data.toList = from_ s p := by
  rw [ByteArray.data_extract, Array.toList_extract]
  show List.take (s.size - p) (List.drop p s.data.toList) = _
  rw [List.take_of_length_le (by simp)]
  rfl

theorem dec_repl (t : List UInt8) : decodeL (239 :: 191 :: 189 :: t) = (65533, 3) := by
  rw [decodeL_N]
  show decodeN (t.length + 1 + 1 + 1) 239 191 189 _ = _
  unfold decodeN
  rw [if_neg (by omega), if_neg (by omega), if_pos ⟨by omega, ⟨by omega, by omega⟩, by omega, by omega⟩, if_pos (by omega)]

/-- Of a piece that reads as U+FFFD: it is that rune's own three bytes just if the text goes on so. -/
theorem begins_piece (l : List UInt8) : (l.take (decodeL l).2 == [239, 191, 189]) = (l.take 3 == [239, 191, 189]) := by
  rw [Bool.eq_iff_iff, beq_iff_eq, beq_iff_eq]
  constructor
  · intro h
    have hl := congrArg List.length h
    simp at hl
    have h2 : l = [239, 191, 189] ++ l.drop (decodeL l).2 := by rw [← h, List.take_append_drop]
    rw [h2]
    simp
  · intro h
    have h2 : l = 239 :: 191 :: 189 :: l.drop 3 := by
      have := (List.take_append_drop 3 l).symm
      rw [h] at this
      exact this
    have e : (decodeL l).2 = 3 := by rw [h2, dec_repl]
    rw [e, h]

theorem badP_eq (l : List UInt8) : badP (l.take (decodeL l).2) = ((decodeL l).1 == 0 || ((decodeL l).1 == 65533 && !(l.take 3 == [239, 191, 189]))) := by
  unfold badP
  rw [decodeL_take l _ (Nat.le_refl _), begins_piece]

theorem chk_step (s : ByteArray) (p : Nat) (h : p < s.size) : chkP (ps (from_ s p)) p =
    if ((Utf8.decode s p).1 == 0 || ((Utf8.decode s p).1 == 65533 && !((from_ s p).take 3 == [239, 191, 189]))) then (p : Int) else chkP (ps (from_ s (p + (Utf8.decode s p).2))) (p + (Utf8.decode s p).2) := by
  have hne := from_ne s p h
  have hle := decodeL_le _ hne
  rw [ps_cons _ hne, from_step]
  show (if badP _ = true then _ else chkP _ (p + _)) = _
  rw [badP_eq, from_rune, List.length_take, Nat.min_eq_left hle, from_width]

set_option maxRecDepth 100000 in
set_option maxHeartbeats 1000000 in
/-- utf.Check: where a text goes wrong. -/
theorem check_any (v : Value) (l : List UInt8) (w : World) (hv : BytesAt w w.heap.size v l) (hs : l.length ≤ 140737488355328) :
    Calls Tryd.prog 33 #[v] w fun e w' => e = .returned (.int .i64 (chkL l)) ∧ Below w.heap.size w w' := by
  have hcv := hv.conv
  clear hv
  generalize hs' : (⟨l.toArray⟩ : ByteArray) = s at *
  have hl : l = s.data.toList := by rw [← hs']
  have hsz : s.size ≤ 140737488355328 := by rw [← size_list, ← hl]; exact hs
  subst hl
  clear hs' hs
  go_enter Tryd.func33, Tryd.ntmps33
  go_wp2
  go_loopw [4, 5] (fun _ _ w' => ∃ (pos : Nat), w' = w.iter s pos ∧ pos ≤ s.size ∧ Hid (chkP (ps (from_ s pos)) pos = chkL s.data.toList)) (fun _ _ w' => s.size - w'.iterPos w.heap.size)
  case atStart => exact ⟨0, rfl, Nat.zero_le _, rfl⟩
  case round =>
    obtain ⟨pos, rfl, hps, hc⟩ := hrel
    by_cases hp : pos < s.size
    · have hnx : ∀ ty, (Instr.next (.pointer (some ⟨w.heap.size, 0, none⟩)) true ty).run Tryd.prog (w.iter s pos) = _ := fun ty => run_next_any w s pos ty hp
      have hwd := Lib.decode_width_pos s pos hp
      have hst := Lib.hid (chk_step s pos hp)
      have hwl : pos + (Utf8.decode s pos).2 ≤ s.size := by
        have := decodeL_le _ (from_ne s pos hp)
        rw [from_width, from_length] at this
        omega
      generalize (Utf8.decode s pos).2 = wd at *
      generalize (Utf8.decode s pos).1 = r at *
      have hb := fun W => begins_any (s.extract pos s.size) W (by rw [ByteArray.size_extract]; omega)
      have hst := hst
      rw [ext_from] at hb
      generalize ((from_ s pos).take 3 == [239, 191, 189]) = bg at *
      by_cases h0 : r = 0
      · subst h0
        have hfin : Hid (chkL s.data.toList = (pos : Int)) := by
          have hc := hc.out
          rw [hst.out] at hc
          exact hc.symm
        go_wp2_with fail
        go_ret
        exact ⟨ret_int (by rw [hfin.out]), (Below.refl _ _).alloc (Nat.le_refl _) _⟩
      · have h0b : ((r : Int) == 0) = false := beq_eq_false_iff_ne.2 (by omega)
        by_cases h1 : r = 65533
        · subst h1
          cases bg with
          | true =>
            have hfin : Hid (chkP (ps (from_ s (pos + wd))) (pos + wd) = chkL s.data.toList) := by
              have hc := hc.out
              rw [hst.out] at hc
              exact hc
            go_wp2_with (go_at_call 39; refine (hb _).mono ?_; rintro e w' ⟨rfl, rfl⟩)
            go_roundw
            case rel => exact ⟨pos + wd, rfl, hwl, hfin⟩
            case measure => simp; omega
          | false =>
            have hfin : Hid (chkL s.data.toList = (pos : Int)) := by
              have hc := hc.out
              rw [hst.out] at hc
              exact hc.symm
            go_wp2_with (go_at_call 39; refine (hb _).mono ?_; rintro e w' ⟨rfl, rfl⟩)
            go_ret
            exact ⟨ret_int (by rw [hfin.out]), (Below.refl _ _).alloc (Nat.le_refl _) _⟩
        · have h1b : ((r : Int) == 65533) = false := beq_eq_false_iff_ne.2 (by omega)
          have hfin : Hid (chkP (ps (from_ s (pos + wd))) (pos + wd) = chkL s.data.toList) := by
            have hc := hc.out
            rw [hst.out, if_neg (by simp [h0, h1])] at hc
            exact hc
          go_wp2_with fail
          go_roundw
          case rel => exact ⟨pos + wd, rfl, hwl, hfin⟩
          case measure => simp; omega
    · have hnx : ∀ ty, (Instr.next (.pointer (some ⟨w.heap.size, 0, none⟩)) true ty).run Tryd.prog (w.iter s pos) = _ := fun ty => run_next_end w s pos ty hp
      go_wp2
      go_ret
      have hc := hc.out
      rw [from_nil s pos hp] at hc
      exact ⟨ret_int (by rw [← hc]; rfl), (Below.refl _ _).alloc (Nat.le_refl _) _⟩

/-- A text's runes, as the model lays them. -/
def rnsL (l : List UInt8) : List Int := (ps l).map fun c => ((decodeL c).1 : Int)

theorem rnsL_cons (l : List UInt8) (h : l ≠ []) : rnsL l = ((decodeL l).1 : Int) :: rnsL (l.drop (decodeL l).2) := by
  unfold rnsL
  rw [ps_cons l h, List.map_cons, decodeL_take l _ (Nat.le_refl _)]

theorem runesFrom_eq (s : ByteArray) : ∀ (f p : Nat) (acc : Array Value), s.size ≤ p + f → Conv.runesFrom s f p acc = acc ++ ((rnsL (from_ s p)).map (Value.int .i32)).toArray
  | 0, p, acc, h => by
    rw [from_nil s p (by omega)]
    simp [Conv.runesFrom, rnsL, ps_nil]
  | f + 1, p, acc, h => by
    unfold Conv.runesFrom
    by_cases hp : p < s.size
    · rw [if_pos hp]
      have hwd := Lib.decode_width_pos s p hp
      show Conv.runesFrom s f (p + (Utf8.decode s p).2) (acc.push (.int .i32 (Int.ofNat (Utf8.decode s p).1))) = _
      rw [runesFrom_eq s f _ _ (by omega), rnsL_cons _ (from_ne s p hp), from_step, from_rune]
      simp
    · rw [if_neg hp, from_nil s p hp]
      simp [rnsL, ps_nil]

end Go.Proofs.YtdnbkllofbnpoaaDoor
