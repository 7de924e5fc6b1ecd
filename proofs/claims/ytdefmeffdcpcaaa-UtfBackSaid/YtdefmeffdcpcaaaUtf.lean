/- What utf.Count, utf.Place, strings.Clone, utf.Cut come to, at every text: contracts, said by a text's pieces. -/
import Derived.Test.YtdefmeffdcpcaaaPlain
import Derived.Test.YtdefmeffdcpcaaaRows
import Derived.WalkKit
import Derived.WalkSpells
import Derived.WalkLawsBesides
import Derived.Deep.LoopGhost
import Derived.Lib.OthersKept
import Derived.Lib.UnsafeStr
import Derived.Lib.AppendStr
import Derived.BigQuiet
import Derived.Deep.QuietTactic
import Derived.Laws.CopyOwn
import Derived.Laws.IdiomStrings
import Derived.Lib.RuneCount
import Derived.Lib.Hide
namespace Go.Proofs.Ytdefmeffdcpcaaa
open Go.RowKit Go.Lib

theorem ret_int {k : IntKind} {a b : Int} (h : a = b) : Ending.returned (.int k a) = .returned (.int k b) := by rw [h]
/-- A string's bytes from a place on. -/
def from_ (s : ByteArray) (p : Nat) : List UInt8 := s.data.toList.drop p
theorem from_zero (s : ByteArray) : from_ s 0 = s.data.toList := rfl
theorem from_nil (s : ByteArray) (p : Nat) (h : ¬ p < s.size) : from_ s p = [] := List.drop_of_length_le (by simpa using h)
theorem from_ne (s : ByteArray) (p : Nat) (h : p < s.size) : from_ s p ≠ [] := by
  intro e
  have := congrArg List.length e
  simp [from_] at this
  omega
theorem from_step (s : ByteArray) (p : Nat) : (from_ s p).drop (decodeL (from_ s p)).2 = from_ s (p + (Utf8.decode s p).2) := by
  unfold from_; rw [decodeL_drop, List.drop_drop]
theorem from_width (s : ByteArray) (p : Nat) : (decodeL (from_ s p)).2 = (Utf8.decode s p).2 := by unfold from_; rw [decodeL_drop]
theorem from_rune (s : ByteArray) (p : Nat) : (decodeL (from_ s p)).1 = (Utf8.decode s p).1 := by unfold from_; rw [decodeL_drop]
theorem from_length (s : ByteArray) (p : Nat) : (from_ s p).length = s.size - p := by simp [from_]
theorem iterPos_of {w : World} {k : Nat} {s : ByteArray} {p : Nat} (h : w.heap[k]? = some (.stringIter s p)) : w.iterPos k = p := by simp [World.iterPos, h]

set_option maxRecDepth 100000 in
set_option maxHeartbeats 400000 in
/-- utf.Count: how many runes. -/
theorem count_any (s : ByteArray) (w : World) (hs : s.size < 9223372036854775807) :
    Calls Try.prog 14 #[.string s] w fun e w' => e = .returned (.int .i64 (cnt s.data.toList)) ∧ Below w.heap.size w w' := by
  go_enter Try.func14, Try.ntmps14
  go_wp2
  go_loopw [3] (fun n w' => ∃ (pos acc : Nat), w' = w.iter s pos ∧ n = .int .i64 acc ∧ Hid (acc + cnt (from_ s pos) = cnt s.data.toList) ∧ acc ≤ pos ∧ (acc = 0 ∨ acc ≤ s.size)) (fun _ w' => s.size - w'.iterPos w.heap.size)
  case atStart => exact ⟨0, 0, rfl, rfl, by unfold Hid; rw [from_zero, Nat.zero_add], Nat.le_refl _, .inl rfl⟩
  case round =>
    obtain ⟨pos, acc, rfl, rfl, hc, ha, hb⟩ := hrel
    by_cases hp : pos < s.size
    · have hnx : ∀ ty, (Instr.next (.pointer (some ⟨w.heap.size, 0, none⟩)) true ty).run Try.prog (w.iter s pos) = _ := fun ty => run_next_any w s pos ty hp
      have hwd := Lib.decode_width_pos s pos hp
      go_wp2
      go_roundw
      case rel =>
        refine ⟨pos + (Utf8.decode s pos).2, acc + 1, rfl, by go_num, ?_, by omega, by omega⟩
        have hc := hc.out
        rw [cnt_cons _ (from_ne s pos hp), from_step] at hc
        unfold Hid
        omega
      case measure =>
        simp
        omega
    · have hnx : ∀ ty, (Instr.next (.pointer (some ⟨w.heap.size, 0, none⟩)) true ty).run Try.prog (w.iter s pos) = _ := fun ty => run_next_end w s pos ty hp
      go_wp2
      go_ret
      have hc := hc.out
      rw [from_nil s pos hp, cnt_nil, Nat.add_zero] at hc
      exact ⟨ret_int (by rw [hc]), (Below.refl _ _).alloc (Nat.le_refl _) _⟩

/-- What utf.Place answers. -/
def placeI (n : Int) (l : List UInt8) : Int := if 0 ≤ n ∧ n ≤ (cnt l : Int) then (placeL n.toNat l : Int) else -1
theorem placeI_in (n : Int) (k p : Nat) (l t : List UInt8) (hn : n = (k : Int)) (hc : k ≤ cnt l) (hp : p = placeL k l) (ht : t = l) : placeI n t = (p : Int) := by
  subst hn; subst hp; subst ht
  unfold placeI
  rw [if_pos ⟨by omega, by omega⟩]
  rfl
theorem placeL_step (k p : Nat) (s : ByteArray) (hp : p = placeL k s.data.toList) (hlt : p < s.size) (hk : k + cnt (from_ s p) = cnt s.data.toList) :
    p + (Utf8.decode s p).2 = placeL (k + 1) s.data.toList := by
  have hd : from_ s p = ((ps s.data.toList).drop k).flatten := by unfold from_; rw [hp, drop_place]
  have hne := from_ne s p hlt
  have e1 : ps (from_ s p) = (ps s.data.toList).drop k := by rw [hd, ps_rest]
  have h2 := ps_cons _ hne
  rw [e1] at h2
  have h3 : (ps s.data.toList).take (k + 1) = (ps s.data.toList).take k ++ [(from_ s p).take (decodeL (from_ s p)).2] := by
    have hl : k < (ps s.data.toList).length := by
      have := cnt_cons _ hne
      show k < cnt s.data.toList
      omega
    rw [List.take_succ_eq_append_getElem hl]
    have := List.drop_eq_getElem_cons hl
    rw [this] at h2
    injection h2 with h2 _
    rw [h2]
  have hw := decodeL_le _ hne
  unfold placeL cutL at *
  rw [h3, List.flatten_append, List.length_append, ← hp]
  simp only [List.flatten_cons, List.flatten_nil, List.append_nil, List.length_take]
  rw [← from_width]
  omega

set_option maxRecDepth 100000 in
set_option maxHeartbeats 400000 in
/-- utf.Place: where the n-th rune begins; the length at n Count; -1 of others. -/
theorem place_any (s : ByteArray) (n : Int) (w : World) (hs : s.size < 9223372036854775807) :
    Calls Try.prog 17 #[.string s, .int .i64 n] w fun e w' => e = .returned (.int .i64 (placeI n s.data.toList)) ∧ Below w.heap.size w w' := by
  go_enter Try.func17, Try.ntmps17
  go_wp2
  go_loopw [5] (fun k w' => ∃ (pos acc : Nat), w' = w.iter s pos ∧ k = .int .i64 acc ∧ Hid (acc + cnt (from_ s pos) = cnt s.data.toList) ∧ Hid (pos = placeL acc s.data.toList) ∧ acc ≤ pos ∧ (acc = 0 ∨ acc ≤ s.size) ∧ pos ≤ s.size ∧ Hid (0 ≤ n → (acc : Int) ≤ n)) (fun _ w' => s.size - w'.iterPos w.heap.size)
  case atStart => exact ⟨0, 0, rfl, rfl, by unfold Hid; rw [from_zero, Nat.zero_add], by unfold Hid; rw [place_zero], Nat.le_refl _, .inl rfl, Nat.zero_le _, fun h => h⟩
  case round =>
    obtain ⟨pos, acc, rfl, rfl, hc, hpl, ha, hb, hpz, hn⟩ := hrel
    by_cases hp : pos < s.size
    · have hnx : ∀ ty, (Instr.next (.pointer (some ⟨w.heap.size, 0, none⟩)) true ty).run Try.prog (w.iter s pos) = _ := fun ty => run_next_any w s pos ty hp
      have hwd := Lib.decode_width_pos s pos hp
      have hst := Lib.hid (placeL_step acc pos s hpl.out hp hc.out)
      have hcs : Hid (acc + 1 + cnt (from_ s (pos + (Utf8.decode s pos).2)) = cnt s.data.toList) := by
        have hc := hc.out
        rw [cnt_cons _ (from_ne s pos hp), from_step] at hc
        unfold Hid
        omega
      by_cases hk : (acc : Int) = n
      · have hkb : ((acc : Int) == n) = true := by simp [hk]
        have hk' := Lib.hid hk
        clear hk
        go_wp2
        go_ret
        refine ⟨ret_int ?_, (Below.refl _ _).alloc (Nat.le_refl _) _⟩
        rw [placeI_in n acc pos _ _ hk'.out.symm (by have := hc.out; omega) hpl.out rfl]
      · have hkb : ((acc : Int) == n) = false := by simp [hk]
        have hk' := Lib.hid hk
        clear hk
        go_wp2
        go_roundw
        case rel =>
          refine ⟨pos + (Utf8.decode s pos).2, acc + 1, rfl, by go_num, hcs, hst, by omega, ?_, ?_, ?_⟩
          · right; omega
          · have := place_le (acc + 1) s.data.toList
            rw [← hst.out] at this
            simpa using this
          · intro h0
            have := hn.out h0
            have := hk'.out
            omega
        case measure =>
          simp
          omega
    · have hnx : ∀ ty, (Instr.next (.pointer (some ⟨w.heap.size, 0, none⟩)) true ty).run Try.prog (w.iter s pos) = _ := fun ty => run_next_end w s pos ty hp
      have hcc : Hid (acc = cnt s.data.toList) := by
        have hc := hc.out
        rw [from_nil s pos hp, cnt_nil, Nat.add_zero] at hc
        exact hc
      have hps : Hid (pos = s.size) := by unfold Hid; omega
      by_cases hk : (acc : Int) = n
      · have hkb : ((acc : Int) == n) = true := by simp [hk]
        have hk' := Lib.hid hk
        clear hk
        go_wp2
        go_ret
        refine ⟨ret_int ?_, (Below.refl _ _).alloc (Nat.le_refl _) _⟩
        rw [placeI_in n acc pos _ _ hk'.out.symm (by have := hcc.out; omega) hpl.out rfl, hps.out]
      · have hkb : ((acc : Int) == n) = false := by simp [hk]
        have hk' := Lib.hid hk
        clear hk
        go_wp2
        go_ret
        refine ⟨ret_int ?_, (Below.refl _ _).alloc (Nat.le_refl _) _⟩
        unfold placeI
        rw [if_neg]
        intro h
        have h1 := hn.out h.1
        have h2 := h.2
        have h3 := hk'.out
        have h4 := hcc.out
        omega
end Go.Proofs.Ytdefmeffdcpcaaa
