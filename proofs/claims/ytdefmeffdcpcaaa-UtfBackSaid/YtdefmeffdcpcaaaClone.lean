/- What strings.Clone, strings.HasPrefix, utf.Cut, utf.Check, utf.Runes, utf.Back come to. -/
import Derived.Test.YtdefmeffdcpcaaaUtf
import Derived.Lib.BufferWrite
import Derived.Laws.Cover4
namespace Go.Proofs.Ytdefmeffdcpcaaa
open Go.RowKit Go.Lib

theorem Try.info5 : (Try.prog.info? 5).map (fun i => (i.zero, i.size, i.bytes)) = some (some (.int .u8 0), 1, 1) := by kernel_rfl
theorem Try.size5 : (Try.prog.info? 5).map (·.size) = some 1 := by kernel_rfl
theorem Try.cells5 : Try.prog.cellsOf 5 = 1 := by kernel_rfl

theorem ret_str {a b : ByteArray} (h : a = b) : Ending.returned (.string a) = .returned (.string b) := by rw [h]
theorem ret_bool {a b : Bool} (h : a = b) : Ending.returned (.bool a) = .returned (.bool b) := by rw [h]
theorem ofList (s : ByteArray) : (⟨s.data.toList.toArray⟩ : ByteArray) = s := by cases s; simp
theorem size_list (s : ByteArray) : s.data.toList.length = s.size := by simp

/-- The three steps of Clone: a new row, the bytes copied, the string over it. -/
theorem clone_runs (s : ByteArray) (w : World) (h0 : 0 < s.size) (hs : s.size ≤ 140737488355328) :
    ∃ W1 W2 W3, ((Instr.makeSlice 22 (.int .i64 (s.size : Int)) (.int .i64 (s.size : Int))).run Try.prog w = .ok (.slice (some ⟨w.heap.size, 0, none⟩) s.size s.size) W1) ∧
      (∀ ty, (Builtin.copy_ #[22, 9] ty #[.slice (some ⟨w.heap.size, 0, none⟩) s.size s.size, .string s]).run Try.prog W1 = .ok (.int .i64 s.size) W2) ∧
      (∀ ty, (Builtin.unsafeString_ #[48, 3] ty #[.pointer (some ⟨w.heap.size, 0, none⟩), .int .i64 (s.size : Int)]).run Try.prog W2 = .ok (.string s) W3) ∧ Below w.heap.size w W3 := by
  obtain ⟨i0, hi, hz0, hz1, hz2⟩ := info_parts Try.info5
  have hm := run_make (P := Try.prog) w 22 5 i0 _ Try.underlying22 hi hz0 .i64 .i64 (s.size : Int) (s.size : Int) (by omega) (by omega) (by rw [hz2]; omega) (by omega)
  simp only [Int.toNat_natCast] at hm
  have hC : (madeCells (Value.int .u8 0).cells (s.size * i0.size)).size = s.size := by rw [hz1]; simp [madeCells]
  generalize madeCells (Value.int .u8 0).cells (s.size * i0.size) = C at *
  obtain ⟨D, hD⟩ : ∃ D, D = (C.toList.take 0 ++ byteCells s.data.toList ++ C.toList.drop (0 + s.size)).toArray := ⟨_, rfl⟩
  have hcp : ∀ ty, (Builtin.copy_ #[22, 9] ty #[.slice (some ⟨w.heap.size, 0, none⟩) s.size s.size, .string s]).run Try.prog (w.alloc (.cells C 5)) = .ok (.int .i64 s.size) ((w.alloc (.cells C 5)).setRow w.heap.size D) := fun ty => by
    have h := run_copy_row_string (P := Try.prog) (w.alloc (.cells C 5)) 22 9 ty 5 w.heap.size 0 s.size s.size s C 5 Try.underlying22 Try.size5 (heap_alloc_new w _) (Nat.le_refl _) (by omega)
    rw [← hD] at h
    exact h
  have hDs : D.size = s.size := by rw [hD]; simp [byteCells]; omega
  have hDj : ∀ (j : Nat) (x : UInt8), s.data.toList[j]? = some x → D[j]? = some (Value.int .u8 (x.toNat : Int)) := by
    intro j x hj
    have hjl : j < s.data.toList.length := (List.getElem?_eq_some_iff.1 hj).1
    rw [hD, List.getElem?_toArray, List.take_zero, List.nil_append, List.getElem?_append_left (by simpa [byteCells] using hjl)]
    unfold byteCells
    rw [List.getElem?_map, hj]
    rfl
  have hrow := setRow_heap (w.alloc (.cells C 5)) w.heap.size _ D _ _ (heap_alloc_new w _)
  generalize hW : (w.alloc (.cells C 5)).setRow w.heap.size D = W2 at *
  refine ⟨_, W2, W2.freeze ⟨w.heap.size, 0, none⟩ s.size, hm, hcp, fun ty => ?_, ?_⟩
  · have hr := run_unsafeString_row (P := Try.prog) W2 48 3 ty 5 Try.underlying48 Try.cells5 w.heap.size s.size (by unfold World.shape?; rw [hrow]; simp [hDs]) s.data.toList (by intro e; have := size_list s; rw [e] at this; simp at this; omega) (by rw [size_list]; exact Nat.le_refl _) (by rw [size_list]; omega)
      (by
        intro j x hj
        unfold World.cell?
        rw [show (Addr.add ⟨w.heap.size, 0, none⟩ j) = ⟨w.heap.size, j, none⟩ by simp [Addr.add]; exact fun h => h.symm, hrow]
        exact hDj j x hj)
    rw [ofList, size_list] at hr
    exact hr
  · rw [← hW]
    exact below_freeze (below_setRow ((Below.refl _ _).alloc (Nat.le_refl _) _) (Nat.le_refl _) _) (Nat.le_refl _) _

set_option maxRecDepth 100000 in
set_option maxHeartbeats 400000 in
/-- strings.Clone: the string itself. -/
theorem clone_any (s : ByteArray) (w : World) (hs : s.size ≤ 140737488355328) :
    Calls Try.prog 25 #[.string s] w fun e w' => e = .returned (.string s) ∧ Below w.heap.size w w' := by
  by_cases h0 : 0 < s.size
  · obtain ⟨W1, W2, W3, r1, r2, r3, hb⟩ := clone_runs s w h0 hs
    have hne : ((s.size : Int) == 0) = false := beq_eq_false_iff_ne.2 (by omega)
    go_enter Try.func25, Try.ntmps25
    go_wp2
    go_ret
    exact ⟨rfl, hb⟩
  · have he : s = ByteArray.empty := by
      have h : s.size = 0 := by omega
      apply ByteArray.ext
      exact Array.eq_empty_of_size_eq_zero h
    subst he
    go_enter Try.func25, Try.ntmps25
    go_wp2
    go_ret
    exact ⟨rfl, Below.refl _ _⟩
/-- What utf.Cut answers. -/
def cutI (n : Int) (l : List UInt8) : List UInt8 := if n < 0 then [] else cutL n.toNat l
theorem cutI_out (n : Int) (s : ByteArray) (h0 : 0 ≤ n) (hp : placeI n s.data.toList < 0) : (⟨(cutI n s.data.toList).toArray⟩ : ByteArray) = s := by
  have hc : ¬ n ≤ (cnt s.data.toList : Int) := by
    intro hc
    unfold placeI at hp
    rw [if_pos ⟨h0, hc⟩] at hp
    omega
  have e : cutI n s.data.toList = s.data.toList := by unfold cutI; rw [if_neg (by omega), cut_all _ _ (by omega)]
  rw [e, ofList]
theorem cutI_in (n : Int) (s : ByteArray) (h0 : 0 ≤ n) (p : Nat) (hp : placeI n s.data.toList = (p : Int)) : s.extract 0 p = ⟨(cutI n s.data.toList).toArray⟩ := by
  have hc : n ≤ (cnt s.data.toList : Int) := by
    apply Decidable.byContradiction
    intro hc
    unfold placeI at hp
    rw [if_neg (by omega)] at hp
    omega
  have e : cutI n s.data.toList = cutL n.toNat s.data.toList := by unfold cutI; rw [if_neg (by omega)]
  have e2 : p = placeL n.toNat s.data.toList := by
    unfold placeI at hp
    rw [if_pos ⟨h0, hc⟩] at hp
    omega
  apply ByteArray.ext
  apply Array.toList_inj.1
  rw [ByteArray.data_extract, Array.toList_extract, e, cut_take, ← e2]
  simp

set_option maxRecDepth 100000 in
set_option maxHeartbeats 400000 in
/-- utf.Cut: what stands ahead of the n-th rune. -/
theorem cutF_any (s : ByteArray) (n : Int) (w : World) (hs : s.size ≤ 140737488355328) :
    Calls Try.prog 19 #[.string s, .int .i64 n] w fun e w' => e = .returned (.string ⟨(cutI n s.data.toList).toArray⟩) ∧ Below w.heap.size w w' := by
  by_cases h0 : n < 0
  · have hr : Hid (cutI n s.data.toList = []) := by unfold Hid cutI; rw [if_pos h0]
    go_enter Try.func19, Try.ntmps19
    go_wp2
    go_ret
    exact ⟨by rw [hr.out]; rfl, Below.refl _ _⟩
  · have h0' : 0 ≤ n := by omega
    have ho := cutI_out n s h0'
    have hi := cutI_in n s h0'
    have hb : placeI n s.data.toList ≤ s.size := by
      unfold placeI
      have := place_le n.toNat s.data.toList
      rw [size_list] at this
      split <;> omega
    have hpl := fun W : World => place_any s n W (by omega)
    generalize placeI n s.data.toList = p at *
    by_cases hp : p < 0
    · have Ho := Lib.hid (ho hp)
      clear ho hi
      go_enter Try.func19, Try.ntmps19
      go_wp2_with fail
      refine (hpl _).mono ?_
      rintro e w1 ⟨rfl, hb1⟩
      go_wp2_with fail
      refine (clone_any s _ hs).mono ?_
      rintro e w2 ⟨rfl, hb2⟩
      go_wp2_with fail
      go_ret
      exact ⟨ret_str (by rw [Ho.out]), hb1.trans (hb2.mono hb1.size)⟩
    · obtain ⟨q, rfl⟩ := Int.eq_ofNat_of_zero_le (show 0 ≤ p by omega)
      have Hi := Lib.hid (hi q rfl)
      clear ho hi
      go_enter Try.func19, Try.ntmps19
      go_wp2_with fail
      refine (hpl _).mono ?_
      rintro e w1 ⟨rfl, hb1⟩
      go_wp2_with fail
      refine (clone_any (s.extract 0 q) _ (by rw [ByteArray.size_extract]; omega)).mono ?_
      rintro e w2 ⟨rfl, hb2⟩
      go_wp2_with fail
      go_ret
      exact ⟨ret_str (by rw [← Hi.out]), hb1.trans (hb2.mono hb1.size)⟩
end Go.Proofs.Ytdefmeffdcpcaaa
