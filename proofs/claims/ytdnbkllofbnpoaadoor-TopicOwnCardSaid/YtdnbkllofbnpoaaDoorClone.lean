/- What strings.Clone comes to. -/
import Derived.Test.YtdnbkllofbnpoaaDoorBase
import Derived.Lib.BufferWrite
import Derived.Laws.Cover4
namespace Go.Proofs.YtdnbkllofbnpoaaDoor
open Go.RowKit Go.Lib

theorem Tryd.size5 : (Tryd.prog.info? 5).map (·.size) = some 1 := by kernel_rfl
theorem Tryd.cells5 : Tryd.prog.cellsOf 5 = 1 := by kernel_rfl


/-- The three steps of Clone: a new row, the bytes copied, the string over it. -/
theorem clone_runs (s : ByteArray) (w : World) (h0 : 0 < s.size) (hs : s.size ≤ 140737488355328) :
    ∃ W1 W2 W3, ((Instr.makeSlice 22 (.int .i64 (s.size : Int)) (.int .i64 (s.size : Int))).run Tryd.prog w = .ok (.slice (some ⟨w.heap.size, 0, none⟩) s.size s.size) W1) ∧
      (∀ ty, (Builtin.copy_ #[22, 9] ty #[.slice (some ⟨w.heap.size, 0, none⟩) s.size s.size, .string s]).run Tryd.prog W1 = .ok (.int .i64 s.size) W2) ∧
      (∀ ty, (Builtin.unsafeString_ #[43, 3] ty #[.pointer (some ⟨w.heap.size, 0, none⟩), .int .i64 (s.size : Int)]).run Tryd.prog W2 = .ok (.string s) W3) ∧ Below w.heap.size w W3 := by
  obtain ⟨i0, hi, hz0, hz1, hz2⟩ := info_parts Tryd.info5
  have hm := run_make (P := Tryd.prog) w 22 5 i0 _ Tryd.underlying22 hi hz0 .i64 .i64 (s.size : Int) (s.size : Int) (by omega) (by omega) (by rw [hz2]; omega) (by omega)
  simp only [Int.toNat_natCast] at hm
  have hC : (madeCells (Value.int .u8 0).cells (s.size * i0.size)).size = s.size := by rw [hz1]; simp [madeCells]
  generalize madeCells (Value.int .u8 0).cells (s.size * i0.size) = C at *
  obtain ⟨D, hD⟩ : ∃ D, D = (C.toList.take 0 ++ byteCells s.data.toList ++ C.toList.drop (0 + s.size)).toArray := ⟨_, rfl⟩
  have hcp : ∀ ty, (Builtin.copy_ #[22, 9] ty #[.slice (some ⟨w.heap.size, 0, none⟩) s.size s.size, .string s]).run Tryd.prog (w.alloc (.cells C 5)) = .ok (.int .i64 s.size) ((w.alloc (.cells C 5)).setRow w.heap.size D) := fun ty => by
    have h := run_copy_row_string (P := Tryd.prog) (w.alloc (.cells C 5)) 22 9 ty 5 w.heap.size 0 s.size s.size s C 5 Tryd.underlying22 Tryd.size5 (heap_alloc_new w _) (Nat.le_refl _) (by omega)
    rw [← hD] at h
    exact h
  have hDs : D.size = s.size := by rw [hD]; simp [byteCells]; omega
  have hDj : ∀ (j : Nat) (x : UInt8), s.data.toList[j]? = some x → D[j]? = some (Value.int .u8 (x.toNat : Int)) := by
    intro j x hj
    have hjl : j < s.data.toList.length := (List.getElem?_eq_some_iff.1 hj).1
    rw [hD, List.getElem?_toArray, List.take_zero, List.nil_append, List.getElem?_append_left (by simpa [byteCells] using hjl)]
    unfold byteCells
    rw [List.getElem?_map, hj]
    rfl
  have hrow := setRow_heap (w.alloc (.cells C 5)) w.heap.size _ D _ _ (heap_alloc_new w _)
  generalize hW : (w.alloc (.cells C 5)).setRow w.heap.size D = W2 at *
  refine ⟨_, W2, W2.freeze ⟨w.heap.size, 0, none⟩ s.size, hm, hcp, fun ty => ?_, ?_⟩
  · have hr := run_unsafeString_row (P := Tryd.prog) W2 43 3 ty 5 Tryd.underlying43 Tryd.cells5 w.heap.size s.size (by unfold World.shape?; rw [hrow]; simp [hDs]) s.data.toList (by intro e; have := size_list s; rw [e] at this; simp at this; omega) (by rw [size_list]; exact Nat.le_refl _) (by rw [size_list]; omega)
      (by
        intro j x hj
        unfold World.cell?
        rw [show (Addr.add ⟨w.heap.size, 0, none⟩ j) = ⟨w.heap.size, j, none⟩ by simp [Addr.add]; exact fun h => h.symm, hrow]
        exact hDj j x hj)
    rw [ofList, size_list] at hr
    exact hr
  · rw [← hW]
    exact below_freeze (below_setRow ((Below.refl _ _).alloc (Nat.le_refl _) _) (Nat.le_refl _) _) (Nat.le_refl _) _

set_option maxRecDepth 100000 in
set_option maxHeartbeats 400000 in
/-- strings.Clone: the string itself. -/
theorem clone_any (s : ByteArray) (w : World) (hs : s.size ≤ 140737488355328) :
    Calls Tryd.prog 29 #[.string s] w fun e w' => e = .returned (.string s) ∧ Below w.heap.size w w' := by
  by_cases h0 : 0 < s.size
  · obtain ⟨W1, W2, W3, r1, r2, r3, hb⟩ := clone_runs s w h0 hs
    have hne : ((s.size : Int) == 0) = false := beq_eq_false_iff_ne.2 (by omega)
    go_enter Tryd.func29, Tryd.ntmps29
    go_wp2
    go_ret
    exact ⟨rfl, hb⟩
  · have he : s = ByteArray.empty := by
      have h : s.size = 0 := by omega
      apply ByteArray.ext
      exact Array.eq_empty_of_size_eq_zero h
    subst he
    go_enter Tryd.func29, Tryd.ntmps29
    go_wp2
    go_ret
    exact ⟨rfl, Below.refl _ _⟩
end Go.Proofs.YtdnbkllofbnpoaaDoor
