/- bytes.Clone, slices.Clone of filters and of numbers: a row of the call's own with the same cells. -/
import Derived.Test.YtpjlnienakiihaaDoorPkt
import Derived.Maps.AppendAt
import Derived.Lib.SliceRun
namespace Go.Proofs.YtpjlnienakiihaaDoor
open Go.RowKit Go.Lib

/-- What a call that copies a row hands back. -/
def RowPost (E : TypeId) (size : Nat) (w : World) (n : Nat) (xs : List Value) (e : Ending) (w' : World) : Prop :=
  ∃ (A : Option Addr) (c : Nat), e = .returned (.slice A n c) ∧ w'.ownsRow w.heap.size E size (.slice A n c) n xs ∧ Below w.heap.size w w'
/-- A slice value with these cells behind it. -/
structure CellsAt (w : World) (size : Nat) (A : Option Addr) (n : Nat) (xs : List Value) : Prop where
  len : xs.length = n * size
  nil : A = none → n = 0
  cells : ∀ ad, A = some ad → ∀ j u, xs[j]? = some u → w.cell? (ad.add j) = some u
  one : ∀ u ∈ xs, u.oneCell' = true
theorem own_empty (w : World) (E : TypeId) (size : Nat) : (w.alloc (.cells #[] E)).ownsRow w.heap.size E size (.slice (some ⟨w.heap.size, 0, none⟩) 0 0) 0 [] :=
  ⟨by simp, .inr ⟨w.heap.size, 0, #[], rfl, Nat.le_refl _, heap_alloc_last _ _, Nat.le_refl _, by simp, by simp, by simp⟩⟩
theorem CellsAt.alloc {w : World} {size n : Nat} {A : Option Addr} {xs : List Value} (h : CellsAt w size A n xs) (o : Obj) : CellsAt (w.alloc o) size A n xs :=
  ⟨h.len, h.nil, fun ad had j u hj => by
    have := h.cells ad had j u hj
    rw [((Below.refl w.heap.size w).alloc (Nat.le_refl _) o).cell (p := ad.add j) (World.block_lt_of_cell? _ _ this)]; exact this, h.one⟩
theorem Tryd.infoU8 : (Tryd.prog.info? 5).map (fun i => (i.zero, i.size, i.bytes)) = some (some (.int .u8 0), 1, 1) := by kernel_rfl
theorem Tryd.infoInt : (Tryd.prog.info? 3).map (fun i => (i.zero, i.size, i.bytes)) = some (some (.int .i64 0), 1, 8) := by kernel_rfl
theorem Tryd.infoSub : (Tryd.prog.info? 58).map (fun i => (i.zero, i.size, i.bytes)) = some (some (.agg #[.string ByteArray.empty, .int .i64 0]), 2, 24) := by kernel_rfl

set_option maxRecDepth 100000 in
set_option maxHeartbeats 2000000 in
theorem cloneU8 (A : Option Addr) (c n : Nat) (xs : List Value) (w : World) (h : CellsAt w 1 A n xs) (hn : n ≤ 10000000) (hz : A = none → c = 0) :
    Calls Tryd.prog 28 #[.slice A n c] w (RowPost 5 1 w n xs) := by
  have qT : ∀ (w : World) (a : Option Addr) (n c n' c' : Nat), (binOp .eql 22 (.slice a n c) (.slice none n' c')).run Tryd.prog w = .ok (.bool a.isNone) w := fun w a n c n' c' => Lib.run_eql_slice_nil w _ _ a n c n' c' Tryd.underlying22
  cases A with
  | none =>
    have e := h.nil rfl; subst e
    have e := hz rfl; subst e
    have e : xs = [] := List.eq_nil_of_length_eq_zero (by simp [h.len])
    subst e
    clear h
    go_enter Tryd.func28, Tryd.ntmps28
    go_wp2
    go_ret
    exact ⟨none, 0, rfl, World.ownsRow_nil _ _ _ _, Below.refl _ _⟩
  | some ad =>
    have H := Lib.hid (h.alloc (.cells #[] 5))
    have hx := h.len
    clear h
    obtain ⟨i0, hi, hz0, hz1, hz2⟩ := info_parts Tryd.infoU8
    go_enter Tryd.func28, Tryd.ntmps28
    go_wp2_with (at_builtin; go_must (refine wpList_append_own_at _ rfl _ _ 22 rfl w.heap.size 5 i0 _ 1 1 Tryd.underlying22 hi hz0 hz1 hz2 rfl (by decide) _ 0 [] (by rfl) (own_empty w 5 1) ad n c xs (by rfl) (by rw [hx]) (H.out.cells ad rfl) H.out.one (by unfold maxLen; omega) (by omega) (by simp) ?_))
    intro v' w' h2 h3 h4 h5
    rcases h2.2 with ⟨e, _⟩ | ⟨g', cap', cur', hv', _⟩
    · exact absurd e h4
    subst hv'
    go_wp2_with fail
    go_ret
    exact ⟨_, _, rfl, h2, ((Below.refl _ _).alloc (Nat.le_refl _) _).grown h3 (by simp) (by intro k hk; simp [Value.ownBlock] at hk; omega)⟩

set_option maxRecDepth 100000 in
set_option maxHeartbeats 2000000 in
theorem cloneInt (A : Option Addr) (c n : Nat) (xs : List Value) (w : World) (h : CellsAt w 1 A n xs) (hn : n ≤ 10000000) (hz : A = none → c = 0) :
    Calls Tryd.prog 30 #[.slice A n c] w (RowPost 3 1 w n xs) := by
  have qT : ∀ (w : World) (a : Option Addr) (n c n' c' : Nat), (binOp .eql 26 (.slice a n c) (.slice none n' c')).run Tryd.prog w = .ok (.bool a.isNone) w := fun w a n c n' c' => Lib.run_eql_slice_nil w _ _ a n c n' c' Tryd.underlying26
  cases A with
  | none =>
    have e := h.nil rfl; subst e
    have e := hz rfl; subst e
    have e : xs = [] := List.eq_nil_of_length_eq_zero (by simp [h.len])
    subst e
    clear h
    go_enter Tryd.func30, Tryd.ntmps30
    go_wp2
    go_ret
    exact ⟨none, 0, rfl, World.ownsRow_nil _ _ _ _, Below.refl _ _⟩
  | some ad =>
    have H := Lib.hid (h.alloc (.cells #[] 3))
    have hx := h.len
    clear h
    obtain ⟨i0, hi, hz0, hz1, hz2⟩ := info_parts Tryd.infoInt
    go_enter Tryd.func30, Tryd.ntmps30
    go_wp2_with (at_builtin; go_must (refine wpList_append_own_at _ rfl _ _ 26 rfl w.heap.size 3 i0 _ 1 8 Tryd.underlying26 hi hz0 hz1 hz2 rfl (by decide) _ 0 [] (by rfl) (own_empty w 3 1) ad n c xs (by rfl) (by rw [hx]) (H.out.cells ad rfl) H.out.one (by unfold maxLen; omega) (by omega) (by simp) ?_))
    intro v' w' h2 h3 h4 h5
    rcases h2.2 with ⟨e, _⟩ | ⟨g', cap', cur', hv', _⟩
    · exact absurd e h4
    subst hv'
    go_wp2_with fail
    go_ret
    exact ⟨_, _, rfl, h2, ((Below.refl _ _).alloc (Nat.le_refl _) _).grown h3 (by simp) (by intro k hk; simp [Value.ownBlock] at hk; omega)⟩

set_option maxRecDepth 100000 in
set_option maxHeartbeats 2000000 in
theorem cloneSub (A : Option Addr) (c n : Nat) (xs : List Value) (w : World) (h : CellsAt w 2 A n xs) (hn : n ≤ 10000000) (hz : A = none → c = 0) :
    Calls Tryd.prog 29 #[.slice A n c] w (RowPost 58 2 w n xs) := by
  have qT : ∀ (w : World) (a : Option Addr) (n c n' c' : Nat), (binOp .eql 25 (.slice a n c) (.slice none n' c')).run Tryd.prog w = .ok (.bool a.isNone) w := fun w a n c n' c' => Lib.run_eql_slice_nil w _ _ a n c n' c' Tryd.underlying25
  cases A with
  | none =>
    have e := h.nil rfl; subst e
    have e := hz rfl; subst e
    have e : xs = [] := List.eq_nil_of_length_eq_zero (by simp [h.len])
    subst e
    clear h
    go_enter Tryd.func29, Tryd.ntmps29
    go_wp2
    go_ret
    exact ⟨none, 0, rfl, World.ownsRow_nil _ _ _ _, Below.refl _ _⟩
  | some ad =>
    have H := Lib.hid (h.alloc (.cells #[] 58))
    have hx := h.len
    clear h
    obtain ⟨i0, hi, hz0, hz1, hz2⟩ := info_parts Tryd.infoSub
    go_enter Tryd.func29, Tryd.ntmps29
    go_wp2_with (at_builtin; go_must (refine wpList_append_own_at _ rfl _ _ 25 rfl w.heap.size 58 i0 _ 2 24 Tryd.underlying25 hi hz0 hz1 hz2 rfl (by decide) _ 0 [] (by rfl) (own_empty w 58 2) ad n c xs (by rfl) (by rw [hx]) (H.out.cells ad rfl) H.out.one (by unfold maxLen; omega) (by omega) (by simp) ?_))
    intro v' w' h2 h3 h4 h5
    rcases h2.2 with ⟨e, _⟩ | ⟨g', cap', cur', hv', _⟩
    · exact absurd e h4
    subst hv'
    go_wp2_with fail
    go_ret
    exact ⟨_, _, rfl, h2, ((Below.refl _ _).alloc (Nat.le_refl _) _).grown h3 (by simp) (by intro k hk; simp [Value.ownBlock] at hk; omega)⟩

end Go.Proofs.YtpjlnienakiihaaDoor
