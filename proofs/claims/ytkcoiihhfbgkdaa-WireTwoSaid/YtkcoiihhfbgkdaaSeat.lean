/- The help's packets of numbers: hubbubseat.Topic, Filter, and what a packet of theirs is. -/
import Derived.Test.YtkcoiihhfbgkdaaGRead
import Derived.Test.YtkcoiihhfbgkdaaGSame2
namespace Go.Proofs.Ytkcoiihhfbgkdaa
open Go.RowKit Go.Lib
set_option linter.unusedVariables false

/-- A short text that may be. -/
abbrev Tx4 (t : ByteArray) : Prop := t.size ≤ 4 ∧ txt t = true
def TextPost (w : World) (e : Ending) (w' : World) : Prop := ∃ t : ByteArray, e = .returned (.string t) ∧ Tx4 t ∧ Below w.heap.size w w'

set_option maxRecDepth 100000 in
set_option maxHeartbeats 2000000 in
theorem Topic_any (k : Int) (w : World) (h0 : 0 ≤ k) (h1 : k ≤ 255) : Calls Try.prog 34 #[.int .u8 k] w (TextPost w) := by
  rcases (show k % 7 = 0 ∨ k % 7 = 1 ∨ k % 7 = 2 ∨ k % 7 = 3 ∨ k % 7 = 4 ∨ k % 7 = 5 ∨ k % 7 = 6 by omega) with h | h | h | h | h | h | h <;>
  (go_enter Try.func34, Try.ntmps34
   go_wp2
   go_ret
   exact ⟨_, rfl, by decide +kernel, by (repeat (first | assumption | exact Below.refl _ _ | exact (Below.refl _ _).alloc (Nat.le_refl _) _ | (refine thn ?_ (by assumption)) | (refine alB ?_ _) | (refine dwN ?_ _) | (refine Below.drew ?_)))⟩)
set_option maxRecDepth 100000 in
set_option maxHeartbeats 2000000 in
theorem Filter_any (k : Int) (w : World) (h0 : 0 ≤ k) (h1 : k ≤ 255) : Calls Try.prog 35 #[.int .u8 k] w (TextPost w) := by
  rcases (show k % 10 = 0 ∨ k % 10 = 1 ∨ k % 10 = 2 ∨ k % 10 = 3 ∨ k % 10 = 4 ∨ k % 10 = 5 ∨ k % 10 = 6 ∨ k % 10 = 7 ∨ k % 10 = 8 ∨ k % 10 = 9 by omega) with h | h | h | h | h | h | h | h | h | h <;>
  (go_enter Try.func35, Try.ntmps35
   go_wp2
   go_ret
   exact ⟨_, rfl, by decide +kernel, by (repeat (first | assumption | exact Below.refl _ _ | exact (Below.refl _ _).alloc (Nat.le_refl _) _ | (refine thn ?_ (by assumption)) | (refine alB ?_ _) | (refine dwN ?_ _) | (refine Below.drew ?_)))⟩)

/-- Of fields within their bounds, and right. -/
def GoodPk (p : Pk) : Prop := PkOk p ∧ rightP p = true
/-- A packet of small numbers and short texts. -/
def SeatPost (w : World) (e : Ending) (w' : World) : Prop :=
  ∃ (p : Pk) (s : Sv), e = .returned (pkV p s) ∧ PkAt w' w'.heap.size p s ∧ NilOk s ∧ GoodPk p ∧ Below w.heap.size w w'


theorem i64_0 : i64In 0 := ⟨by decide, by decide⟩
theorem pk0_ok : PkOk pk0 := ⟨i64_0, i64_0, i64_0, i64_0, i64_0, i64_0, i64_0, by decide, by decide, by decide, by decide, by decide, by decide, by decide, by decide, by decide, by simp [pk0], by simp [pk0]⟩
theorem ok_of (k i : Int) (t : ByteArray) (h1 : i64In k) (h2 : i64In i) (h3 : t.size ≤ 1000000) : PkOk { pk0 with kind := k, id := i, top := t } :=
  ⟨h1, i64_0, h2, i64_0, i64_0, i64_0, i64_0, h3, pk0_ok.pay, pk0_ok.cli, pk0_ok.wtop, pk0_ok.wpay, pk0_ok.user, pk0_ok.pass, pk0_ok.subs, pk0_ok.codes, pk0_ok.sub, pk0_ok.cod⟩
/-- A whole packet is stored into the block that was made last. -/
theorem stL {ops : Array Oper} {rest : List Oper} {Q : Exit → Act → World → Prop} {a : Act} {w : World} {T : TypeId} {x y : Operand} {ty : TypeId} {ps : String} {af : Array Edge}
    (g : Nat) (hw : w.heap.size = g) (old cs : Array Value) (hx : a.eval x = .pointer (some ⟨g, 0, none⟩)) (hy : a.eval y = .agg cs) (ho : old.size = 24) (hc : cs.size = 24) (hT : (Try.prog.info? T).map (·.size) = some 24) (h1 : cs.toList.all (·.oneCell') = true)
    (h : wpList Try.prog ops Q rest a (w.alloc (.cells cs T))) :
    wpList Try.prog ops Q ({ dst := none, op := .store T x y, type := ty, pos := ps, after := af, guard := none } :: rest) a (w.alloc (.cells old T)) := by
  subst hw
  refine wpList_store_rowTo rfl T x y rfl rfl w.heap.size cs hx hy T old (heap_alloc_new w _) (by rw [hc]; exact hT) (by rw [ho, hc]) (by rw [← Array.all_toList]; exact h1) ?_
  rw [World.setRow_alloc_new]; exact h
/-- .. into a row. -/
theorem stRs {ops : Array Oper} {rest : List Oper} {Q : Exit → Act → World → Prop} {a : Act} {w : World} {T : TypeId} {x y : Operand} {ty : TypeId} {ps : String} {af : Array Edge}
    (g : Nat) (old cs : Array Value) (hx : a.eval x = .pointer (some ⟨g, 0, none⟩)) (hy : a.eval y = .agg cs) (hg : w.heap[g]? = some (.cells old T (0, 0))) (ho : old.size = 24) (hc : cs.size = 24) (hT : (Try.prog.info? T).map (·.size) = some 24) (h1 : cs.toList.all (·.oneCell') = true)
    (h : wpList Try.prog ops Q rest a (w.setRow g cs)) :
    wpList Try.prog ops Q ({ dst := none, op := .store T x y, type := ty, pos := ps, after := af, guard := none } :: rest) a w :=
  wpList_store_rowTo rfl T x y rfl rfl _ cs hx hy T old hg (by rw [hc]; exact hT) (by rw [ho, hc]) (by rw [← Array.all_toList]; exact h1) h
theorem pk_one (p : Pk) (s : Sv) : (pkC p s).toList.all (·.oneCell') = true := rfl

end Go.Proofs.Ytkcoiihhfbgkdaa
