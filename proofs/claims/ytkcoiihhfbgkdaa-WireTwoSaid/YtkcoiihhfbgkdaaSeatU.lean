/- The help's packets: Unsubscribe, Connect. -/
import Derived.Test.YtkcoiihhfbgkdaaSeatS0
namespace Go.Proofs.Ytkcoiihhfbgkdaa
open Go.RowKit Go.Lib
set_option linter.unusedVariables false

def unP (i : Int) (L : List (ByteArray × Int)) : Pk := { pk0 with kind := 10, id := i, subs := L }
theorem one_small {t : ByteArray} (h : Tx4 t) : ∀ x ∈ [(t, (0 : Int))], Tx4 x.1 ∧ 0 ≤ x.2 ∧ x.2 ≤ 0 := by
  intro x hx; simp at hx; subst hx; exact ⟨h, Int.le_refl _, Int.le_refl _⟩
theorem two_small {t t2 : ByteArray} (h : Tx4 t) (h2 : Tx4 t2) : ∀ x ∈ [(t, (0 : Int)), (t2, (0 : Int))], Tx4 x.1 ∧ 0 ≤ x.2 ∧ x.2 ≤ 0 := by
  intro x hx; simp at hx
  rcases hx with rfl | rfl
  · exact ⟨h, Int.le_refl _, Int.le_refl _⟩
  · exact ⟨h2, Int.le_refl _, Int.le_refl _⟩
theorem unP_ok (i : Int) (L : List (ByteArray × Int)) (hi1 : 1 ≤ i ∧ i ≤ 65535) (hL : ∀ x ∈ L, Tx4 x.1 ∧ 0 ≤ x.2 ∧ x.2 ≤ 0) (hl : L.length ≤ 3 ∧ 0 < L.length) : GoodPk (unP i L) := by
  have z : ∀ n : Nat, n ≤ 60 → n ≤ 1000000 := fun n h => by omega
  have hi : i64In i := i64_of_id hi1
  refine ⟨?_, subs_right 10 0 i L (.inr ⟨rfl, rfl⟩) hi1 hL hl⟩
  exact ⟨(show i64In 10 from i64_small (by omega) (by omega)), i64_0, hi, i64_0, i64_0, i64_0, i64_0, pk0_ok.top, pk0_ok.pay, pk0_ok.cli, pk0_ok.wtop, pk0_ok.wpay, pk0_ok.user, pk0_ok.pass, z _ (show L.length ≤ 60 by have := hl.1; omega), pk0_ok.codes, fun x hx => ⟨z _ (by have := (hL x hx).1.1; omega), i64_of_q ⟨(hL x hx).2.1, by have := (hL x hx).2.2; omega⟩⟩, pk0_ok.cod⟩

set_option maxRecDepth 100000 in
set_option maxHeartbeats 2000000 in
theorem seatP_uns0 (k a b c : Int) (A : Option Addr) (n cx : Nat) (l : List UInt8) (w : World) (k0 : 0 ≤ k) (k1 : k ≤ 255) (a0 : 0 ≤ a) (a1 : a ≤ 255) (b0 : 0 ≤ b) (b1 : b ≤ 255) (c0 : 0 ≤ c) (c1 : c ≤ 255) (hx : BytesAt w w.heap.size (.slice A n cx) l) (hn : n = l.length) (hl : l.length ≤ 60) (hnil : A = none → cx = 0) (h : k % 15 = 7) (h2 : c % 2 = 0) :
    Calls Try.prog 15 #[.int .u8 k, .int .u8 a, .int .u8 b, .int .u8 c, .slice A n cx] w (SeatPost w) := by
  clear hx hl hnil
  go_enter Try.func15, Try.ntmps15
  go_wp2_with fail
  refine (Filter_any _ _ a0 a1).mono ?_
  rintro e w1 ⟨t, rfl, ht, hbt⟩
  have r0 := heap_below hbt (heap_alloc_new w _)
  have b1' : Below w.heap.size w w1 := by (repeat (first | assumption | exact Below.refl _ _ | exact (Below.refl _ _).alloc (Nat.le_refl _) _ | (refine thn ?_ (by assumption)) | (refine alB ?_ _) | (refine dwN ?_ _) | (refine Below.drew ?_)))
  clear hbt
  go_wp2_with fail
  refine (Filter_any _ _ c0 c1).mono ?_
  rintro e w2 ⟨t2, rfl, ht2, hbt⟩
  have r1 := heap_below hbt r0
  have b2' : Below w.heap.size w w2 := by (repeat (first | assumption | exact Below.refl _ _ | exact (Below.refl _ _).alloc (Nat.le_refl _) _ | (refine thn ?_ (by assumption)) | (refine alB ?_ _) | (refine dwN ?_ _) | (refine Below.drew ?_)))
  have g2 : w.heap.size < w2.heap.size := (Array.getElem?_eq_some_iff.1 r1).1
  have R1 := Lib.hid r1
  clear hbt r0 b1' r1
  go_wp2_with ((with_reducible show wpList _ _ _ ({ dst := _, op := Op.store 28 (Operand.tmp 10) _, type := _, pos := _, after := _, guard := _ } :: _) _ _); refine stRs w.heap.size _ (pkC (unP (b % 7 + 1) [(t, 0)]) (sbS (some ⟨w2.heap.size, 0, none⟩) 2)) (by rfl) (by rfl) (heap_keep R1.out) (by rfl) (by rfl) pk_sz (pk_one _ _) ?_)
  have ho : (w2.alloc (.cells #[.string t, .int .i64 0, .string t2, .int .i64 0] 70)).ownsRow (w.heap.size + 1) 70 2 (.slice (some ⟨w2.heap.size, 0, none⟩) 1 2) 1 (subCells [(t, 0)]) := ⟨rfl, .inr ⟨w2.heap.size, 2, _, rfl, g2, heap_alloc_new _ _, by decide, by decide, rfl, rfl⟩⟩
  have ho2 := own_setRow (cs := pkC (unP (b % 7 + 1) [(t, 0)]) (sbS (some ⟨w2.heap.size, 0, none⟩) 2)) ho (Nat.lt_succ_self _)
  exact bodyPost_ret (v := .agg (pkC (unP (b % 7 + 1) [(t, 0)]) (sbS (some ⟨w2.heap.size, 0, none⟩) 2))) (results_cell_row (by rfl) _ _ w.heap.size 28 _ (0, 0) _ (by rfl) (setRow_heap _ _ _ _ _ _ (heap_keep R1.out)) Try.underlying28 (by rfl) (by exact pk_sz)) (by rfl) ⟨_, _, rfl, ⟨(pk0_at _ _).pay, (pk0_at _ _).wpay, (pk0_at _ _).pass, ownsSubs (l := [(t, 0)]) ho2, (pk0_at _ _).codes⟩, ⟨fun _ => rfl, fun _ => rfl, fun _ => rfl⟩, unP_ok _ _ (by omega) (one_small ht) (by simp), below_setRow (alB b2' _) (Nat.le_refl _) _⟩

set_option maxRecDepth 100000 in
set_option maxHeartbeats 2000000 in
theorem seatP_uns1 (k a b c : Int) (A : Option Addr) (n cx : Nat) (l : List UInt8) (w : World) (k0 : 0 ≤ k) (k1 : k ≤ 255) (a0 : 0 ≤ a) (a1 : a ≤ 255) (b0 : 0 ≤ b) (b1 : b ≤ 255) (c0 : 0 ≤ c) (c1 : c ≤ 255) (hx : BytesAt w w.heap.size (.slice A n cx) l) (hn : n = l.length) (hl : l.length ≤ 60) (hnil : A = none → cx = 0) (h : k % 15 = 7) (h2 : c % 2 = 1) :
    Calls Try.prog 15 #[.int .u8 k, .int .u8 a, .int .u8 b, .int .u8 c, .slice A n cx] w (SeatPost w) := by
  clear hx hl hnil
  go_enter Try.func15, Try.ntmps15
  go_wp2_with fail
  refine (Filter_any _ _ a0 a1).mono ?_
  rintro e w1 ⟨t, rfl, ht, hbt⟩
  have r0 := heap_below hbt (heap_alloc_new w _)
  have b1' : Below w.heap.size w w1 := by (repeat (first | assumption | exact Below.refl _ _ | exact (Below.refl _ _).alloc (Nat.le_refl _) _ | (refine thn ?_ (by assumption)) | (refine alB ?_ _) | (refine dwN ?_ _) | (refine Below.drew ?_)))
  clear hbt
  go_wp2_with fail
  refine (Filter_any _ _ c0 c1).mono ?_
  rintro e w2 ⟨t2, rfl, ht2, hbt⟩
  have r1 := heap_below hbt r0
  have b2' : Below w.heap.size w w2 := by (repeat (first | assumption | exact Below.refl _ _ | exact (Below.refl _ _).alloc (Nat.le_refl _) _ | (refine thn ?_ (by assumption)) | (refine alB ?_ _) | (refine dwN ?_ _) | (refine Below.drew ?_)))
  have g2 : w.heap.size < w2.heap.size := (Array.getElem?_eq_some_iff.1 r1).1
  have R1 := Lib.hid r1
  clear hbt r0 b1' r1
  go_wp2_with ((with_reducible show wpList _ _ _ ({ dst := _, op := Op.store 28 (Operand.tmp 10) _, type := _, pos := _, after := _, guard := _ } :: _) _ _); refine stRs w.heap.size _ (pkC (unP (b % 7 + 1) [(t, 0), (t2, 0)]) (sbS (some ⟨w2.heap.size, 0, none⟩) 2)) (by rfl) (by rfl) (heap_keep R1.out) (by rfl) (by rfl) pk_sz (pk_one _ _) ?_)
  have ho : (w2.alloc (.cells #[.string t, .int .i64 0, .string t2, .int .i64 0] 70)).ownsRow (w.heap.size + 1) 70 2 (.slice (some ⟨w2.heap.size, 0, none⟩) 2 2) 2 (subCells [(t, 0), (t2, 0)]) := ⟨rfl, .inr ⟨w2.heap.size, 2, _, rfl, g2, heap_alloc_new _ _, by decide, by decide, rfl, rfl⟩⟩
  have ho2 := own_setRow (cs := pkC (unP (b % 7 + 1) [(t, 0), (t2, 0)]) (sbS (some ⟨w2.heap.size, 0, none⟩) 2)) ho (Nat.lt_succ_self _)
  exact bodyPost_ret (v := .agg (pkC (unP (b % 7 + 1) [(t, 0), (t2, 0)]) (sbS (some ⟨w2.heap.size, 0, none⟩) 2))) (results_cell_row (by rfl) _ _ w.heap.size 28 _ (0, 0) _ (by rfl) (setRow_heap _ _ _ _ _ _ (heap_keep R1.out)) Try.underlying28 (by rfl) (by exact pk_sz)) (by rfl) ⟨_, _, rfl, ⟨(pk0_at _ _).pay, (pk0_at _ _).wpay, (pk0_at _ _).pass, ownsSubs (l := [(t, 0), (t2, 0)]) ho2, (pk0_at _ _).codes⟩, ⟨fun _ => rfl, fun _ => rfl, fun _ => rfl⟩, unP_ok _ _ (by omega) (two_small ht ht2) (by simp), below_setRow (alB b2' _) (Nat.le_refl _) _⟩

end Go.Proofs.Ytkcoiihhfbgkdaa
