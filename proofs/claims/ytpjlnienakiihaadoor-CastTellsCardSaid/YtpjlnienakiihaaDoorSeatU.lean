/- The help's packets: Unsubscribe, Connect. -/
import Derived.Test.YtpjlnienakiihaaDoorSeatS0
import Derived.Test.YtpjlnienakiihaaDoorSeatCon
namespace Go.Proofs.YtpjlnienakiihaaDoor
open Go.RowKit Go.Lib
set_option linter.unusedVariables false

def unP (i : Int) (L : List (ByteArray × Int)) : Pk := { pk0 with kind := 10, id := i, subs := L }
theorem one_small {t : ByteArray} (h : t.size ≤ 4) : ∀ x ∈ [(t, (0 : Int))], x.1.size ≤ 4 ∧ i64In x.2 := by
  intro x hx; simp at hx; subst hx; exact ⟨h, i64_0⟩
theorem two_small {t t2 : ByteArray} (h : t.size ≤ 4) (h2 : t2.size ≤ 4) : ∀ x ∈ [(t, (0 : Int)), (t2, (0 : Int))], x.1.size ≤ 4 ∧ i64In x.2 := by
  intro x hx; simp at hx
  rcases hx with rfl | rfl
  · exact ⟨h, i64_0⟩
  · exact ⟨h2, i64_0⟩
theorem unP_ok (i : Int) (L : List (ByteArray × Int)) (hi : i64In i) (hL : ∀ x ∈ L, x.1.size ≤ 4 ∧ i64In x.2) (hl : L.length ≤ 3) : PkOk (unP i L) := by
  have z : ∀ n : Nat, n ≤ 60 → n ≤ 1000000 := fun n h => by omega
  exact ⟨(show i64In 10 from i64_small (by omega) (by omega)), i64_0, hi, i64_0, i64_0, i64_0, i64_0, pk0_ok.top, pk0_ok.pay, pk0_ok.cli, pk0_ok.wtop, pk0_ok.wpay, pk0_ok.user, pk0_ok.pass, z _ (show L.length ≤ 60 by omega), pk0_ok.codes, fun x hx => ⟨z _ (by have := (hL x hx).1; omega), (hL x hx).2⟩, pk0_ok.cod⟩

set_option maxRecDepth 100000 in
set_option maxHeartbeats 2000000 in
theorem seatP_uns0 (k a b c : Int) (A : Option Addr) (n cx : Nat) (l : List UInt8) (w : World) (k0 : 0 ≤ k) (k1 : k ≤ 255) (a0 : 0 ≤ a) (a1 : a ≤ 255) (b0 : 0 ≤ b) (b1 : b ≤ 255) (c0 : 0 ≤ c) (c1 : c ≤ 255) (hx : BytesAt w w.heap.size (.slice A n cx) l) (hn : n = l.length) (hl : l.length ≤ 60) (hnil : A = none → cx = 0) (h : k % 15 = 7) (h2 : c % 2 = 0) :
    Calls Tryd.prog 8 #[.int .u8 k, .int .u8 a, .int .u8 b, .int .u8 c, .slice A n cx] w (SeatPost w) := by
  clear hx hl hnil
  go_enter Tryd.func8, Tryd.ntmps8
  go_wp2_with fail
  refine (Filter_any _ _ a0 a1).mono ?_
  rintro e w1 ⟨t, rfl, ht, hbt⟩
  have r0 := heap_below hbt (heap_alloc_new w _)
  have b1' : Below w.heap.size w w1 := by (repeat (first | assumption | exact Below.refl _ _ | exact (Below.refl _ _).alloc (Nat.le_refl _) _ | (refine thn ?_ (by assumption)) | (refine alB ?_ _) | (refine dwN ?_ _) | (refine Below.drew ?_)))
  clear hbt
  go_wp2_with fail
  refine (Filter_any _ _ c0 c1).mono ?_
  rintro e w2 ⟨t2, rfl, ht2, hbt⟩
  have r1 := heap_below hbt r0
  have b2' : Below w.heap.size w w2 := by (repeat (first | assumption | exact Below.refl _ _ | exact (Below.refl _ _).alloc (Nat.le_refl _) _ | (refine thn ?_ (by assumption)) | (refine alB ?_ _) | (refine dwN ?_ _) | (refine Below.drew ?_)))
  have g2 : w.heap.size < w2.heap.size := (Array.getElem?_eq_some_iff.1 r1).1
  have R1 := Lib.hid r1
  clear hbt r0 b1' r1
  go_wp2_with ((with_reducible show wpList _ _ _ ({ dst := _, op := Op.store 28 (Operand.tmp 10) _, type := _, pos := _, after := _, guard := _ } :: _) _ _); refine stR w.heap.size _ (pkC (unP (b % 7 + 1) [(t, 0)]) (sbS (some ⟨w2.heap.size, 0, none⟩) 2)) (by rfl) (by rfl) (heap_keep R1.out) (by rfl) (by rfl) pk_sz (pk_one _ _) ?_)
  have ho : (w2.alloc (.cells #[.string t, .int .i64 0, .string t2, .int .i64 0] 58)).ownsRow (w.heap.size + 1) 58 2 (.slice (some ⟨w2.heap.size, 0, none⟩) 1 2) 1 (subCells [(t, 0)]) := ⟨rfl, .inr ⟨w2.heap.size, 2, _, rfl, g2, heap_alloc_new _ _, by decide, by decide, rfl, rfl⟩⟩
  have ho2 := own_setRow (cs := pkC (unP (b % 7 + 1) [(t, 0)]) (sbS (some ⟨w2.heap.size, 0, none⟩) 2)) ho (Nat.lt_succ_self _)
  exact bodyPost_ret (v := .agg (pkC (unP (b % 7 + 1) [(t, 0)]) (sbS (some ⟨w2.heap.size, 0, none⟩) 2))) (results_cell_row (by rfl) _ _ w.heap.size 28 _ (0, 0) _ (by rfl) (setRow_heap _ _ _ _ _ _ (heap_keep R1.out)) Tryd.underlying28 (by rfl) (by exact pk_sz)) (by rfl) ⟨_, _, rfl, ⟨(pk0_at _ _).pay, (pk0_at _ _).wpay, (pk0_at _ _).pass, ownsSubs (l := [(t, 0)]) ho2, (pk0_at _ _).codes⟩, ⟨fun _ => rfl, fun _ => rfl, fun _ => rfl, (fun e => by cases e), fun _ => rfl⟩, unP_ok _ _ (i64_small (by omega) (by omega)) (one_small ht) (by simp), below_setRow (alB b2' _) (Nat.le_refl _) _⟩

set_option maxRecDepth 100000 in
set_option maxHeartbeats 2000000 in
theorem seatP_uns1 (k a b c : Int) (A : Option Addr) (n cx : Nat) (l : List UInt8) (w : World) (k0 : 0 ≤ k) (k1 : k ≤ 255) (a0 : 0 ≤ a) (a1 : a ≤ 255) (b0 : 0 ≤ b) (b1 : b ≤ 255) (c0 : 0 ≤ c) (c1 : c ≤ 255) (hx : BytesAt w w.heap.size (.slice A n cx) l) (hn : n = l.length) (hl : l.length ≤ 60) (hnil : A = none → cx = 0) (h : k % 15 = 7) (h2 : c % 2 = 1) :
    Calls Tryd.prog 8 #[.int .u8 k, .int .u8 a, .int .u8 b, .int .u8 c, .slice A n cx] w (SeatPost w) := by
  clear hx hl hnil
  go_enter Tryd.func8, Tryd.ntmps8
  go_wp2_with fail
  refine (Filter_any _ _ a0 a1).mono ?_
  rintro e w1 ⟨t, rfl, ht, hbt⟩
  have r0 := heap_below hbt (heap_alloc_new w _)
  have b1' : Below w.heap.size w w1 := by (repeat (first | assumption | exact Below.refl _ _ | exact (Below.refl _ _).alloc (Nat.le_refl _) _ | (refine thn ?_ (by assumption)) | (refine alB ?_ _) | (refine dwN ?_ _) | (refine Below.drew ?_)))
  clear hbt
  go_wp2_with fail
  refine (Filter_any _ _ c0 c1).mono ?_
  rintro e w2 ⟨t2, rfl, ht2, hbt⟩
  have r1 := heap_below hbt r0
  have b2' : Below w.heap.size w w2 := by (repeat (first | assumption | exact Below.refl _ _ | exact (Below.refl _ _).alloc (Nat.le_refl _) _ | (refine thn ?_ (by assumption)) | (refine alB ?_ _) | (refine dwN ?_ _) | (refine Below.drew ?_)))
  have g2 : w.heap.size < w2.heap.size := (Array.getElem?_eq_some_iff.1 r1).1
  have R1 := Lib.hid r1
  clear hbt r0 b1' r1
  go_wp2_with ((with_reducible show wpList _ _ _ ({ dst := _, op := Op.store 28 (Operand.tmp 10) _, type := _, pos := _, after := _, guard := _ } :: _) _ _); refine stR w.heap.size _ (pkC (unP (b % 7 + 1) [(t, 0), (t2, 0)]) (sbS (some ⟨w2.heap.size, 0, none⟩) 2)) (by rfl) (by rfl) (heap_keep R1.out) (by rfl) (by rfl) pk_sz (pk_one _ _) ?_)
  have ho : (w2.alloc (.cells #[.string t, .int .i64 0, .string t2, .int .i64 0] 58)).ownsRow (w.heap.size + 1) 58 2 (.slice (some ⟨w2.heap.size, 0, none⟩) 2 2) 2 (subCells [(t, 0), (t2, 0)]) := ⟨rfl, .inr ⟨w2.heap.size, 2, _, rfl, g2, heap_alloc_new _ _, by decide, by decide, rfl, rfl⟩⟩
  have ho2 := own_setRow (cs := pkC (unP (b % 7 + 1) [(t, 0), (t2, 0)]) (sbS (some ⟨w2.heap.size, 0, none⟩) 2)) ho (Nat.lt_succ_self _)
  exact bodyPost_ret (v := .agg (pkC (unP (b % 7 + 1) [(t, 0), (t2, 0)]) (sbS (some ⟨w2.heap.size, 0, none⟩) 2))) (results_cell_row (by rfl) _ _ w.heap.size 28 _ (0, 0) _ (by rfl) (setRow_heap _ _ _ _ _ _ (heap_keep R1.out)) Tryd.underlying28 (by rfl) (by exact pk_sz)) (by rfl) ⟨_, _, rfl, ⟨(pk0_at _ _).pay, (pk0_at _ _).wpay, (pk0_at _ _).pass, ownsSubs (l := [(t, 0), (t2, 0)]) ho2, (pk0_at _ _).codes⟩, ⟨fun _ => rfl, fun _ => rfl, fun _ => rfl, (fun e => by cases e), fun _ => rfl⟩, unP_ok _ _ (i64_small (by omega) (by omega)) (two_small ht ht2) (by simp), below_setRow (alB b2' _) (Nat.le_refl _) _⟩

set_option maxRecDepth 100000 in
set_option maxHeartbeats 2000000 in
theorem seatP_con (k a b c : Int) (A : Option Addr) (n cx : Nat) (l : List UInt8) (w : World) (k0 : 0 ≤ k) (k1 : k ≤ 255) (a0 : 0 ≤ a) (a1 : a ≤ 255) (b0 : 0 ≤ b) (b1 : b ≤ 255) (c0 : 0 ≤ c) (c1 : c ≤ 255) (hx : BytesAt w w.heap.size (.slice A n cx) l) (hn : n = l.length) (hl : l.length ≤ 60) (hnil : A = none → cx = 0) (h : k % 15 = 13) :
    Calls Tryd.prog 8 #[.int .u8 k, .int .u8 a, .int .u8 b, .int .u8 c, .slice A n cx] w (SeatPost w) := by
  have HX := Lib.hid hx
  have HN := Lib.hid hnil
  have HE := Lib.hid hn
  clear hx hnil hn
  go_enter Tryd.func8, Tryd.ntmps8
  go_wp2_with fail
  refine (seatCon_any a b c A n cx l _ a0 a1 b0 b1 c0 c1 (HX.out.on ((Below.refl _ _).alloc (Nat.le_refl _) _)) HE.out hl HN.out).mono ?_
  rintro e w1 ⟨p, s, rfl, hat, hnl, hok, hbt⟩
  have r0 := heap_below hbt (heap_alloc_new w _)
  have b1' : Below w.heap.size w w1 := by (repeat (first | assumption | exact Below.refl _ _ | exact (Below.refl _ _).alloc (Nat.le_refl _) _ | (refine thn ?_ (by assumption)) | (refine alB ?_ _) | (refine dwN ?_ _) | (refine Below.drew ?_)))
  have R0 := Lib.hid r0
  have HH := Lib.hid (And.intro hat (And.intro hnl hok))
  clear hbt r0 hat hnl hok
  go_wp2_with ((with_reducible show wpList _ _ _ ({ dst := _, op := Op.store 28 (Operand.tmp 10) _, type := _, pos := _, after := _, guard := _ } :: _) _ _); refine stR w.heap.size _ (pkC p s) (by rfl) (by rfl) R0.out (by rfl) (by rfl) pk_sz (pk_one _ _) ?_)
  have hb : Below w.heap.size w (w1.setRow w.heap.size (pkC p s)) := below_setRow b1' (Nat.le_refl _) _
  have HX2 : BytesAt w w.heap.size (.slice A l.length cx) l := by rw [← HE.out]; exact HX.out
  exact bodyPost_ret (v := .agg (pkC p s)) (results_cell_row (by rfl) _ _ w.heap.size 28 _ (0, 0) _ (by rfl) (setRow_heap _ _ _ _ _ _ R0.out) Tryd.underlying28 (by rfl) (by exact pk_sz)) (by rfl) ⟨p, s, rfl, HH.out.1 _ _ (HX2.on hb), HH.out.2.1, HH.out.2.2, hb⟩

end Go.Proofs.YtpjlnienakiihaaDoor
