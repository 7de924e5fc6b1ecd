/- Any, Packet, Name. -/
import Derived.Test.YtpjlnienakiihaaDoorCast6
namespace Go.Proofs.YtpjlnienakiihaaDoor
open Go.RowKit Go.Lib

/-- What Any hands back. -/
def AnyPost (w : World) (p : Pk) (e : Ending) (w' : World) : Prop :=
  ∃ s' : Sv, e = .returned (wrapV p s') ∧ PkOwn w' w.heap.size p s' ∧ Below w.heap.size w w'
set_option maxRecDepth 100000 in
set_option maxHeartbeats 1000000 in
theorem Any_any (p : Pk) (s : Sv) (B : Nat) (w : World) (hp : PkAt w B p s) (hB : B ≤ w.heap.size) (ok : PkOk p) (hn : NilOk s) :
    Calls Tryd.prog 9 #[pkV p s] w (AnyPost w p) := by
  have HP := Lib.hid hp
  have HN := Lib.hid hn
  have OK := Lib.hid ok
  clear hp hn ok
  go_enter Tryd.func9, Tryd.ntmps9
  go_wp2_with ((with_reducible show wpList _ _ _ ({ dst := _, op := Op.load 28 _, type := _, pos := _, after := _, guard := _ } :: _) _ _); refine ld_pk (w.heap.size) (by rfl) (by rfl) _ _ _ (by (first | assumption | exact heap_alloc_last _ _ | (repeat (first | assumption | exact heap_alloc_last _ _ | exact heap_last2 _ _ _ | refine heap_keep ?_ | refine heap_below (by assumption) ?_)))) (by rfl) ?_)
  refine (copied_any p s B _ (HP.out.to hB (by (repeat (first | assumption | exact Below.refl _ _ | exact (Below.refl _ _).alloc (Nat.le_refl _) _ | (refine thn ?_ (by assumption)) | (refine alB ?_ _) | (refine dwN ?_ _) | (refine Below.drew ?_))))) (by simp; omega) OK.out HN.out).mono ?_
  rintro e w' ⟨s', rfl, ho, hb⟩
  have b1 : Below w.heap.size w w' := by (repeat (first | assumption | exact Below.refl _ _ | exact (Below.refl _ _).alloc (Nat.le_refl _) _ | (refine thn ?_ (by assumption)) | (refine alB ?_ _) | (refine dwN ?_ _) | (refine Below.drew ?_)))
  have h1 : PkOwn w' w.heap.size p s' := ho.mono (by simp)
  clear ho hb
  go_wp2_with fail
  refine (wrap_any p s' _).mono ?_
  rintro e w2 ⟨rfl, hb2⟩
  go_wp2_with fail
  go_ret
  exact ⟨s', rfl, h1.below hb2, by (repeat (first | assumption | exact Below.refl _ _ | exact (Below.refl _ _).alloc (Nat.le_refl _) _ | (refine thn ?_ (by assumption)) | (refine alB ?_ _) | (refine dwN ?_ _) | (refine Below.drew ?_)))⟩

/-- What Packet hands back. -/
def PacketPost (w : World) (p : Pk) (f : Int) (e : Ending) (w' : World) : Prop :=
  ∃ s' : Sv, e = .returned (.tuple #[pkV p s', .bool (f != 5)]) ∧ PkOwn w' w.heap.size p s' ∧ Below w.heap.size w w'
set_option maxRecDepth 100000 in
set_option maxHeartbeats 1000000 in
theorem Packet_of (x : Value) (f : Int) (p : Pk) (s : Sv) (B : Nat) (w : World) (h : ∀ W, Calls Tryd.prog 22 #[x] W fun e w' => e = .returned (.tuple #[pkV p s, .int .i64 f]) ∧ Below W.heap.size W w')
    (hp : PkAt w B p s) (hB : B ≤ w.heap.size) (ok : PkOk p) (hn : NilOk s) :
    Calls Tryd.prog 10 #[x] w (PacketPost w p f) := by
  have HP := Lib.hid hp
  have HN := Lib.hid hn
  have OK := Lib.hid ok
  have H := Lib.hid h
  clear hp hn ok h
  go_enter Tryd.func10, Tryd.ntmps10
  go_wp2_with fail
  refine (H.out _).mono ?_
  rintro e w1 ⟨rfl, hb⟩
  have r1 := heap_below hb (heap_alloc_new w _)
  have b1 : Below w.heap.size w w1 := by (repeat (first | assumption | exact Below.refl _ _ | exact (Below.refl _ _).alloc (Nat.le_refl _) _ | (refine thn ?_ (by assumption)) | (refine alB ?_ _) | (refine dwN ?_ _) | (refine Below.drew ?_)))
  clear hb
  go_wp2_with (first
    | ((with_reducible show wpList _ _ _ ({ dst := _, op := Op.store 28 _ _, type := _, pos := _, after := _, guard := _ } :: _) _ _); refine stL w1.heap.size (by rfl) _ (pkC p s) (by rfl) (by rfl) (by rfl) (by rfl) pk_sz (pk_one p s) ?_)
    | ((with_reducible show wpList _ _ _ ({ dst := _, op := Op.load 28 _, type := _, pos := _, after := _, guard := _ } :: _) _ _); refine ld_pk w1.heap.size (by rfl) (by rfl) (pkC p s) _ _ (heap_alloc_new _ _) (by rfl) ?_))
  refine (copied_any p s B _ (HP.out.to hB (by (repeat (first | assumption | exact Below.refl _ _ | exact (Below.refl _ _).alloc (Nat.le_refl _) _ | (refine thn ?_ (by assumption)) | (refine alB ?_ _) | (refine dwN ?_ _) | (refine Below.drew ?_))))) (by have := b1.size; first | (simp; done) | (simp; omega)) OK.out HN.out).mono ?_
  rintro e w2 ⟨s', rfl, ho, hb⟩
  have r2 := heap_below hb (heap_keep r1)
  have b2 : Below w.heap.size w w2 := by (repeat (first | assumption | exact Below.refl _ _ | exact (Below.refl _ _).alloc (Nat.le_refl _) _ | (refine thn ?_ (by assumption)) | (refine alB ?_ _) | (refine dwN ?_ _) | (refine Below.drew ?_)))
  have g1 : w.heap.size < w1.heap.size := (Array.getElem?_eq_some_iff.1 r1).1
  have h1 : PkOwn w2 w1.heap.size p s' := ho.mono (by simp)
  clear ho hb r1
  go_wp2_with ((with_reducible show wpList _ _ _ ({ dst := _, op := Op.store 28 _ _, type := _, pos := _, after := _, guard := _ } :: _) _ _); refine stR w.heap.size _ (pkC p s') (by rfl) (by rfl) r2 (by rfl) (by rfl) pk_sz (pk_one p s') ?_)
  exact bodyPost_ret (v := .tuple #[.agg (pkC p s'), .bool (f != 5)]) (results_row_tmp (by rfl) _ _ w.heap.size 28 _ (0, 0) _ _ (by rfl) (by rfl) (setRow_heap _ _ _ _ _ _ r2) Tryd.underlying28 (by exact pk_sz)) rfl ⟨s', rfl, (h1.setRow g1).mono (by omega), below_setRow b2 (Nat.le_refl _) _⟩

/-- What a form is called. -/
def nameB (f : Int) : ByteArray :=
  if f == 0 then ⟨#[103, 114, 101, 101, 116, 105, 110, 103]⟩ else if f == 1 then ⟨#[109, 101, 115, 115, 97, 103, 101]⟩ else if f == 2 then ⟨#[97, 99, 107]⟩ else if f == 3 then ⟨#[97, 115, 107]⟩ else if f == 4 then ⟨#[115, 105, 103, 110, 97, 108]⟩ else ⟨#[110, 111, 110, 101]⟩
/-- The names lie where the program laid them. -/
structure NamesAt (w : World) : Prop where
  n0 : w.cell? ⟨0, 0, none⟩ = some (.string ⟨#[103, 114, 101, 101, 116, 105, 110, 103]⟩)
  n1 : w.cell? ⟨0, 1, none⟩ = some (.string ⟨#[109, 101, 115, 115, 97, 103, 101]⟩)
  n2 : w.cell? ⟨0, 2, none⟩ = some (.string ⟨#[97, 99, 107]⟩)
  n3 : w.cell? ⟨0, 3, none⟩ = some (.string ⟨#[97, 115, 107]⟩)
  n4 : w.cell? ⟨0, 4, none⟩ = some (.string ⟨#[115, 105, 103, 110, 97, 108]⟩)
  n5 : w.cell? ⟨0, 5, none⟩ = some (.string ⟨#[110, 111, 110, 101]⟩)
theorem NamesAt.pos {w : World} (h : NamesAt w) : 0 < w.heap.size := World.block_lt_of_cell? _ _ h.n0
theorem NamesAt.below {w w' : World} (h : NamesAt w) {B : Nat} (h0 : 0 < B) (hb : Below B w w') : NamesAt w' :=
  ⟨by rw [hb.cell (p := ⟨0, 0, none⟩) h0]; exact h.n0, by rw [hb.cell (p := ⟨0, 1, none⟩) h0]; exact h.n1, by rw [hb.cell (p := ⟨0, 2, none⟩) h0]; exact h.n2, by rw [hb.cell (p := ⟨0, 3, none⟩) h0]; exact h.n3, by rw [hb.cell (p := ⟨0, 4, none⟩) h0]; exact h.n4, by rw [hb.cell (p := ⟨0, 5, none⟩) h0]; exact h.n5⟩
theorem NamesAt.on {w w' : World} (h : NamesAt w) (hb : Below w.heap.size w w') : NamesAt w' := h.below h.pos hb

set_option maxRecDepth 100000 in
set_option maxHeartbeats 2000000 in
theorem Name_of (x : Value) (f : Int) (cs : Array Value) (hcs : cs.size = 24) (h1 : cs.toList.all (·.oneCell') = true) (w : World) (hN : NamesAt w) (h : ∀ W, Calls Tryd.prog 22 #[x] W fun e w' => e = .returned (.tuple #[.agg cs, .int .i64 f]) ∧ Below W.heap.size W w')
    (hf : f = 0 ∨ f = 1 ∨ f = 2 ∨ f = 3 ∨ f = 4 ∨ f = 5) :
    Calls Tryd.prog 13 #[x] w fun e w' => e = .returned (.string (nameB f)) ∧ Below w.heap.size w w' := by
  have H := Lib.hid h
  have HN := Lib.hid hN
  have HC := Lib.hid hcs
  clear h hN hcs
  rcases hf with rfl | rfl | rfl | rfl | rfl | rfl <;>
  (go_enter Tryd.func13, Tryd.ntmps13
   go_wp2_with fail
   refine (H.out _).mono ?_
   rintro e w1 ⟨rfl, hb⟩
   obtain ⟨n0, n1, n2, n3, n4, n5⟩ := HN.out.on (alB hb (.cells cs 28))
   have hp := HN.out.pos
   have hs := hb.size
   go_wp2_with ((with_reducible show wpList _ _ _ ({ dst := _, op := Op.store 28 _ _, type := _, pos := _, after := _, guard := _ } :: _) _ _); refine stL w1.heap.size (by rfl) _ cs (by rfl) (by rfl) (by rfl) HC.out pk_sz h1 ?_)
   go_ret
   exact ⟨rfl, by (repeat (first | assumption | exact Below.refl _ _ | exact (Below.refl _ _).alloc (Nat.le_refl _) _ | (refine thn ?_ (by assumption)) | (refine alB ?_ _) | (refine dwN ?_ _) | (refine Below.drew ?_)))⟩)

end Go.Proofs.YtpjlnienakiihaaDoor
