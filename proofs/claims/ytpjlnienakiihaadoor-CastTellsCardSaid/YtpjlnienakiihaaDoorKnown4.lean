/- The law's known answers. -/
import Derived.Test.YtpjlnienakiihaaDoorCast8
namespace Go.Proofs.YtpjlnienakiihaaDoor
open Go.RowKit Go.Lib

def pkA : Pk := { pk0 with kind := 3, top := ⟨#[97]⟩ }
def pkB : Pk := { pk0 with kind := 12 }
def pkD : Pk := { pk0 with kind := 4, id := 3 }
def pkE : Pk := { pk0 with id := 4 }
theorem ok_of (k i : Int) (t : ByteArray) (h1 : i64In k) (h2 : i64In i) (h3 : t.size ≤ 1000000) : PkOk { pk0 with kind := k, id := i, top := t } :=
  ⟨h1, i64_0, h2, i64_0, i64_0, i64_0, i64_0, h3, pk0_ok.pay, pk0_ok.cli, pk0_ok.wtop, pk0_ok.wpay, pk0_ok.user, pk0_ok.pass, pk0_ok.subs, pk0_ok.codes, pk0_ok.sub, pk0_ok.cod⟩
theorem at_of (k i : Int) (t : ByteArray) (w : World) (B : Nat) : PkAt w B { pk0 with kind := k, id := i, top := t } sv0 := ⟨(pk0_at w B).pay, (pk0_at w B).wpay, (pk0_at w B).pass, (pk0_at w B).subs, (pk0_at w B).codes⟩

set_option maxRecDepth 100000 in
set_option maxHeartbeats 4000000 in
theorem known_any (w : World) (hN : NamesAt w) :
    Calls Tryd.prog 6 #[] w fun e w' => e = .returned (.bool true) ∧ Below w.heap.size w w' := by
  have HN := Lib.hid hN
  clear hN
  go_enter Tryd.func6, Tryd.ntmps6
  go_wp2_with fail
  refine (Any_any pkA sv0 0 w (at_of 3 0 _ w 0) (Nat.zero_le _) (ok_of 3 0 _ (by unfold i64In; omega) i64_0 (by decide)) sv0_nil).mono ?_
  rintro e w1 ⟨s1, rfl, ho1, hb1⟩
  have P1 := Lib.hid ho1.at_
  have N1 := Lib.hid ho1.nil
  clear ho1
  go_wp2_with fail
  refine (Try_any pkA s1 _ w1 P1.out (Nat.le_refl _) (ok_of 3 0 _ (by unfold i64In; omega) i64_0 (by decide)) N1.out).mono ?_
  intro e w2 h2
  obtain ⟨s2, rfl, hb2⟩ : ∃ s', e = .returned (.tuple #[pkV pkA s', .bool true]) ∧ Below w1.heap.size w1 w2 := by obtain ⟨s', h, _, hb⟩ := h2; exact ⟨s', h, hb⟩
  have b2 : Below w.heap.size w w2 := by (repeat (first | assumption | exact Below.refl _ _ | exact (Below.refl _ _).alloc (Nat.le_refl _) _ | (refine thn ?_ (by assumption)) | (refine alB ?_ _) | (refine dwN ?_ _) | (refine Below.drew ?_)))
  clear hb1 hb2 h2 P1 N1
  go_wp2_with ((with_reducible show wpList _ _ _ ({ dst := _, op := Op.store 37 _ _, type := _, pos := _, after := _, guard := _ } :: _) _ _); refine stL w2.heap.size (by rfl) _ (pkC pkA s2) (by rfl) (by rfl) (by rfl) (by rfl) szMessage (pk_one pkA s2) ?_)
  refine (Any_any pkB sv0 0 _ (at_of 12 0 _ _ 0) (Nat.zero_le _) (ok_of 12 0 _ (by unfold i64In; omega) i64_0 (by decide)) sv0_nil).mono ?_
  rintro e w3 ⟨s3, rfl, ho3, hb3⟩
  have r3 := heap_below hb3 (heap_alloc_new w2 _)
  have b3 : Below w.heap.size w w3 := by (repeat (first | assumption | exact Below.refl _ _ | exact (Below.refl _ _).alloc (Nat.le_refl _) _ | (refine thn ?_ (by assumption)) | (refine alB ?_ _) | (refine dwN ?_ _) | (refine Below.drew ?_)))
  have P3 := Lib.hid ho3.at_
  have N3 := Lib.hid ho3.nil
  clear ho3 hb3
  go_wp2_with fail
  refine (Try_any pkB s3 _ w3 P3.out (Nat.le_refl _) (ok_of 12 0 _ (by unfold i64In; omega) i64_0 (by decide)) N3.out).mono ?_
  intro e w4 h4
  obtain ⟨s4, rfl, hb4⟩ : ∃ s', e = .returned (.tuple #[pkV pk0 s', .bool false]) ∧ Below w3.heap.size w3 w4 := by obtain ⟨s', h, _, hb⟩ := h4; exact ⟨s', h, hb⟩
  have r4 := heap_below hb4 r3
  have b4 : Below w.heap.size w w4 := by (repeat (first | assumption | exact Below.refl _ _ | exact (Below.refl _ _).alloc (Nat.le_refl _) _ | (refine thn ?_ (by assumption)) | (refine alB ?_ _) | (refine dwN ?_ _) | (refine Below.drew ?_)))
  clear h4 hb4 r3 P3 N3 b3 b2
  go_wp2_with ((with_reducible show wpList _ _ _ ({ dst := _, op := Op.store 37 _ _, type := _, pos := _, after := _, guard := _ } :: _) _ _); refine stL w4.heap.size (by rfl) _ (pkC pk0 s4) (by rfl) (by rfl) (by rfl) (by rfl) szMessage (pk_one pk0 s4) ?_)
  refine (Packet_of .nilIface 5 pk0 sv0 0 _ (fun W => unwrapNil W) (pk0_at _ _) (Nat.zero_le _) pk0_ok sv0_nil).mono ?_
  intro e w5 h5
  obtain ⟨s5, rfl, hb5⟩ : ∃ s', e = .returned (.tuple #[pkV pk0 s', .bool false]) ∧ Below (w4.alloc (.cells (pkC pk0 s4) 37)).heap.size (w4.alloc (.cells (pkC pk0 s4) 37)) w5 := by obtain ⟨s', h, _, hb⟩ := h5; exact ⟨s', h, hb⟩
  have r5 := heap_below hb5 (heap_keep r4)
  have b5 : Below w.heap.size w w5 := by (repeat (first | assumption | exact Below.refl _ _ | exact (Below.refl _ _).alloc (Nat.le_refl _) _ | (refine thn ?_ (by assumption)) | (refine alB ?_ _) | (refine dwN ?_ _) | (refine Below.drew ?_)))
  clear h5 hb5 r4 b4
  have c1 : (w5.alloc (.cells (pkC pk0 s5) 28)).cell? ⟨w2.heap.size, 5, none⟩ = some (.string ⟨#[97]⟩) := by rw [cell_of_row _ _ 5 _ _ _ (heap_keep r5)]; rfl
  clear r5
  go_wp2_with ((with_reducible show wpList _ _ _ ({ dst := _, op := Op.store 28 _ _, type := _, pos := _, after := _, guard := _ } :: _) _ _); refine stL w5.heap.size (by rfl) _ (pkC pk0 s5) (by rfl) (by rfl) (by rfl) (by rfl) pk_sz (pk_one pk0 s5) ?_)
  refine (Any_any pkD sv0 0 _ (at_of 4 3 _ _ 0) (Nat.zero_le _) (ok_of 4 3 _ (by unfold i64In; omega) (by unfold i64In; omega) (by decide)) sv0_nil).mono ?_
  rintro e w6 ⟨s6, rfl, ho6, hb6⟩
  have b6 : Below w.heap.size w w6 := by (repeat (first | assumption | exact Below.refl _ _ | exact (Below.refl _ _).alloc (Nat.le_refl _) _ | (refine thn ?_ (by assumption)) | (refine alB ?_ _) | (refine dwN ?_ _) | (refine Below.drew ?_)))
  clear ho6 hb6 b5 c1
  go_wp2_with fail
  refine (Name_any pkD s6 _ (HN.out.on b6)).mono ?_
  intro e w7 h7
  obtain ⟨rfl, hb7⟩ : e = .returned (.string ⟨#[97, 99, 107]⟩) ∧ Below w6.heap.size w6 w7 := h7
  have b7 : Below w.heap.size w w7 := by (repeat (first | assumption | exact Below.refl _ _ | exact (Below.refl _ _).alloc (Nat.le_refl _) _ | (refine thn ?_ (by assumption)) | (refine alB ?_ _) | (refine dwN ?_ _) | (refine Below.drew ?_)))
  clear hb7 b6
  go_wp2_with (refine bl_pk pkE sv0 (by rfl) (by rfl) (by first | exact bAsk pkE sv0 | exact bSignal pkE sv0) ?_)
  refine (Id_of _ 4 _ (fun W => idAsk pkE sv0 W)).mono ?_
  rintro e w8 ⟨rfl, hb8⟩
  have b8 : Below w.heap.size w w8 := by (repeat (first | assumption | exact Below.refl _ _ | exact (Below.refl _ _).alloc (Nat.le_refl _) _ | (refine thn ?_ (by assumption)) | (refine alB ?_ _) | (refine dwN ?_ _) | (refine Below.drew ?_)))
  clear hb8 b7
  go_wp2_with (refine bl_pk pkE sv0 (by rfl) (by rfl) (by first | exact bAsk pkE sv0 | exact bSignal pkE sv0) ?_)
  refine (Id_of _ 0 _ (fun W => idNo _ _ (by decide) (by decide) (by decide) W)).mono ?_
  rintro e w9 ⟨rfl, hb9⟩
  have b9 : Below w.heap.size w w9 := by (repeat (first | assumption | exact Below.refl _ _ | exact (Below.refl _ _).alloc (Nat.le_refl _) _ | (refine thn ?_ (by assumption)) | (refine alB ?_ _) | (refine dwN ?_ _) | (refine Below.drew ?_)))
  clear hb9 b8
  go_wp2_with fail
  go_ret
  exact ⟨rfl, b9⟩

end Go.Proofs.YtpjlnienakiihaaDoor
