/- What the laws' helps known and mixed come to. -/
import Derived.Test.YtdefmeffdcpcaaaCheck
import Derived.Lib.AppendStr
import Derived.Lib.SlBytesConst
namespace Go.Proofs.Ytdefmeffdcpcaaa
open Go.RowKit Go.Lib

theorem bytesAt_new (w : World) (l : List UInt8) (C : Array Value) (fr : Nat × Nat) (hC : C = (l.map fun b => Value.int .u8 (b.toNat : Int)).toArray) (hm : l.length ≤ maxLen) :
    BytesAt (w.alloc (.cells C 5 fr)) (w.heap.size + 1) (.slice (some ⟨w.heap.size, 0, none⟩) l.length l.length) l := by
  refine ⟨_, _, rfl, Nat.le_refl _, hm, by simp, fun ad had _ => ?_, fun ad had j x hj => ?_⟩
  · injection had with had; subst had; simp
  · injection had with had; subst had
    rw [show (Addr.add ⟨w.heap.size, 0, none⟩ j) = ⟨w.heap.size, j, none⟩ by simp [Addr.add]; exact fun h => h.symm]
    rw [World.cell?_alloc_mark, hC]
    simp [hj]
theorem runesAt_new (w : World) (l : List Int) (C : Array Value) (hC : C = (l.map (Value.int .i32)).toArray) :
    RunesAt (w.alloc (.cells C 21)) (w.heap.size + 1) (.slice (some ⟨w.heap.size, 0, none⟩) l.length l.length) l := by
  refine ⟨_, _, rfl, Nat.le_refl _, by simp, fun ad had _ => ?_, fun ad had j x hj => ?_⟩
  · injection had with had; subst had; simp
  · injection had with had; subst had
    rw [show (Addr.add ⟨w.heap.size, 0, none⟩ j) = ⟨w.heap.size, j, none⟩ by simp [Addr.add]; exact fun h => h.symm]
    rw [cell_of_row (w.alloc (.cells C 21)) w.heap.size j C 21 (0, 0) (heap_alloc_new w _), hC]
    simp [hj]

theorem k_count (w : World) : Calls Try.prog 14 #[.string ⟨#[97, 195, 169]⟩] w fun e w' => e = .returned (.int .i64 2) ∧ Below w.heap.size w w' :=
  (count_any ⟨#[97, 195, 169]⟩ w (by decide)).mono fun _ _ ⟨h1, h2⟩ => ⟨h1.trans (ret_int (by decide +kernel)), h2⟩
theorem k_check1 (w : World) : Calls Try.prog 12 #[.slice (some ⟨w.heap.size, 0, none⟩) 3 3] (w.alloc (.cells #[.int .u8 97, .int .u8 195, .int .u8 169] 5 (3, 4))) fun e w' => e = .returned (.int .i64 (-1)) ∧ Below w.heap.size w w' :=
  (check_any _ [97, 195, 169] _ (by simpa using bytesAt_new w [97, 195, 169] _ (3, 4) rfl (by decide)) (by decide)).mono fun _ _ ⟨h1, h2⟩ => ⟨h1.trans (ret_int (by decide +kernel)), ((Below.refl _ _).alloc (Nat.le_refl _) _).trans (h2.mono (by simp))⟩
theorem k_check2 (w : World) : Calls Try.prog 12 #[.slice (some ⟨w.heap.size, 0, none⟩) 2 2] (w.alloc (.cells #[.int .u8 97, .int .u8 0] 5)) fun e w' => e = .returned (.int .i64 1) ∧ Below w.heap.size w w' :=
  (check_any _ [97, 0] _ (by simpa using bytesAt_new w [97, 0] _ (0, 0) rfl (by decide)) (by decide)).mono fun _ _ ⟨h1, h2⟩ => ⟨h1.trans (ret_int (by decide +kernel)), ((Below.refl _ _).alloc (Nat.le_refl _) _).trans (h2.mono (by simp))⟩
theorem k_cut (w : World) : Calls Try.prog 19 #[.string ⟨#[195, 169, 97]⟩, .int .i64 1] w fun e w' => e = .returned (.string ⟨#[195, 169]⟩) ∧ Below w.heap.size w w' :=
  (cutF_any ⟨#[195, 169, 97]⟩ 1 w (by decide)).mono fun _ _ ⟨h1, h2⟩ => ⟨h1.trans (ret_str (congrArg (fun l : List UInt8 => (⟨l.toArray⟩ : ByteArray)) (by decide +kernel : cutI 1 [195, 169, 97] = [195, 169]))), h2⟩
theorem k_place (w : World) : Calls Try.prog 17 #[.string ⟨#[195, 169, 97]⟩, .int .i64 1] w fun e w' => e = .returned (.int .i64 2) ∧ Below w.heap.size w w' :=
  (place_any ⟨#[195, 169, 97]⟩ 1 w (by decide)).mono fun _ _ ⟨h1, h2⟩ => ⟨h1.trans (ret_int (by decide +kernel)), h2⟩
theorem k_runes (w : World) : Calls Try.prog 16 #[.string ⟨#[255]⟩] w fun e w' => ∃ (g c : Nat), e = .returned (.slice (some ⟨g, 0, none⟩) 1 c) ∧ Below w.heap.size w w' :=
  (runes_any ⟨#[255]⟩ w (by decide)).mono fun _ _ ⟨g, c, h1, _, h2, _⟩ => ⟨g, c, h1.trans (by rw [show (rnsL (⟨#[255]⟩ : ByteArray).data.toList).length = 1 by decide +kernel]), h2⟩
theorem k_back (w : World) : Calls Try.prog 21 #[.slice (some ⟨w.heap.size, 0, none⟩) 2 2] (w.alloc (.cells #[.int .i32 233, .int .i32 (-1)] 21)) fun e w' => e = .returned (.string ⟨#[195, 169, 239, 191, 189]⟩) ∧ Below w.heap.size w w' :=
  (back_any _ [233, -1] _ _ (runesAt_new w [233, -1] _ rfl)).mono fun _ _ ⟨h1, h2⟩ => ⟨h1.trans (ret_str (by decide +kernel)), h2 ▸ (Below.refl _ _).alloc (Nat.le_refl _) _⟩

set_option maxRecDepth 100000 in
set_option maxHeartbeats 1000000 in
theorem known_any (w : World) : Calls Try.prog 9 #[] w fun e w' => e = .returned (.bool true) ∧ Below w.heap.size w w' := by
  have kc := fun (w : World) (C : Array Value) (n c : Nat) => Lib.run_convert_bytes_const (P := Try.prog) w 22 5 C n c Try.underlying22 Try.underlying5
  go_enter Try.func9, Try.ntmps9
  go_wp2_with fail
  refine (k_count _).mono ?_
  rintro e w1 ⟨rfl, hb1⟩
  go_wp2_with fail
  refine (k_check1 _).mono ?_
  rintro e w2 ⟨rfl, hb2⟩
  go_wp2_with fail
  refine (k_check2 _).mono ?_
  rintro e w3 ⟨rfl, hb3⟩
  go_wp2_with fail
  refine (k_cut _).mono ?_
  rintro e w4 ⟨rfl, hb4⟩
  go_wp2_with fail
  refine (k_place _).mono ?_
  rintro e w5 ⟨rfl, hb5⟩
  go_wp2_with fail
  refine (k_runes _).mono ?_
  rintro e w6 ⟨g, c, rfl, hb6⟩
  go_wp2_with fail
  refine (k_back _).mono ?_
  rintro e w7 ⟨rfl, hb7⟩
  go_wp2_with fail
  go_ret
  have s1 := hb1.size
  have s2 := hb2.size
  have s3 := hb3.size
  have s4 := hb4.size
  have s5 := hb5.size
  have s6 := hb6.size
  exact ⟨rfl, hb1.trans ((hb2.mono (by omega)).trans ((hb3.mono (by omega)).trans ((hb4.mono (by omega)).trans ((hb5.mono (by omega)).trans ((hb6.mono (by omega)).trans (hb7.mono (by omega)))))))⟩
end Go.Proofs.Ytdefmeffdcpcaaa
