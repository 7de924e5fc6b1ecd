/- What the laws' help known comes to (layer 2). -/
import Derived.Test.YtdacgfhlgpbccaaRefRead
import Derived.Deep.RegionHeld3
import Derived.Deep.RegionWith
import Derived.Deep.DrawnRows
import Derived.Deep.DeepCutAuto
namespace Go.Proofs.Ytdacgfhlgpbccaa
open Go.RowKit Go.Lib

theorem k_put (w : World) : Calls Try.prog 8 #[.int .i64 128] w fun e w' => ∃ A c, e = .returned (.tuple #[.slice A 2 c, .int .i64 0]) ∧ BytesAt w' w'.heap.size (.slice A 2 c) [128, 1] ∧ Below w.heap.size w w' :=
  put_any 128 (by omega) (by omega) w
theorem k_read1 (W : World) (bl : Nat) (h : W.heap.size = bl) : Calls Try.prog 12 #[.slice (some ⟨bl, 0, none⟩) 3 3] (W.alloc (.cells #[.int .u8 128, .int .u8 1, .int .u8 9] 5)) fun e w' => e = .returned (.tuple #[.int .i64 128, .int .i64 2, .int .i64 0]) ∧ W.alloc (.cells #[.int .u8 128, .int .u8 1, .int .u8 9] 5) = w' := by
  subst h
  exact read_any _ [128, 1, 9] _ _ (bytesAt_new W [128, 1, 9] _ (0, 0) rfl (by decide)) (by decide) _ _ _ (by decide +kernel)
theorem k_read2 (W : World) (bl : Nat) (h : W.heap.size = bl) : Calls Try.prog 12 #[.slice (some ⟨bl, 0, none⟩) 2 2] (W.alloc (.cells #[.int .u8 128, .int .u8 0] 5)) fun e w' => e = .returned (.tuple #[.int .i64 0, .int .i64 0, .int .i64 21]) ∧ W.alloc (.cells #[.int .u8 128, .int .u8 0] 5) = w' := by
  subst h
  exact read_any _ [128, 0] _ _ (bytesAt_new W [128, 0] _ (0, 0) rfl (by decide)) (by decide) _ _ _ (by decide +kernel)
theorem k_size (w : World) : Calls Try.prog 10 #[.int .i64 0] w fun e w' => e = .returned (.int .i64 1) ∧ w = w' := size_any 0 (by omega) (by omega) w

set_option maxRecDepth 100000 in
set_option maxHeartbeats 1000000 in
theorem known_any (w : World) : Calls Try.prog 7 #[] w fun e w' => e = .returned (.bool true) ∧ Below w.heap.size w w' := by
  go_enter Try.func7, Try.ntmps7
  go_wp2_with fail
  refine (k_put _).mono ?_
  rintro e w1 ⟨A1, c1, rfl, hv1, hb1⟩
  have V1 := Lib.hid hv1
  clear hv1
  go_wp2_with fail
  refine (k_read1 _ _ rfl).mono ?_
  rintro e w2 ⟨rfl, rfl⟩
  go_wp2_with fail
  refine (k_read2 _ _ (World.size_alloc _ _)).mono ?_
  rintro e w2 ⟨rfl, rfl⟩
  have B2 : Below w1.heap.size w1 ((w1.alloc (.cells #[.int .u8 128, .int .u8 1, .int .u8 9] 5)).alloc (.cells #[.int .u8 128, .int .u8 0] 5)) := alB (alB (Below.refl _ _) _) _
  have hc := (V1.out.on B2).conv
  have fin := Lib.hid (thn hb1 B2)
  generalize ((w1.alloc (.cells #[.int .u8 128, .int .u8 1, .int .u8 9] 5)).alloc (.cells #[.int .u8 128, .int .u8 0] 5)) = W2 at *
  clear V1 B2 hb1
  go_wp2_with fail
  refine (k_size _).mono ?_
  rintro e w3 ⟨rfl, rfl⟩
  go_wp2_with fail
  go_ret
  exact ⟨rfl, fin.out⟩
end Go.Proofs.Ytdacgfhlgpbccaa
