/- The help's packets of numbers: hubbubseat.Topic, Filter, and what a packet of theirs is at least. -/
import Derived.Test.YtpjlnienakiihaaDoorRefSame
namespace Go.Proofs.YtpjlnienakiihaaDoor
open Go.RowKit Go.Lib

/-- A short text. -/
def TextPost (w : World) (e : Ending) (w' : World) : Prop := ∃ t : ByteArray, e = .returned (.string t) ∧ t.size ≤ 4 ∧ Below w.heap.size w w'

set_option maxRecDepth 100000 in
set_option maxHeartbeats 2000000 in
theorem Topic_any (k : Int) (w : World) (h0 : 0 ≤ k) (h1 : k ≤ 255) : Calls Tryd.prog 17 #[.int .u8 k] w (TextPost w) := by
  rcases (show k % 7 = 0 ∨ k % 7 = 1 ∨ k % 7 = 2 ∨ k % 7 = 3 ∨ k % 7 = 4 ∨ k % 7 = 5 ∨ k % 7 = 6 by omega) with h | h | h | h | h | h | h <;>
  (go_enter Tryd.func17, Tryd.ntmps17
   go_wp2
   go_ret
   exact ⟨_, rfl, by decide, by (repeat (first | assumption | exact Below.refl _ _ | exact (Below.refl _ _).alloc (Nat.le_refl _) _ | (refine thn ?_ (by assumption)) | (refine alB ?_ _) | (refine dwN ?_ _) | (refine Below.drew ?_)))⟩)
set_option maxRecDepth 100000 in
set_option maxHeartbeats 2000000 in
theorem Filter_any (k : Int) (w : World) (h0 : 0 ≤ k) (h1 : k ≤ 255) : Calls Tryd.prog 18 #[.int .u8 k] w (TextPost w) := by
  rcases (show k % 10 = 0 ∨ k % 10 = 1 ∨ k % 10 = 2 ∨ k % 10 = 3 ∨ k % 10 = 4 ∨ k % 10 = 5 ∨ k % 10 = 6 ∨ k % 10 = 7 ∨ k % 10 = 8 ∨ k % 10 = 9 by omega) with h | h | h | h | h | h | h | h | h | h <;>
  (go_enter Tryd.func18, Tryd.ntmps18
   go_wp2
   go_ret
   exact ⟨_, rfl, by decide, by (repeat (first | assumption | exact Below.refl _ _ | exact (Below.refl _ _).alloc (Nat.le_refl _) _ | (refine thn ?_ (by assumption)) | (refine alB ?_ _) | (refine dwN ?_ _) | (refine Below.drew ?_)))⟩)

/-- A packet of small numbers and short texts. -/
def SeatPost (w : World) (e : Ending) (w' : World) : Prop :=
  ∃ (p : Pk) (s : Sv), e = .returned (pkV p s) ∧ PkAt w' w'.heap.size p s ∧ NilOk s ∧ PkOk p ∧ Below w.heap.size w w'

end Go.Proofs.YtpjlnienakiihaaDoor
