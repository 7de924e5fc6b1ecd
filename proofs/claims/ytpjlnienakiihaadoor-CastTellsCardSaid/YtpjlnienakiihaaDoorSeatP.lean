/- The help's packet of numbers, whatever the numbers. -/
import Derived.Test.YtpjlnienakiihaaDoorSeatP1
import Derived.Test.YtpjlnienakiihaaDoorSeatS1
import Derived.Test.YtpjlnienakiihaaDoorSeatU
namespace Go.Proofs.YtpjlnienakiihaaDoor
open Go.RowKit Go.Lib
set_option linter.unusedVariables false

theorem seatP_any (k a b c : Int) (A : Option Addr) (n cx : Nat) (l : List UInt8) (w : World) (k0 : 0 ≤ k) (k1 : k ≤ 255) (a0 : 0 ≤ a) (a1 : a ≤ 255) (b0 : 0 ≤ b) (b1 : b ≤ 255) (c0 : 0 ≤ c) (c1 : c ≤ 255) (hx : BytesAt w w.heap.size (.slice A n cx) l) (hn : n = l.length) (hl : l.length ≤ 60) (hnil : A = none → cx = 0) :
    Calls Tryd.prog 8 #[.int .u8 k, .int .u8 a, .int .u8 b, .int .u8 c, .slice A n cx] w (SeatPost w) := by
  rcases (show k % 15 = 0 ∨ k % 15 = 1 ∨ k % 15 = 2 ∨ k % 15 = 3 ∨ k % 15 = 4 ∨ k % 15 = 5 ∨ k % 15 = 6 ∨ k % 15 = 7 ∨ k % 15 = 8 ∨ k % 15 = 9 ∨ k % 15 = 10 ∨ k % 15 = 11 ∨ k % 15 = 12 ∨ k % 15 = 13 ∨ k % 15 = 14 by omega) with h | h | h | h | h | h | h | h | h | h | h | h | h | h | h
  · by_cases hq : b % 3 = 0
    · exact seatP_pub00 k a b c A n cx l w k0 k1 a0 a1 b0 b1 c0 c1 hx hn hl hnil h hq
    · exact seatP_pub01 k a b c A n cx l w k0 k1 a0 a1 b0 b1 c0 c1 hx hn hl hnil h (by omega)
  · by_cases hq : b % 3 = 0
    · exact seatP_pub10 k a b c A n cx l w k0 k1 a0 a1 b0 b1 c0 c1 hx hn hl hnil h hq
    · exact seatP_pub11 k a b c A n cx l w k0 k1 a0 a1 b0 b1 c0 c1 hx hn hl hnil h (by omega)
  · by_cases hq : b % 3 = 0
    · exact seatP_pub20 k a b c A n cx l w k0 k1 a0 a1 b0 b1 c0 c1 hx hn hl hnil h hq
    · exact seatP_pub21 k a b c A n cx l w k0 k1 a0 a1 b0 b1 c0 c1 hx hn hl hnil h (by omega)
  · by_cases hq : b % 3 = 0
    · exact seatP_pub30 k a b c A n cx l w k0 k1 a0 a1 b0 b1 c0 c1 hx hn hl hnil h hq
    · exact seatP_pub31 k a b c A n cx l w k0 k1 a0 a1 b0 b1 c0 c1 hx hn hl hnil h (by omega)
  · rcases h3 : (c % 3 == 0) with _ | _ <;> rcases h11 : (c % 11 == 0) with _ | _
    · exact seatP_sub400 k a b c A n cx l w k0 k1 a0 a1 b0 b1 c0 c1 hx hn hl hnil h h3 h11
    · exact seatP_sub401 k a b c A n cx l w k0 k1 a0 a1 b0 b1 c0 c1 hx hn hl hnil h h3 h11
    · exact seatP_sub410 k a b c A n cx l w k0 k1 a0 a1 b0 b1 c0 c1 hx hn hl hnil h h3 h11
    · exact seatP_sub411 k a b c A n cx l w k0 k1 a0 a1 b0 b1 c0 c1 hx hn hl hnil h h3 h11
  · rcases h3 : (c % 3 == 0) with _ | _ <;> rcases h11 : (c % 11 == 0) with _ | _
    · exact seatP_sub500 k a b c A n cx l w k0 k1 a0 a1 b0 b1 c0 c1 hx hn hl hnil h h3 h11
    · exact seatP_sub501 k a b c A n cx l w k0 k1 a0 a1 b0 b1 c0 c1 hx hn hl hnil h h3 h11
    · exact seatP_sub510 k a b c A n cx l w k0 k1 a0 a1 b0 b1 c0 c1 hx hn hl hnil h h3 h11
    · exact seatP_sub511 k a b c A n cx l w k0 k1 a0 a1 b0 b1 c0 c1 hx hn hl hnil h h3 h11
  · rcases h3 : (c % 3 == 0) with _ | _ <;> rcases h11 : (c % 11 == 0) with _ | _
    · exact seatP_sub600 k a b c A n cx l w k0 k1 a0 a1 b0 b1 c0 c1 hx hn hl hnil h h3 h11
    · exact seatP_sub601 k a b c A n cx l w k0 k1 a0 a1 b0 b1 c0 c1 hx hn hl hnil h h3 h11
    · exact seatP_sub610 k a b c A n cx l w k0 k1 a0 a1 b0 b1 c0 c1 hx hn hl hnil h h3 h11
    · exact seatP_sub611 k a b c A n cx l w k0 k1 a0 a1 b0 b1 c0 c1 hx hn hl hnil h h3 h11
  · rcases (show c % 2 = 0 ∨ c % 2 = 1 by omega) with h2 | h2
    · exact seatP_uns0 k a b c A n cx l w k0 k1 a0 a1 b0 b1 c0 c1 hx hn hl hnil h h2
    · exact seatP_uns1 k a b c A n cx l w k0 k1 a0 a1 b0 b1 c0 c1 hx hn hl hnil h h2
  · exact seatP_8 k a b c A n cx l w k0 k1 a0 a1 b0 b1 c0 c1 hx hn hl hnil h
  · exact seatP_9 k a b c A n cx l w k0 k1 a0 a1 b0 b1 c0 c1 hx hn hl hnil h
  · exact seatP_10 k a b c A n cx l w k0 k1 a0 a1 b0 b1 c0 c1 hx hn hl hnil h
  · exact seatP_11 k a b c A n cx l w k0 k1 a0 a1 b0 b1 c0 c1 hx hn hl hnil h
  · exact seatP_12 k a b c A n cx l w k0 k1 a0 a1 b0 b1 c0 c1 hx hn hl hnil h
  · exact seatP_con k a b c A n cx l w k0 k1 a0 a1 b0 b1 c0 c1 hx hn hl hnil h
  · exact seatP_14 k a b c A n cx l w k0 k1 a0 a1 b0 b1 c0 c1 hx hn hl hnil h

end Go.Proofs.YtpjlnienakiihaaDoor
