/- The help's greeting: hubbubseat.Connect, whatever it is asked for. -/
import Derived.Test.YtpjlnienakiihaaDoorSeatC000
import Derived.Test.YtpjlnienakiihaaDoorSeatC001
import Derived.Test.YtpjlnienakiihaaDoorSeatC010
import Derived.Test.YtpjlnienakiihaaDoorSeatC011
import Derived.Test.YtpjlnienakiihaaDoorSeatC100
import Derived.Test.YtpjlnienakiihaaDoorSeatC101
import Derived.Test.YtpjlnienakiihaaDoorSeatC110
import Derived.Test.YtpjlnienakiihaaDoorSeatC111
namespace Go.Proofs.YtpjlnienakiihaaDoor
open Go.RowKit Go.Lib

theorem seatCon_any (a b c : Int) (A : Option Addr) (n cx : Nat) (l : List UInt8) (w : World) (a0 : 0 ≤ a) (a1 : a ≤ 255) (b0 : 0 ≤ b) (b1 : b ≤ 255) (c0 : 0 ≤ c) (c1 : c ≤ 255) (hx : BytesAt w w.heap.size (.slice A n cx) l) (hn : n = l.length) (hl : l.length ≤ 60) (hnil : A = none → cx = 0) : Calls Tryd.prog 19 #[.int .u8 a, .int .u8 b, .int .u8 c, .slice A n cx] w (ConPost w A cx l) := by
  rcases hb1 : (c % 3 == 0) with _ | _ <;> rcases hb2 : (a % 8 == 7) with _ | _ <;> rcases hb3 : (b % 10 == 9) with _ | _ <;>
  rcases (show a % 5 = 0 ∨ a % 5 = 1 ∨ a % 5 = 2 ∨ a % 5 = 3 ∨ a % 5 = 4 by omega) with h | h | h | h | h
  · exact seatCon_0000 a b c A n cx l w a0 a1 b0 b1 c0 c1 hx hn hl hnil h hb1 hb2 hb3
  · exact seatCon_1000 a b c A n cx l w a0 a1 b0 b1 c0 c1 hx hn hl hnil h hb1 hb2 hb3
  · exact seatCon_2000 a b c A n cx l w a0 a1 b0 b1 c0 c1 hx hn hl hnil h hb1 hb2 hb3
  · exact seatCon_3000 a b c A n cx l w a0 a1 b0 b1 c0 c1 hx hn hl hnil h hb1 hb2 hb3
  · exact seatCon_4000 a b c A n cx l w a0 a1 b0 b1 c0 c1 hx hn hl hnil h hb1 hb2 hb3
  · exact seatCon_0001 a b c A n cx l w a0 a1 b0 b1 c0 c1 hx hn hl hnil h hb1 hb2 hb3
  · exact seatCon_1001 a b c A n cx l w a0 a1 b0 b1 c0 c1 hx hn hl hnil h hb1 hb2 hb3
  · exact seatCon_2001 a b c A n cx l w a0 a1 b0 b1 c0 c1 hx hn hl hnil h hb1 hb2 hb3
  · exact seatCon_3001 a b c A n cx l w a0 a1 b0 b1 c0 c1 hx hn hl hnil h hb1 hb2 hb3
  · exact seatCon_4001 a b c A n cx l w a0 a1 b0 b1 c0 c1 hx hn hl hnil h hb1 hb2 hb3
  · exact seatCon_0010 a b c A n cx l w a0 a1 b0 b1 c0 c1 hx hn hl hnil h hb1 hb2 hb3
  · exact seatCon_1010 a b c A n cx l w a0 a1 b0 b1 c0 c1 hx hn hl hnil h hb1 hb2 hb3
  · exact seatCon_2010 a b c A n cx l w a0 a1 b0 b1 c0 c1 hx hn hl hnil h hb1 hb2 hb3
  · exact seatCon_3010 a b c A n cx l w a0 a1 b0 b1 c0 c1 hx hn hl hnil h hb1 hb2 hb3
  · exact seatCon_4010 a b c A n cx l w a0 a1 b0 b1 c0 c1 hx hn hl hnil h hb1 hb2 hb3
  · exact seatCon_0011 a b c A n cx l w a0 a1 b0 b1 c0 c1 hx hn hl hnil h hb1 hb2 hb3
  · exact seatCon_1011 a b c A n cx l w a0 a1 b0 b1 c0 c1 hx hn hl hnil h hb1 hb2 hb3
  · exact seatCon_2011 a b c A n cx l w a0 a1 b0 b1 c0 c1 hx hn hl hnil h hb1 hb2 hb3
  · exact seatCon_3011 a b c A n cx l w a0 a1 b0 b1 c0 c1 hx hn hl hnil h hb1 hb2 hb3
  · exact seatCon_4011 a b c A n cx l w a0 a1 b0 b1 c0 c1 hx hn hl hnil h hb1 hb2 hb3
  · exact seatCon_0100 a b c A n cx l w a0 a1 b0 b1 c0 c1 hx hn hl hnil h hb1 hb2 hb3
  · exact seatCon_1100 a b c A n cx l w a0 a1 b0 b1 c0 c1 hx hn hl hnil h hb1 hb2 hb3
  · exact seatCon_2100 a b c A n cx l w a0 a1 b0 b1 c0 c1 hx hn hl hnil h hb1 hb2 hb3
  · exact seatCon_3100 a b c A n cx l w a0 a1 b0 b1 c0 c1 hx hn hl hnil h hb1 hb2 hb3
  · exact seatCon_4100 a b c A n cx l w a0 a1 b0 b1 c0 c1 hx hn hl hnil h hb1 hb2 hb3
  · exact seatCon_0101 a b c A n cx l w a0 a1 b0 b1 c0 c1 hx hn hl hnil h hb1 hb2 hb3
  · exact seatCon_1101 a b c A n cx l w a0 a1 b0 b1 c0 c1 hx hn hl hnil h hb1 hb2 hb3
  · exact seatCon_2101 a b c A n cx l w a0 a1 b0 b1 c0 c1 hx hn hl hnil h hb1 hb2 hb3
  · exact seatCon_3101 a b c A n cx l w a0 a1 b0 b1 c0 c1 hx hn hl hnil h hb1 hb2 hb3
  · exact seatCon_4101 a b c A n cx l w a0 a1 b0 b1 c0 c1 hx hn hl hnil h hb1 hb2 hb3
  · exact seatCon_0110 a b c A n cx l w a0 a1 b0 b1 c0 c1 hx hn hl hnil h hb1 hb2 hb3
  · exact seatCon_1110 a b c A n cx l w a0 a1 b0 b1 c0 c1 hx hn hl hnil h hb1 hb2 hb3
  · exact seatCon_2110 a b c A n cx l w a0 a1 b0 b1 c0 c1 hx hn hl hnil h hb1 hb2 hb3
  · exact seatCon_3110 a b c A n cx l w a0 a1 b0 b1 c0 c1 hx hn hl hnil h hb1 hb2 hb3
  · exact seatCon_4110 a b c A n cx l w a0 a1 b0 b1 c0 c1 hx hn hl hnil h hb1 hb2 hb3
  · exact seatCon_0111 a b c A n cx l w a0 a1 b0 b1 c0 c1 hx hn hl hnil h hb1 hb2 hb3
  · exact seatCon_1111 a b c A n cx l w a0 a1 b0 b1 c0 c1 hx hn hl hnil h hb1 hb2 hb3
  · exact seatCon_2111 a b c A n cx l w a0 a1 b0 b1 c0 c1 hx hn hl hnil h hb1 hb2 hb3
  · exact seatCon_3111 a b c A n cx l w a0 a1 b0 b1 c0 c1 hx hn hl hnil h hb1 hb2 hb3
  · exact seatCon_4111 a b c A n cx l w a0 a1 b0 b1 c0 c1 hx hn hl hnil h hb1 hb2 hb3

end Go.Proofs.YtpjlnienakiihaaDoor
