/- hubbublaw5.StreamLeft for all inputs. -/
import Derived.Test.YtnhpacaoobpkhaaStm4
import Derived.Test.YtnhpacaoobpkhaaSeatAll
namespace Go.Proofs.Ytnhpacaoobpkhaa
open Go.RowKit Go.Lib
set_option linter.unusedVariables false

theorem seat5 : SeatAny5 := fun k a b c A n cx l w k0 k1 a0 a1 b0 b1 c0 c1 hx hn hl hnil => seatP_any k a b c A n cx l w k0 k1 a0 a1 b0 b1 c0 c1 hx hn hl hnil
set_option maxRecDepth 100000 in
theorem left_long (k a b c : Int) (A : Option Addr) (cx : Nat) (x : List UInt8) (t : Nat) (w : World) (h2 : ¬ x.length ≤ 40) (hm2 : x.length ≤ 9223372036854775807) :
    Calls Try.prog 12 #[.int .u8 k, .int .u8 a, .int .u8 b, .int .u8 c, .slice A x.length cx, .int .u16 (t : Int)] w fun e w' => e = .returned (.bool true) ∧ Below w.heap.size w w' := by
  generalize x.length = m2 at *
  have d2 : decide ((40 : Int) < (m2 : Int)) = true := decide_eq_true (by omega)
  have d4 : decide (40 < m2) = true := decide_eq_true (by omega)
  have d5 : (40 : Int) < (m2 : Int) := by omega
  go_enter Try.func12, Try.ntmps12
  go_wp2_with fail
  refine (known5_any w).mono ?_
  rintro e w1 ⟨rfl, hb1⟩
  go_wp2_with fail
  go_ret
  exact ⟨rfl, hb1⟩
theorem len_of5 {w : World} {B : Nat} {A : Option Addr} {n c : Nat} {l : List UInt8} (h : BytesAt w B (.slice A n c) l) : l.length ≤ 9223372036854775807 := by
  obtain ⟨A', c', hv1, hc, hm', _⟩ := h
  unfold maxLen at hm'
  omega
theorem left_all (k a b c : Nat) (A : Option Addr) (cx : Nat) (x : List UInt8) (t : Nat) (w : World) (hk : k < 256) (ha : a < 256) (hb : b < 256) (hc : c < 256) (ht : t ≤ 65535)
    (hv : BytesAt w w.heap.size (.slice A x.length cx) x) (hz : A = none → cx = 0) :
    Calls Try.prog 12 #[.int .u8 (k : Int), .int .u8 (a : Int), .int .u8 (b : Int), .int .u8 (c : Int), .slice A x.length cx, .int .u16 (t : Int)] w fun e w' => e = .returned (.bool true) ∧ Below w.heap.size w w' := by
  by_cases h2 : x.length ≤ 40
  · exact left_walk seat5 k a b c A cx x t w (by omega) (by omega) (by omega) (by omega) ht h2 hv hz
  · exact left_long k a b c A cx x t w h2 (len_of5 hv)
end Go.Proofs.Ytnhpacaoobpkhaa
