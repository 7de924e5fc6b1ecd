/- hubbublaw5.StreamDies for all inputs. -/
import Derived.Test.YtnhpacaoobpkhaaStm12
import Derived.Test.YtnhpacaoobpkhaaSeatAll
namespace Go.Proofs.Ytnhpacaoobpkhaa
open Go.RowKit Go.Lib
set_option linter.unusedVariables false

theorem seat6 : SeatAny6 := fun k a b c A n cx l w k0 k1 a0 a1 b0 b1 c0 c1 hx hn hl hnil => seatP_any k a b c A n cx l w k0 k1 a0 a1 b0 b1 c0 c1 hx hn hl hnil
set_option maxRecDepth 100000 in
theorem dies_long1 (KA : Option Addr) (kc n m : Nat) (k : Int) (A : Option Addr) (cx : Nat) (w : World) (h2 : ¬ n ≤ 10) (hm2 : n ≤ 9223372036854775807) (hm3 : m ≤ 9223372036854775807) :
    Calls Try.prog 11 #[.slice KA n kc, .int .u8 k, .slice A m cx] w fun e w' => e = .returned (.bool true) ∧ Below w.heap.size w w' := by
  have d2 : decide ((10 : Int) < (n : Int)) = true := decide_eq_true (by omega)
  have d4 : decide (10 < n) = true := decide_eq_true (by omega)
  have d5 : (10 : Int) < (n : Int) := by omega
  go_enter Try.func11, Try.ntmps11
  go_wp2_with fail
  refine (known5_any w).mono ?_
  rintro e w1 ⟨rfl, hb1⟩
  go_wp2_with fail
  go_ret
  exact ⟨rfl, hb1⟩
set_option maxRecDepth 100000 in
theorem dies_long2 (KA : Option Addr) (kc n m : Nat) (k : Int) (A : Option Addr) (cx : Nat) (w : World) (h1 : n ≤ 10) (h2 : ¬ m ≤ 30) (hm3 : m ≤ 9223372036854775807) :
    Calls Try.prog 11 #[.slice KA n kc, .int .u8 k, .slice A m cx] w fun e w' => e = .returned (.bool true) ∧ Below w.heap.size w w' := by
  have d1 : decide ((10 : Int) < (n : Int)) = false := decide_eq_false (by omega)
  have d3 : decide (10 < n) = false := decide_eq_false (by omega)
  have d2 : decide ((30 : Int) < (m : Int)) = true := decide_eq_true (by omega)
  have d4 : decide (30 < m) = true := decide_eq_true (by omega)
  have d5 : (30 : Int) < (m : Int) := by omega
  go_enter Try.func11, Try.ntmps11
  go_wp2_with fail
  refine (known5_any w).mono ?_
  rintro e w1 ⟨rfl, hb1⟩
  go_wp2_with fail
  go_ret
  exact ⟨rfl, hb1⟩
theorem len_of6 {w : World} {B : Nat} {A : Option Addr} {n c : Nat} {l : List UInt8} (h : BytesAt w B (.slice A n c) l) : l.length ≤ 9223372036854775807 := by
  obtain ⟨A', c', hv1, hc, hm', _⟩ := h
  unfold maxLen at hm'
  omega
theorem dies_all (KA : Option Addr) (kc : Nat) (K : List UInt8) (k : Nat) (A : Option Addr) (cx : Nat) (x : List UInt8) (w : World) (hk : k < 256)
    (hkv : BytesAt w w.heap.size (.slice KA K.length kc) K) (hv : BytesAt w w.heap.size (.slice A x.length cx) x) :
    Calls Try.prog 11 #[.slice KA K.length kc, .int .u8 (k : Int), .slice A x.length cx] w fun e w' => e = .returned (.bool true) ∧ Below w.heap.size w w' := by
  by_cases h1 : K.length ≤ 10
  · by_cases h2 : x.length ≤ 30
    · exact dies_walk seat6 KA kc K k A cx x w (by omega) h1 h2 hkv
    · exact dies_long2 KA kc _ _ k A cx w h1 h2 (len_of6 hv)
  · exact dies_long1 KA kc _ _ k A cx w h1 (len_of6 hkv) (len_of6 hv)
end Go.Proofs.Ytnhpacaoobpkhaa
