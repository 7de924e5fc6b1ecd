/- The last step of the document's matches, way by way. Written by gen_rmat.py. -/
import Derived.Test.YtdnbkllofbnpoaaDoorTr2
import Derived.Deep.RegionHeld3
import Derived.Deep.DrawnRows
namespace Go.Proofs.YtdnbkllofbnpoaaDoor
open Go.RowKit Go.Lib
set_option linter.unusedVariables false
attribute [local go_sem ↓] Go.wp_at_zero Go.wp_at_succ

set_option maxRecDepth 100000 in
set_option maxHeartbeats 2000000 in
theorem rm_a00 (x y : List UInt8) (F N : List (List UInt8)) (b1 o1 c1 b2 o2 c2 : Nat) (w : World) (R : Bool) (lF : F.length ≤ 1000001) (lN : N.length ≤ 1000001) (h35 : (x == [35]) = false) (h43 : (x == [43]) = false) (hxy : (x == y) = true)
    (cx : w.cell? ⟨b1, o1, none⟩ = some (.string (bs x))) (cy : w.cell? ⟨b2, o2, none⟩ = some (.string (bs y))) (hm1 : c1 ≤ maxLen) (hm2 : c2 ≤ maxLen)
    (hc1 : F.length + 1 ≤ c1) (n1 : ¬ c1 = 1)
    (hc2 : N.length + 1 ≤ c2) (n2 : ¬ c2 = 1)
    (IH : Calls Tryd.prog 31 #[.slice (some ⟨b1, o1 + 1, none⟩) F.length (c1 - 1), .slice (some ⟨b2, o2 + 1, none⟩) N.length (c2 - 1)] w.drew fun e w' => e = .returned (.bool R) ∧ Below w.drew.heap.size w.drew w' ∧ w'.cell? ⟨b1, o1, none⟩ = some (.string (bs x)) ∧ w'.cell? ⟨b2, o2, none⟩ = some (.string (bs y))) :
    Calls Tryd.prog 31 #[.slice (some ⟨b1, o1, none⟩) (F.length + 1) c1, .slice (some ⟨b2, o2, none⟩) (N.length + 1) c2] w fun e w' => e = .returned (.bool R) ∧ Below w.heap.size w w' := by
  have ex : (bs x).toList = x := bs_toList x
  have ey : (bs y).toList = y := bs_toList y
  have hz1 := len_z F
  have hp1 := len_p F
  have hb1 : (1 : Int) ≤ (F.length : Int) + 1 := by omega
  have hd1 : (F.length : Int) + 1 ≤ (c1 : Int) := by omega
  have he1 : F.length + 1 ≤ c1 := by omega
  have hz2 := len_z N
  have hp2 := len_p N
  have hb2 : (1 : Int) ≤ (N.length : Int) + 1 := by omega
  have hd2 : (N.length : Int) + 1 ≤ (c2 : Int) := by omega
  have he2 : N.length + 1 ≤ c2 := by omega
  go_enter Tryd.func31, Tryd.ntmps31
  go_wp2_with fail
  first | go_region_held3 (fun w' => w'.cell? ⟨b1, o1, none⟩ = some (.string (bs x)) ∧ w'.cell? ⟨b2, o2, none⟩ = some (.string (bs y))) (go_keep) (first | (go_at_call 31; refine IH.mono ?_; rintro e w' ⟨rfl, hbx, hk1, hk2⟩)) | fail
  go_wp2
  go_ret
  exact ⟨rfl, thn (Below.refl _ _).drew hbx⟩

set_option maxRecDepth 100000 in
set_option maxHeartbeats 2000000 in
theorem rm_a01 (x y : List UInt8) (F N : List (List UInt8)) (b1 o1 c1 b2 o2 c2 : Nat) (w : World) (R : Bool) (lF : F.length ≤ 1000001) (lN : N.length ≤ 1000001) (h35 : (x == [35]) = false) (h43 : (x == [43]) = false) (hxy : (x == y) = true)
    (cx : w.cell? ⟨b1, o1, none⟩ = some (.string (bs x))) (cy : w.cell? ⟨b2, o2, none⟩ = some (.string (bs y))) (hm1 : c1 ≤ maxLen) (hm2 : c2 ≤ maxLen)
    (hc1 : F.length + 1 ≤ c1) (n1 : ¬ c1 = 1)
    (IH : Calls Tryd.prog 31 #[.slice (some ⟨b1, o1 + 1, none⟩) F.length (c1 - 1), .slice (some ⟨b2, o2, none⟩) 0 0] w.drew fun e w' => e = .returned (.bool R) ∧ Below w.drew.heap.size w.drew w' ∧ w'.cell? ⟨b1, o1, none⟩ = some (.string (bs x)) ∧ w'.cell? ⟨b2, o2, none⟩ = some (.string (bs y))) :
    Calls Tryd.prog 31 #[.slice (some ⟨b1, o1, none⟩) (F.length + 1) c1, .slice (some ⟨b2, o2, none⟩) 1 1] w fun e w' => e = .returned (.bool R) ∧ Below w.heap.size w w' := by
  have ex : (bs x).toList = x := bs_toList x
  have ey : (bs y).toList = y := bs_toList y
  have hz1 := len_z F
  have hp1 := len_p F
  have hb1 : (1 : Int) ≤ (F.length : Int) + 1 := by omega
  have hd1 : (F.length : Int) + 1 ≤ (c1 : Int) := by omega
  have he1 : F.length + 1 ≤ c1 := by omega
  go_enter Tryd.func31, Tryd.ntmps31
  go_wp2_with fail
  first | go_region_held3 (fun w' => w'.cell? ⟨b1, o1, none⟩ = some (.string (bs x)) ∧ w'.cell? ⟨b2, o2, none⟩ = some (.string (bs y))) (go_keep) (first | (go_at_call 31; refine IH.mono ?_; rintro e w' ⟨rfl, hbx, hk1, hk2⟩)) | fail
  go_wp2
  go_ret
  exact ⟨rfl, thn (Below.refl _ _).drew hbx⟩

set_option maxRecDepth 100000 in
set_option maxHeartbeats 2000000 in
theorem rm_a10 (x y : List UInt8) (F N : List (List UInt8)) (b1 o1 c1 b2 o2 c2 : Nat) (w : World) (R : Bool) (lF : F.length ≤ 1000001) (lN : N.length ≤ 1000001) (h35 : (x == [35]) = false) (h43 : (x == [43]) = false) (hxy : (x == y) = true)
    (cx : w.cell? ⟨b1, o1, none⟩ = some (.string (bs x))) (cy : w.cell? ⟨b2, o2, none⟩ = some (.string (bs y))) (hm1 : c1 ≤ maxLen) (hm2 : c2 ≤ maxLen)
    (hc2 : N.length + 1 ≤ c2) (n2 : ¬ c2 = 1)
    (IH : Calls Tryd.prog 31 #[.slice (some ⟨b1, o1, none⟩) 0 0, .slice (some ⟨b2, o2 + 1, none⟩) N.length (c2 - 1)] w.drew fun e w' => e = .returned (.bool R) ∧ Below w.drew.heap.size w.drew w' ∧ w'.cell? ⟨b1, o1, none⟩ = some (.string (bs x)) ∧ w'.cell? ⟨b2, o2, none⟩ = some (.string (bs y))) :
    Calls Tryd.prog 31 #[.slice (some ⟨b1, o1, none⟩) 1 1, .slice (some ⟨b2, o2, none⟩) (N.length + 1) c2] w fun e w' => e = .returned (.bool R) ∧ Below w.heap.size w w' := by
  have ex : (bs x).toList = x := bs_toList x
  have ey : (bs y).toList = y := bs_toList y
  have hz2 := len_z N
  have hp2 := len_p N
  have hb2 : (1 : Int) ≤ (N.length : Int) + 1 := by omega
  have hd2 : (N.length : Int) + 1 ≤ (c2 : Int) := by omega
  have he2 : N.length + 1 ≤ c2 := by omega
  go_enter Tryd.func31, Tryd.ntmps31
  go_wp2_with fail
  first | go_region_held3 (fun w' => w'.cell? ⟨b1, o1, none⟩ = some (.string (bs x)) ∧ w'.cell? ⟨b2, o2, none⟩ = some (.string (bs y))) (go_keep) (first | (go_at_call 31; refine IH.mono ?_; rintro e w' ⟨rfl, hbx, hk1, hk2⟩)) | fail
  go_wp2
  go_ret
  exact ⟨rfl, thn (Below.refl _ _).drew hbx⟩

set_option maxRecDepth 100000 in
set_option maxHeartbeats 2000000 in
theorem rm_a11 (x y : List UInt8) (F N : List (List UInt8)) (b1 o1 c1 b2 o2 c2 : Nat) (w : World) (R : Bool) (lF : F.length ≤ 1000001) (lN : N.length ≤ 1000001) (h35 : (x == [35]) = false) (h43 : (x == [43]) = false) (hxy : (x == y) = true)
    (cx : w.cell? ⟨b1, o1, none⟩ = some (.string (bs x))) (cy : w.cell? ⟨b2, o2, none⟩ = some (.string (bs y))) (hm1 : c1 ≤ maxLen) (hm2 : c2 ≤ maxLen)
    (IH : Calls Tryd.prog 31 #[.slice (some ⟨b1, o1, none⟩) 0 0, .slice (some ⟨b2, o2, none⟩) 0 0] w.drew fun e w' => e = .returned (.bool R) ∧ Below w.drew.heap.size w.drew w' ∧ w'.cell? ⟨b1, o1, none⟩ = some (.string (bs x)) ∧ w'.cell? ⟨b2, o2, none⟩ = some (.string (bs y))) :
    Calls Tryd.prog 31 #[.slice (some ⟨b1, o1, none⟩) 1 1, .slice (some ⟨b2, o2, none⟩) 1 1] w fun e w' => e = .returned (.bool R) ∧ Below w.heap.size w w' := by
  have ex : (bs x).toList = x := bs_toList x
  have ey : (bs y).toList = y := bs_toList y
  go_enter Tryd.func31, Tryd.ntmps31
  go_wp2_with fail
  first | go_region_held3 (fun w' => w'.cell? ⟨b1, o1, none⟩ = some (.string (bs x)) ∧ w'.cell? ⟨b2, o2, none⟩ = some (.string (bs y))) (go_keep) (first | (go_at_call 31; refine IH.mono ?_; rintro e w' ⟨rfl, hbx, hk1, hk2⟩)) | fail
  go_wp2
  go_ret
  exact ⟨rfl, thn (Below.refl _ _).drew hbx⟩
end Go.Proofs.YtdnbkllofbnpoaaDoor
