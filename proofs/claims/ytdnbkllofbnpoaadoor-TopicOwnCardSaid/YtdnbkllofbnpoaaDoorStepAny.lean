/- What the document's step comes to, at any bytes. -/
import Derived.Test.YtdnbkllofbnpoaaDoorStep
namespace Go.Proofs.YtdnbkllofbnpoaaDoor
open Go.RowKit Go.Lib

def stOk (l : List UInt8) : Bool := !((decodeL l).1 == 65533 && (decodeL l).2 == 1)
def stRu (l : List UInt8) : Int := if stOk l then ((decodeL l).1 : Int) else 0

theorem st_bad {l : List UInt8} (h : decodeL l = (65533, 1)) : Ending.returned (.tuple #[.int .i32 0, .int .i64 1, .bool false]) = Ending.returned (.tuple #[.int .i32 (stRu l), .int .i64 ((decodeL l).2 : Nat), .bool (stOk l)]) := by
  have h1 : stOk l = false := by unfold stOk; rw [h]; rfl
  have h2 : stRu l = 0 := by unfold stRu; rw [h1]; rfl
  rw [h1, h2, h]
  rfl
theorem st_good {l : List UInt8} {v k : Nat} {z y : Int} (h : decodeL l = (v, k)) (hz : z = (v : Int)) (hy : y = (k : Int)) (hk : v < 128 ∨ 1 < k) : Ending.returned (.tuple #[.int .i32 z, .int .i64 y, .bool true]) = Ending.returned (.tuple #[.int .i32 (stRu l), .int .i64 ((decodeL l).2 : Nat), .bool (stOk l)]) := by
  have h1 : stOk l = true := by
    unfold stOk
    rw [h, Bool.not_eq_true', Bool.and_eq_false_iff]
    rcases hk with hk | hk
    · left; exact beq_eq_false_iff_ne.2 (by show v ≠ 65533; omega)
    · right; exact beq_eq_false_iff_ne.2 (by show k ≠ 1; omega)
  have h2 : stRu l = (v : Int) := by unfold stRu; rw [h1, h]; rfl
  rw [h1, h2, h, hz, hy]

set_option maxRecDepth 100000 in
set_option maxHeartbeats 1000000 in
theorem step_any (ad : Addr) (c : Nat) (l : List UInt8) (w : World) (hne : l ≠ []) (hm : l.length ≤ 1000000) (hx : ∀ (j : Nat) (x : UInt8), l[j]? = some x → w.cell? (ad.add j) = some (.int .u8 (x.toNat : Int))) :
    Calls Tryd.prog 40 #[.slice (some ad) l.length c] w fun e w' => e = .returned (.tuple #[.int .i32 (stRu l), .int .i64 ((decodeL l).2 : Nat), .bool (stOk l)]) ∧ w = w' := by
  have hl : 0 < l.length := List.length_pos_iff.2 hne
  have hN := decodeL_N l
  have hsh := decodeN_shape l.length (l.getD 0 0).toNat (l.getD 1 0).toNat (l.getD 2 0).toNat (l.getD 3 0).toNat
  have hg : ∀ j, j < l.length → l[j]? = some (l.getD j 0) := fun j hj => by simp [List.getD, List.getElem?_eq_getElem hj]
  have c0 : w.cell? ad = some (.int .u8 ((l.getD 0 0).toNat : Int)) := by
    have := hx 0 _ (hg 0 hl)
    simpa [Addr.add] using this
  have c1 : 1 < l.length → w.cell? ⟨ad.block, ad.off + 1, none⟩ = some (.int .u8 ((l.getD 1 0).toNat : Int)) := fun h => hx 1 _ (hg 1 h)
  have c2 : 2 < l.length → w.cell? ⟨ad.block, ad.off + 2, none⟩ = some (.int .u8 ((l.getD 2 0).toNat : Int)) := fun h => hx 2 _ (hg 2 h)
  have c3 : 3 < l.length → w.cell? ⟨ad.block, ad.off + 3, none⟩ = some (.int .u8 ((l.getD 3 0).toNat : Int)) := fun h => hx 3 _ (hg 3 h)
  have k0 := (l.getD 0 0).toNat_lt
  have k1 := (l.getD 1 0).toNat_lt
  have k2 := (l.getD 2 0).toNat_lt
  have k3 := (l.getD 3 0).toNat_lt
  clear hx hg
  generalize hn : l.length = n at *
  generalize (l.getD 0 0).toNat = b0 at *
  generalize (l.getD 1 0).toNat = b1 at *
  generalize (l.getD 2 0).toNat = b2 at *
  generalize (l.getD 3 0).toNat = b3 at *
  have y1 := fun h : b1 / 64 = 2 => cont_yes b1 k1 h
  have y2 := fun h : b2 / 64 = 2 => cont_yes b2 k2 h
  have y3 := fun h : b3 / 64 = 2 => cont_yes b3 k3 h
  have n1 := fun h : ¬ b1 / 64 = 2 => cont_no b1 k1 h
  have n2 := fun h : ¬ b2 / 64 = 2 => cont_no b2 k2 h
  have n3 := fun h : ¬ b3 / 64 = 2 => cont_no b3 k3 h
  by_cases a1 : b0 < 128
  · exact (st1 ad c n b0 w c0 a1 (by omega) hm).mono fun _ _ ⟨he, hw⟩ => ⟨he.trans (st_good (v := b0) (k := 1) (h := by rw [hN]; unfold decodeN; rw [if_pos a1]) (by omega) (by omega) (by omega)), hw⟩
  by_cases a2 : b0 < 192
  · exact (stBadA ad c n b0 w c0 (by omega) a2 (by omega) hm).mono fun _ _ ⟨he, hw⟩ => ⟨he.trans (st_bad (by rw [hN]; rcases hsh with ⟨_, q⟩ | ⟨_, _, _, _, q⟩ | ⟨_, _, _, _, _, _, q⟩ | ⟨_, _, _, _, _, _, _, q⟩ | q <;> first | exact q | (exfalso; omega))), hw⟩
  by_cases a3 : b0 < 224
  · by_cases s : n < 2
    · exact (st2short ad c n b0 w c0 (by omega) a3 (by omega) s hm).mono fun _ _ ⟨he, hw⟩ => ⟨he.trans (st_bad (by rw [hN]; rcases hsh with ⟨_, q⟩ | ⟨_, _, _, _, q⟩ | ⟨_, _, _, _, _, _, q⟩ | ⟨_, _, _, _, _, _, _, q⟩ | q <;> first | exact q | (exfalso; omega))), hw⟩
    by_cases q1 : b1 / 64 = 2
    · by_cases v1 : (b0 : Int) % 32 * 64 + (b1 : Int) % 64 ≤ 127
      · exact (st2small ad c n b0 b1 w c0 (c1 (by omega)) (by omega) a3 (by omega) (y1 q1) k1 v1 hm).mono fun _ _ ⟨he, hw⟩ => ⟨he.trans (st_bad (by rw [hN]; rcases hsh with ⟨_, q⟩ | ⟨_, _, _, _, q⟩ | ⟨_, _, _, _, _, _, q⟩ | ⟨_, _, _, _, _, _, _, q⟩ | q <;> first | exact q | (exfalso; omega))), hw⟩
      · exact (st2ok ad c n b0 b1 w c0 (c1 (by omega)) (by omega) a3 (by omega) (y1 q1) k1 (by omega) hm).mono fun _ _ ⟨he, hw⟩ => ⟨he.trans (st_good (v := b0 % 32 * 64 + b1 % 64) (k := 2) (h := by rw [hN]; unfold decodeN; rw [if_neg (by omega), if_pos ⟨by omega, by omega, q1⟩, if_pos (by omega)]) (by omega) (by omega) (by omega)), hw⟩
    · exact (st2bad1 ad c n b0 b1 w c0 (c1 (by omega)) (by omega) a3 (by omega) (n1 q1) hm).mono fun _ _ ⟨he, hw⟩ => ⟨he.trans (st_bad (by rw [hN]; rcases hsh with ⟨_, q⟩ | ⟨_, _, _, _, q⟩ | ⟨_, _, _, _, _, _, q⟩ | ⟨_, _, _, _, _, _, _, q⟩ | q <;> first | exact q | (exfalso; omega))), hw⟩
  by_cases a4 : b0 < 240
  · by_cases s : n < 3
    · exact (st3short ad c n b0 w c0 (by omega) a4 (by omega) s hm).mono fun _ _ ⟨he, hw⟩ => ⟨he.trans (st_bad (by rw [hN]; rcases hsh with ⟨_, q⟩ | ⟨_, _, _, _, q⟩ | ⟨_, _, _, _, _, _, q⟩ | ⟨_, _, _, _, _, _, _, q⟩ | q <;> first | exact q | (exfalso; omega))), hw⟩
    by_cases q1 : b1 / 64 = 2
    · by_cases q2 : b2 / 64 = 2
      · by_cases v1 : ((b0 : Int) % 16 * 64 + (b1 : Int) % 64) * 64 + (b2 : Int) % 64 ≤ 2047
        · exact (st3small ad c n b0 b1 b2 w c0 (c1 (by omega)) (c2 (by omega)) (by omega) a4 (by omega) (y1 q1) k1 (y2 q2) k2 v1 hm).mono fun _ _ ⟨he, hw⟩ => ⟨he.trans (st_bad (by rw [hN]; rcases hsh with ⟨_, q⟩ | ⟨_, _, _, _, q⟩ | ⟨_, _, _, _, _, _, q⟩ | ⟨_, _, _, _, _, _, _, q⟩ | q <;> first | exact q | (exfalso; omega))), hw⟩
        by_cases v2 : ((b0 : Int) % 16 * 64 + (b1 : Int) % 64) * 64 + (b2 : Int) % 64 ≤ 55295
        · exact (st3okA ad c n b0 b1 b2 w c0 (c1 (by omega)) (c2 (by omega)) (by omega) a4 (by omega) (y1 q1) k1 (y2 q2) k2 (by omega) v2 hm).mono fun _ _ ⟨he, hw⟩ => ⟨he.trans (st_good (v := b0 % 16 * 4096 + b1 % 64 * 64 + b2 % 64) (k := 3) (h := by rw [hN]; unfold decodeN; rw [if_neg (by omega), if_neg (by omega), if_pos ⟨by omega, ⟨by omega, q1⟩, by omega, q2⟩, if_pos ⟨by omega, by omega⟩]) (by omega) (by omega) (by omega)), hw⟩
        by_cases v3 : ((b0 : Int) % 16 * 64 + (b1 : Int) % 64) * 64 + (b2 : Int) % 64 ≤ 57343
        · exact (st3sur ad c n b0 b1 b2 w c0 (c1 (by omega)) (c2 (by omega)) (by omega) a4 (by omega) (y1 q1) k1 (y2 q2) k2 (by omega) v3 hm).mono fun _ _ ⟨he, hw⟩ => ⟨he.trans (st_bad (by rw [hN]; rcases hsh with ⟨_, q⟩ | ⟨_, _, _, _, q⟩ | ⟨_, _, _, _, _, _, q⟩ | ⟨_, _, _, _, _, _, _, q⟩ | q <;> first | exact q | (exfalso; omega))), hw⟩
        · exact (st3okB ad c n b0 b1 b2 w c0 (c1 (by omega)) (c2 (by omega)) (by omega) a4 (by omega) (y1 q1) k1 (y2 q2) k2 (by omega) hm).mono fun _ _ ⟨he, hw⟩ => ⟨he.trans (st_good (v := b0 % 16 * 4096 + b1 % 64 * 64 + b2 % 64) (k := 3) (h := by rw [hN]; unfold decodeN; rw [if_neg (by omega), if_neg (by omega), if_pos ⟨by omega, ⟨by omega, q1⟩, by omega, q2⟩, if_pos ⟨by omega, by omega⟩]) (by omega) (by omega) (by omega)), hw⟩
      · exact (st3bad2 ad c n b0 b1 b2 w c0 (c1 (by omega)) (c2 (by omega)) (by omega) a4 (by omega) (y1 q1) k1 (n2 q2) hm).mono fun _ _ ⟨he, hw⟩ => ⟨he.trans (st_bad (by rw [hN]; rcases hsh with ⟨_, q⟩ | ⟨_, _, _, _, q⟩ | ⟨_, _, _, _, _, _, q⟩ | ⟨_, _, _, _, _, _, _, q⟩ | q <;> first | exact q | (exfalso; omega))), hw⟩
    · exact (st3bad1 ad c n b0 b1 w c0 (c1 (by omega)) (by omega) a4 (by omega) (n1 q1) hm).mono fun _ _ ⟨he, hw⟩ => ⟨he.trans (st_bad (by rw [hN]; rcases hsh with ⟨_, q⟩ | ⟨_, _, _, _, q⟩ | ⟨_, _, _, _, _, _, q⟩ | ⟨_, _, _, _, _, _, _, q⟩ | q <;> first | exact q | (exfalso; omega))), hw⟩
  by_cases a5 : b0 < 248
  · by_cases s : n < 4
    · exact (st4short ad c n b0 w c0 (by omega) a5 (by omega) s hm).mono fun _ _ ⟨he, hw⟩ => ⟨he.trans (st_bad (by rw [hN]; rcases hsh with ⟨_, q⟩ | ⟨_, _, _, _, q⟩ | ⟨_, _, _, _, _, _, q⟩ | ⟨_, _, _, _, _, _, _, q⟩ | q <;> first | exact q | (exfalso; omega))), hw⟩
    by_cases q1 : b1 / 64 = 2
    · by_cases q2 : b2 / 64 = 2
      · by_cases q3 : b3 / 64 = 2
        · by_cases v1 : (((b0 : Int) % 8 * 64 + (b1 : Int) % 64) * 64 + (b2 : Int) % 64) * 64 + (b3 : Int) % 64 ≤ 65535
          · exact (st4small ad c n b0 b1 b2 b3 w c0 (c1 (by omega)) (c2 (by omega)) (c3 (by omega)) (by omega) a5 (by omega) (y1 q1) k1 (y2 q2) k2 (y3 q3) k3 v1 hm).mono fun _ _ ⟨he, hw⟩ => ⟨he.trans (st_bad (by rw [hN]; rcases hsh with ⟨_, q⟩ | ⟨_, _, _, _, q⟩ | ⟨_, _, _, _, _, _, q⟩ | ⟨_, _, _, _, _, _, _, q⟩ | q <;> first | exact q | (exfalso; omega))), hw⟩
          by_cases v2 : (((b0 : Int) % 8 * 64 + (b1 : Int) % 64) * 64 + (b2 : Int) % 64) * 64 + (b3 : Int) % 64 ≤ 1114111
          · exact (st4ok ad c n b0 b1 b2 b3 w c0 (c1 (by omega)) (c2 (by omega)) (c3 (by omega)) (by omega) a5 (by omega) (y1 q1) k1 (y2 q2) k2 (y3 q3) k3 (by omega) v2 hm).mono fun _ _ ⟨he, hw⟩ => ⟨he.trans (st_good (v := b0 % 8 * 262144 + b1 % 64 * 4096 + b2 % 64 * 64 + b3 % 64) (k := 4) (h := by rw [hN]; unfold decodeN; rw [if_neg (by omega), if_neg (by omega), if_neg (by omega), if_pos ⟨by omega, ⟨by omega, q1⟩, ⟨by omega, q2⟩, by omega, q3⟩, if_pos ⟨by omega, by omega⟩]) (by omega) (by omega) (by omega)), hw⟩
          · exact (st4big ad c n b0 b1 b2 b3 w c0 (c1 (by omega)) (c2 (by omega)) (c3 (by omega)) (by omega) a5 (by omega) (y1 q1) k1 (y2 q2) k2 (y3 q3) k3 (by omega) hm).mono fun _ _ ⟨he, hw⟩ => ⟨he.trans (st_bad (by rw [hN]; rcases hsh with ⟨_, q⟩ | ⟨_, _, _, _, q⟩ | ⟨_, _, _, _, _, _, q⟩ | ⟨_, _, _, _, _, _, _, q⟩ | q <;> first | exact q | (exfalso; omega))), hw⟩
        · exact (st4bad3 ad c n b0 b1 b2 b3 w c0 (c1 (by omega)) (c2 (by omega)) (c3 (by omega)) (by omega) a5 (by omega) (y1 q1) k1 (y2 q2) k2 (n3 q3) hm).mono fun _ _ ⟨he, hw⟩ => ⟨he.trans (st_bad (by rw [hN]; rcases hsh with ⟨_, q⟩ | ⟨_, _, _, _, q⟩ | ⟨_, _, _, _, _, _, q⟩ | ⟨_, _, _, _, _, _, _, q⟩ | q <;> first | exact q | (exfalso; omega))), hw⟩
      · exact (st4bad2 ad c n b0 b1 b2 w c0 (c1 (by omega)) (c2 (by omega)) (by omega) a5 (by omega) (y1 q1) k1 (n2 q2) hm).mono fun _ _ ⟨he, hw⟩ => ⟨he.trans (st_bad (by rw [hN]; rcases hsh with ⟨_, q⟩ | ⟨_, _, _, _, q⟩ | ⟨_, _, _, _, _, _, q⟩ | ⟨_, _, _, _, _, _, _, q⟩ | q <;> first | exact q | (exfalso; omega))), hw⟩
    · exact (st4bad1 ad c n b0 b1 w c0 (c1 (by omega)) (by omega) a5 (by omega) (n1 q1) hm).mono fun _ _ ⟨he, hw⟩ => ⟨he.trans (st_bad (by rw [hN]; rcases hsh with ⟨_, q⟩ | ⟨_, _, _, _, q⟩ | ⟨_, _, _, _, _, _, q⟩ | ⟨_, _, _, _, _, _, _, q⟩ | q <;> first | exact q | (exfalso; omega))), hw⟩
  · exact (stBadB ad c n b0 w c0 (by omega) k0 (by omega) hm).mono fun _ _ ⟨he, hw⟩ => ⟨he.trans (st_bad (by rw [hN]; rcases hsh with ⟨_, q⟩ | ⟨_, _, _, _, q⟩ | ⟨_, _, _, _, _, _, q⟩ | ⟨_, _, _, _, _, _, _, q⟩ | q <;> first | exact q | (exfalso; omega))), hw⟩
end Go.Proofs.YtdnbkllofbnpoaaDoor
