/- The law UtfEdges: its walk. -/
import Derived.Test.YtdefmeffdcpcaaaRefPlace
import Derived.Test.YtdefmeffdcpcaaaKnown
import Derived.Test.YtdefmeffdcpcaaaTells
import Derived.Deep.DeepCutAuto
namespace Go.Proofs.Ytdefmeffdcpcaaa
open Go.RowKit Go.Lib

/-- A row of eight short slices of bytes. -/
def EdgeRow (w : World) (g : Nat) : Prop :=
  g < w.heap.size ∧ ∀ j, j < 8 → ∃ (A : Option Addr) (n c : Nat) (l : List UInt8), w.cell? ⟨g, j, none⟩ = some (.slice A n c) ∧ BytesAt w w.heap.size (.slice A n c) l ∧ l.length ≤ 4

theorem EdgeRow.on {w w' : World} {g : Nat} (h : EdgeRow w g) (hb : Below w.heap.size w w') : EdgeRow w' g := by
  refine ⟨Nat.lt_of_lt_of_le h.1 hb.size, fun j hj => ?_⟩
  obtain ⟨A, n, c, l, h1, h2, h3⟩ := h.2 j hj
  exact ⟨A, n, c, l, (hb.cell (p := ⟨g, j, none⟩) h.1).trans h1, h2.on hb, h3⟩

theorem lit_bytes (w : World) (vs : List Int) (h : ∀ v ∈ vs, 0 ≤ v ∧ v < 256) (hl : vs.length ≤ 4) (w' : World) (hb : Below (w.alloc (.cells (vs.map (Value.int .u8)).toArray 5)).heap.size (w.alloc (.cells (vs.map (Value.int .u8)).toArray 5)) w') :
    ∃ l : List UInt8, BytesAt w' w'.heap.size (.slice (some ⟨w.heap.size, 0, none⟩) vs.length vs.length) l ∧ l.length ≤ 4 := by
  have hC : (vs.map (Value.int .u8)).toArray = ((vs.map fun v => UInt8.ofNat v.toNat).map fun b => Value.int .u8 (b.toNat : Int)).toArray := by
    congr 1
    rw [List.map_map]
    apply List.map_congr_left
    intro v hv
    have := h v hv
    show Value.int .u8 v = Value.int .u8 ((UInt8.ofNat v.toNat).toNat : Int)
    rw [ofNat_toNat (by omega)]
    congr 1
    omega
  have hb1 := bytesAt_new w (vs.map fun v => UInt8.ofNat v.toNat) _ (0, 0) hC (by rw [List.length_map]; unfold maxLen; omega)
  rw [List.length_map] at hb1
  refine ⟨vs.map fun v => UInt8.ofNat v.toNat, ?_, by rw [List.length_map]; exact hl⟩
  refine BytesAt.on (w := w.alloc (.cells (vs.map (Value.int .u8)).toArray 5)) ?_ hb
  rw [World.size_alloc]
  exact hb1

theorem alB {a w : World} (h : Below a.heap.size a w) (o : Obj) : Below a.heap.size a (w.alloc o) := h.alloc h.size o

theorem edge_of {w : World} {x : Option Value} {A : Option Addr} {n c : Nat} (hx : x = some (.slice A n c)) (h : ∃ l : List UInt8, BytesAt w w.heap.size (.slice A n c) l ∧ l.length ≤ 4) :
    ∃ (A : Option Addr) (n c : Nat) (l : List UInt8), x = some (.slice A n c) ∧ BytesAt w w.heap.size (.slice A n c) l ∧ l.length ≤ 4 := by
  obtain ⟨l, h1, h2⟩ := h
  exact ⟨A, n, c, l, hx, h1, h2⟩

theorem edge8 (w : World) (v0 v1 v2 v3 v4 v5 v6 v7 : List Int) (l0 : v0.length ≤ 4) (l1 : v1.length ≤ 4) (l2 : v2.length ≤ 4) (l3 : v3.length ≤ 4) (l4 : v4.length ≤ 4) (l5 : v5.length ≤ 4) (l6 : v6.length ≤ 4) (l7 : v7.length ≤ 4)
    (h0 : ∀ v ∈ v0, 0 ≤ v ∧ v < 256) (h1 : ∀ v ∈ v1, 0 ≤ v ∧ v < 256) (h2 : ∀ v ∈ v2, 0 ≤ v ∧ v < 256) (h3 : ∀ v ∈ v3, 0 ≤ v ∧ v < 256) (h4 : ∀ v ∈ v4, 0 ≤ v ∧ v < 256) (h5 : ∀ v ∈ v5, 0 ≤ v ∧ v < 256) (h6 : ∀ v ∈ v6, 0 ≤ v ∧ v < 256) (h7 : ∀ v ∈ v7, 0 ≤ v ∧ v < 256) :
    EdgeRow (((((((((w.alloc (.cells (v0.map (Value.int .u8)).toArray 5)).alloc (.cells (v1.map (Value.int .u8)).toArray 5)).alloc (.cells (v2.map (Value.int .u8)).toArray 5)).alloc (.cells (v3.map (Value.int .u8)).toArray 5)).alloc (.cells (v4.map (Value.int .u8)).toArray 5)).alloc (.cells (v5.map (Value.int .u8)).toArray 5)).alloc (.cells (v6.map (Value.int .u8)).toArray 5)).alloc (.cells (v7.map (Value.int .u8)).toArray 5)).alloc (.cells #[.slice (some ⟨w.heap.size, 0, none⟩) v0.length v0.length, .slice (some ⟨w.heap.size + 1, 0, none⟩) v1.length v1.length, .slice (some ⟨w.heap.size + 1 + 1, 0, none⟩) v2.length v2.length, .slice (some ⟨w.heap.size + 1 + 1 + 1, 0, none⟩) v3.length v3.length, .slice (some ⟨w.heap.size + 1 + 1 + 1 + 1, 0, none⟩) v4.length v4.length, .slice (some ⟨w.heap.size + 1 + 1 + 1 + 1 + 1, 0, none⟩) v5.length v5.length, .slice (some ⟨w.heap.size + 1 + 1 + 1 + 1 + 1 + 1, 0, none⟩) v6.length v6.length, .slice (some ⟨w.heap.size + 1 + 1 + 1 + 1 + 1 + 1 + 1, 0, none⟩) v7.length v7.length] 22))
      (w.heap.size + 1 + 1 + 1 + 1 + 1 + 1 + 1 + 1) := by
  generalize hW1 : w.alloc (.cells (v0.map (Value.int .u8)).toArray 5) = W1
  generalize hW2 : W1.alloc (.cells (v1.map (Value.int .u8)).toArray 5) = W2
  generalize hW3 : W2.alloc (.cells (v2.map (Value.int .u8)).toArray 5) = W3
  generalize hW4 : W3.alloc (.cells (v3.map (Value.int .u8)).toArray 5) = W4
  generalize hW5 : W4.alloc (.cells (v4.map (Value.int .u8)).toArray 5) = W5
  generalize hW6 : W5.alloc (.cells (v5.map (Value.int .u8)).toArray 5) = W6
  generalize hW7 : W6.alloc (.cells (v6.map (Value.int .u8)).toArray 5) = W7
  generalize hW8 : W7.alloc (.cells (v7.map (Value.int .u8)).toArray 5) = W8
  have s1 : W1.heap.size = w.heap.size + 1 := by rw [← hW1, World.size_alloc]
  have s2 : W2.heap.size = W1.heap.size + 1 := by rw [← hW2, World.size_alloc]
  have s3 : W3.heap.size = W2.heap.size + 1 := by rw [← hW3, World.size_alloc]
  have s4 : W4.heap.size = W3.heap.size + 1 := by rw [← hW4, World.size_alloc]
  have s5 : W5.heap.size = W4.heap.size + 1 := by rw [← hW5, World.size_alloc]
  have s6 : W6.heap.size = W5.heap.size + 1 := by rw [← hW6, World.size_alloc]
  have s7 : W7.heap.size = W6.heap.size + 1 := by rw [← hW7, World.size_alloc]
  have s8 : W8.heap.size = W7.heap.size + 1 := by rw [← hW8, World.size_alloc]
  rw [← s1, ← s2, ← s3, ← s4, ← s5, ← s6, ← s7, ← s8]
  have b7 : Below W7.heap.size W7 W8 := by rw [← hW8]; exact alB (Below.refl _ _) _
  have b6 : Below W6.heap.size W6 W8 := thn (by rw [← hW7]; exact alB (Below.refl _ _) _) b7
  have b5 : Below W5.heap.size W5 W8 := thn (by rw [← hW6]; exact alB (Below.refl _ _) _) b6
  have b4 : Below W4.heap.size W4 W8 := thn (by rw [← hW5]; exact alB (Below.refl _ _) _) b5
  have b3 : Below W3.heap.size W3 W8 := thn (by rw [← hW4]; exact alB (Below.refl _ _) _) b4
  have b2 : Below W2.heap.size W2 W8 := thn (by rw [← hW3]; exact alB (Below.refl _ _) _) b3
  have b1 : Below W1.heap.size W1 W8 := thn (by rw [← hW2]; exact alB (Below.refl _ _) _) b2
  have b8 : Below W8.heap.size W8 W8 := Below.refl _ _
  refine ⟨by rw [World.size_alloc]; omega, fun j hj => ?_⟩
  rw [cell_of_row (W8.alloc _) W8.heap.size j _ 22 (0, 0) (heap_alloc_new W8 _)]
  match j, hj with
  | 0, _ => exact edge_of rfl (lit_bytes w v0 h0 l0 _ (by rw [hW1]; exact alB b1 _))
  | 1, _ => exact edge_of rfl (lit_bytes W1 v1 h1 l1 _ (by rw [hW2]; exact alB b2 _))
  | 2, _ => exact edge_of rfl (lit_bytes W2 v2 h2 l2 _ (by rw [hW3]; exact alB b3 _))
  | 3, _ => exact edge_of rfl (lit_bytes W3 v3 h3 l3 _ (by rw [hW4]; exact alB b4 _))
  | 4, _ => exact edge_of rfl (lit_bytes W4 v4 h4 l4 _ (by rw [hW5]; exact alB b5 _))
  | 5, _ => exact edge_of rfl (lit_bytes W5 v5 h5 l5 _ (by rw [hW6]; exact alB b6 _))
  | 6, _ => exact edge_of rfl (lit_bytes W6 v6 h6 l6 _ (by rw [hW7]; exact alB b7 _))
  | 7, _ => exact edge_of rfl (lit_bytes W7 v7 h7 l7 _ (by rw [hW8]; exact alB b8 _))

/-- The ten runes at the ends of each length. -/
def ten : List Int := [1, 127, 128, 2047, 2048, 55295, 57344, 65535, 65536, 1114111]
theorem ten_facts : ∀ i : Fin 10, chkL (encL (ten.getD i.val 0)) = -1 ∧ cnt (encL (ten.getD i.val 0)) = 1 ∧ rnsL (encL (ten.getD i.val 0)) = [ten.getD i.val 0] := by decide +kernel

theorem edge_rune (i : Nat) (hi : i < 10) : ∃ (R : Int) (S : ByteArray), (ten.map (Value.int .i32)).toArray[i]? = some (.int .i32 R) ∧ S = runesBytes [R] ∧ S.size ≤ 4 ∧ Hid (chkL S.data.toList = -1) ∧ Hid (cnt S.data.toList = 1) ∧ Hid (rnsL S.data.toList = [R]) := by
  have hl : i < ten.length := hi
  have h := ten_facts ⟨i, hi⟩
  have e : (runesBytes [ten.getD i 0]).data.toList = encL (ten.getD i 0) := by rw [runesBytes_list]; simp
  refine ⟨ten.getD i 0, _, ?_, rfl, ?_, ?_, ?_, ?_⟩
  · rw [List.getElem?_toArray, List.getElem?_map]
    simp [List.getD, List.getElem?_eq_getElem hl]
  · rw [← size_list, e]; exact (encL_len _).2
  · rw [e]; exact h.1
  · rw [e]; exact h.2.1
  · rw [e]; exact h.2.2

theorem bytesAt_conv (s : ByteArray) (w W : World) (c : Nat) (hs : W.heap.size = w.heap.size + 1) (hc : s.size ≤ c) (hx : ∀ (j : Nat) (x : UInt8), s.data.toList[j]? = some x → W.cell? (Addr.add ⟨w.heap.size, 0, none⟩ j) = some (.int .u8 (x.toNat : Int))) (hcm : c ≤ maxLen) :
    BytesAt W W.heap.size (.slice (some ⟨w.heap.size, 0, none⟩) s.size c) s.data.toList := by
  refine ⟨some ⟨w.heap.size, 0, none⟩, c, by rw [size_list], by rw [size_list]; exact hc, hcm, by simp, fun ad had _ => ?_, fun ad had j x hj => ?_⟩
  · injection had with had; subst had; show w.heap.size < W.heap.size; omega
  · injection had with had; subst had; exact hx j x hj

set_option maxRecDepth 100000 in
set_option maxHeartbeats 2000000 in
theorem edges_walk (kk ld a b c : Nat) (hkk : kk < 256) (hld : ld < 256) (ha : a < 256) (hb : b < 256) (hc : c < 256) (w : World) :
    Calls Try.prog 7 #[.int .u8 kk, .int .u8 ld, .int .u8 a, .int .u8 b, .int .u8 c] w fun e w' => e = .returned (.bool true) ∧ Below w.heap.size w w' := by
  go_enter Try.func7, Try.ntmps7
  go_wp2_with fail
  refine (known_any _).mono ?_
  rintro e w1 ⟨rfl, hb1⟩
  go_wp2_with fail
  go_loopw [71] (fun i wr => ∃ j : Nat, j ≤ 8 ∧ i = .int .i64 j ∧ EdgeRow wr (w1.heap.size + 1 + 1 + 1 + 1 + 1 + 1 + 1 + 1) ∧ Below w1.heap.size w1 wr) (fun i _ => 8 - (intOf i).toNat)
  case atStart =>
    refine ⟨0, by omega, rfl, ?_, alB (alB (alB (alB (alB (alB (alB (alB (alB (Below.refl _ _) _) _) _) _) _) _) _) _) _⟩
    refine edge8 w1 [(ld : Int)] [(ld : Int), (a : Int)] [(ld : Int), (a : Int), (b : Int)] [(ld : Int), (a : Int), (b : Int), (c : Int)] [224 + (ld : Int) % 16, 128 + (a : Int) % 64, 128 + (b : Int) % 64] [240 + (ld : Int) % 8, 128 + (a : Int) % 64, 128 + (b : Int) % 64, 128 + (c : Int) % 64] [192 + (ld : Int) % 32, 128 + (a : Int) % 64] [97, 224 + (ld : Int) % 16, 128 + (a : Int) % 64] ?_ ?_ ?_ ?_ ?_ ?_ ?_ ?_ ?_ ?_ ?_ ?_ ?_ ?_ ?_ ?_
    all_goals first | (intro v hv; simp at hv; omega) | (simp; done)
  case round =>
    obtain ⟨j, hj, rfl, hE, hbx⟩ := hrel
    have E := Lib.hid hE
    clear hE
    by_cases hlt : j < 8
    · obtain ⟨A3, n3, c3, l3, hX, hV, hl3⟩ := E.out.2 j hlt
      have V := Lib.hid hV
      have hcv := hV.conv
      obtain ⟨X, hXe⟩ : ∃ X : ByteArray, X = ⟨l3.toArray⟩ := ⟨_, rfl⟩
      rw [← hXe] at hcv
      have hXs : X.size ≤ 1000 := by rw [← size_list, hXe]; show l3.length ≤ 1000; omega
      clear hXe hV
      obtain ⟨L, hL, rR, fR, fC⟩ := tells_facts X hXs
      have q1 := check_any _ l3 wr V.out (by omega)
      have Q2 := Lib.hid (fun W (hb : Below wr.heap.size wr W) => rcheck_any _ l3 W _ (V.out.on hb) (by omega))
      generalize chkL l3 = q at *
      go_wp2_with fail
      refine q1.mono ?_
      rintro e w4 ⟨rfl, hb4⟩
      have q2 := Q2.out w4 hb4
      go_wp2_with fail
      refine q2.mono ?_
      rintro e w5 ⟨rfl, rfl⟩
      go_wp2_with fail
      refine (fC _).mono ?_
      rintro e w5 ⟨rfl, hb5⟩
      go_wp2_with fail
      refine (rR _).mono ?_
      rintro e w6 ⟨A6, c6, rfl, _, hb6⟩
      go_wp2_with fail
      go_roundw
      case rel => exact ⟨j + 1, by omega, by go_num, E.out.on (thn hb4 (thn hb5 hb6)), hbx.trans ((thn hb4 (thn hb5 hb6)).mono hbx.size)⟩
      case measure => simp [intOf]; omega
    · have hk10 : kk % 10 < 10 := Nat.mod_lt _ (by decide)
      obtain ⟨R, S, hT, hS, hSs, hch, hcn, hrn⟩ := edge_rune (kk % 10) hk10
      have hcell : (wr.alloc (.cells #[.int .i32 1, .int .i32 127, .int .i32 128, .int .i32 2047, .int .i32 2048, .int .i32 55295, .int .i32 57344, .int .i32 65535, .int .i32 65536, .int .i32 1114111] 21)).cell? ⟨wr.heap.size, kk % 10, none⟩ = some (.int .i32 R) := by
        rw [cell_of_row (wr.alloc _) wr.heap.size _ _ 21 (0, 0) (heap_alloc_new wr _)]
        exact hT
      have fB : ∀ (W : World) (bl : Nat), W.heap.size = bl → Calls Try.prog 21 #[.slice (some ⟨bl, 0, none⟩) 1 1] (W.alloc (.cells #[.int .i32 R] 21)) fun e w' => e = .returned (.string S) ∧ Below W.heap.size W w' := fun W bl hbl => by
        subst hbl
        exact (back_any _ [R] _ _ (runesAt_new W [R] _ rfl)).mono fun _ _ ⟨h1, h2⟩ => ⟨by rw [h1, hS], by rw [← h2]; exact alB (Below.refl _ _) _⟩
      have HS := Lib.hid hS
      clear hS hT
      have HB := Lib.hid (alB (Below.refl wr.heap.size wr) (.cells #[.int .i32 1, .int .i32 127, .int .i32 128, .int .i32 2047, .int .i32 2048, .int .i32 55295, .int .i32 57344, .int .i32 65535, .int .i32 65536, .int .i32 1114111] 21))
      go_wp2_with fail
      refine (fB _ _ (by simp)).mono ?_
      rintro e w5 ⟨rfl, hb5⟩
      have B5 := thn HB.out hb5
      clear hb5 fB hcell
      obtain ⟨W6, c6, hcv6, hb6, hs6, hge6, hx6, hcm6⟩ := bytes_convM S w5 (by omega)
      have V6 := bytesAt_conv S w5 W6 c6 hs6 hge6 hx6 hcm6
      have q6 := check_any _ S.data.toList W6 V6 (by rw [size_list]; omega)
      have q7 := fun W => count_any S W (by omega)
      have q8 := fun W => runes_any S W (by omega)
      rw [hch.out] at q6
      rw [hcn.out] at q7
      rw [hrn.out] at q8
      clear V6 hx6 hs6 hge6 hcm6
      go_wp2_with fail
      refine q6.mono ?_
      rintro e w7 ⟨rfl, hb7⟩
      go_wp2_with fail
      refine (q7 _).mono ?_
      rintro e w8 ⟨rfl, hb8⟩
      go_wp2_with fail
      refine (q8 _).mono ?_
      rintro e w9 ⟨g9, c9, rfl, hR9, hb9, _⟩
      have c90 : w9.cell? ⟨g9, 0, none⟩ = some (.int .i32 R) := by
        obtain ⟨A, c', hv, _, _, _, hx⟩ := hR9
        injection hv with hv1 hv2 hv3
        have := hx ⟨g9, 0, none⟩ hv1.symm 0 R rfl
        simpa [Addr.add] using this
      clear hR9
      go_wp2_with fail
      go_ret
      exact ⟨rfl, thn hb1 (thn hbx (thn B5 (thn hb6 (thn hb7 (thn hb8 hb9)))))⟩
end Go.Proofs.Ytdefmeffdcpcaaa
