/- The law VarlenTells: its walk. -/
import Derived.Test.YtdacgfhlgpbccaaBack
namespace Go.Proofs.Ytdacgfhlgpbccaa
open Go.RowKit Go.Lib

/-- A row of fourteen numbers. -/
def IntRow (w : World) (g : Nat) : Prop :=
  g < w.heap.size ∧ ∀ j, j < 14 → ∃ z : Int, w.cell? ⟨g, j, none⟩ = some (.int .i64 z) ∧ -9223372036854775808 ≤ z ∧ z ≤ 9223372036854775807
theorem IntRow.on {w w' : World} {g : Nat} (h : IntRow w g) (hb : Below w.heap.size w w') : IntRow w' g := by
  refine ⟨Nat.lt_of_lt_of_le h.1 hb.size, fun j hj => ?_⟩
  obtain ⟨z, h1, h2, h3⟩ := h.2 j hj
  exact ⟨z, (hb.cell (p := ⟨g, j, none⟩) h.1).trans h1, h2, h3⟩

theorem or_in (a b : Int) : 0 ≤ bits .or .u8 a b ∧ bits .or .u8 a b < 256 := by
  show 0 ≤ IntKind.u8.wrap _ ∧ IntKind.u8.wrap _ < 256
  rw [IntKind.wrap_u8]
  omega
theorem and8_in (a b : Int) : 0 ≤ bits .and .u8 a b ∧ bits .and .u8 a b < 256 := by
  show 0 ≤ IntKind.u8.wrap _ ∧ IntKind.u8.wrap _ < 256
  rw [IntKind.wrap_u8]
  omega
/-- A row of five short slices of bytes. -/
def SRow (w : World) (g : Nat) : Prop :=
  g < w.heap.size ∧ ∀ j, j < 5 → ∃ (A : Option Addr) (n c : Nat) (l : List UInt8), w.cell? ⟨g, j, none⟩ = some (.slice A n c) ∧ BytesAt w w.heap.size (.slice A n c) l ∧ l.length ≤ 20
theorem lit_bytes (w : World) (vs : List Int) (h : ∀ v ∈ vs, 0 ≤ v ∧ v < 256) (hl : vs.length ≤ 4) (w' : World) (hb : Below (w.alloc (.cells (vs.map (Value.int .u8)).toArray 5)).heap.size (w.alloc (.cells (vs.map (Value.int .u8)).toArray 5)) w') :
    ∃ l : List UInt8, BytesAt w' w'.heap.size (.slice (some ⟨w.heap.size, 0, none⟩) vs.length vs.length) l ∧ l.length ≤ 20 := by
  have hC : (vs.map (Value.int .u8)).toArray = ((vs.map fun v => UInt8.ofNat v.toNat).map fun b => Value.int .u8 (b.toNat : Int)).toArray := by
    rw [put_cells vs (fun b hb => by have := h b hb; omega)]
  have hb1 := bytesAt_new w (vs.map fun v => UInt8.ofNat v.toNat) _ (0, 0) hC (by rw [List.length_map]; unfold maxLen; omega)
  rw [List.length_map] at hb1
  refine ⟨vs.map fun v => UInt8.ofNat v.toNat, ?_, by rw [List.length_map]; omega⟩
  refine BytesAt.on (w := w.alloc (.cells (vs.map (Value.int .u8)).toArray 5)) ?_ hb
  rw [World.size_alloc]
  exact hb1
theorem edge_of {w : World} {x : Option Value} {A : Option Addr} {n c : Nat} (hx : x = some (.slice A n c)) (h : ∃ l : List UInt8, BytesAt w w.heap.size (.slice A n c) l ∧ l.length ≤ 20) :
    ∃ (A : Option Addr) (n c : Nat) (l : List UInt8), x = some (.slice A n c) ∧ BytesAt w w.heap.size (.slice A n c) l ∧ l.length ≤ 20 := by
  obtain ⟨l, h1, h2⟩ := h
  exact ⟨A, n, c, l, hx, h1, h2⟩
theorem row5 (w : World) (A : Option Addr) (n c : Nat) (l : List UInt8) (hv : BytesAt w w.heap.size (.slice A n c) l) (hl : l.length ≤ 20) (v0 v1 v2 v3 : List Int) (l0 : v0.length ≤ 4) (l1 : v1.length ≤ 4) (l2 : v2.length ≤ 4) (l3 : v3.length ≤ 4)
    (h0 : ∀ v ∈ v0, 0 ≤ v ∧ v < 256) (h1 : ∀ v ∈ v1, 0 ≤ v ∧ v < 256) (h2 : ∀ v ∈ v2, 0 ≤ v ∧ v < 256) (h3 : ∀ v ∈ v3, 0 ≤ v ∧ v < 256) :
    SRow (((((w.alloc (.cells (v0.map (Value.int .u8)).toArray 5)).alloc (.cells (v1.map (Value.int .u8)).toArray 5)).alloc (.cells (v2.map (Value.int .u8)).toArray 5)).alloc (.cells (v3.map (Value.int .u8)).toArray 5)).alloc (.cells #[.slice A n c, .slice (some ⟨w.heap.size, 0, none⟩) v0.length v0.length, .slice (some ⟨w.heap.size + 1, 0, none⟩) v1.length v1.length, .slice (some ⟨w.heap.size + 1 + 1, 0, none⟩) v2.length v2.length, .slice (some ⟨w.heap.size + 1 + 1 + 1, 0, none⟩) v3.length v3.length] 22))
      (w.heap.size + 1 + 1 + 1 + 1) := by
  generalize hW1 : w.alloc (.cells (v0.map (Value.int .u8)).toArray 5) = W1
  generalize hW2 : W1.alloc (.cells (v1.map (Value.int .u8)).toArray 5) = W2
  generalize hW3 : W2.alloc (.cells (v2.map (Value.int .u8)).toArray 5) = W3
  generalize hW4 : W3.alloc (.cells (v3.map (Value.int .u8)).toArray 5) = W4
  have s1 : W1.heap.size = w.heap.size + 1 := by rw [← hW1, World.size_alloc]
  have s2 : W2.heap.size = W1.heap.size + 1 := by rw [← hW2, World.size_alloc]
  have s3 : W3.heap.size = W2.heap.size + 1 := by rw [← hW3, World.size_alloc]
  have s4 : W4.heap.size = W3.heap.size + 1 := by rw [← hW4, World.size_alloc]
  rw [← s1, ← s2, ← s3, ← s4]
  have b3 : Below W3.heap.size W3 W4 := by rw [← hW4]; exact alB (Below.refl _ _) _
  have b2 : Below W2.heap.size W2 W4 := thn (by rw [← hW3]; exact alB (Below.refl _ _) _) b3
  have b1 : Below W1.heap.size W1 W4 := thn (by rw [← hW2]; exact alB (Below.refl _ _) _) b2
  have b0 : Below w.heap.size w W4 := thn (by rw [← hW1]; exact alB (Below.refl _ _) _) b1
  have b4 : Below W4.heap.size W4 W4 := Below.refl _ _
  refine ⟨by rw [World.size_alloc]; omega, fun j hj => ?_⟩
  rw [cell_of_row (W4.alloc _) W4.heap.size j _ 22 (0, 0) (heap_alloc_new W4 _)]
  match j, hj with
  | 0, _ => exact edge_of rfl ⟨l, hv.on (alB b0 _), hl⟩
  | 1, _ => exact edge_of rfl (lit_bytes w v0 h0 l0 _ (by rw [hW1]; exact alB b1 _))
  | 2, _ => exact edge_of rfl (lit_bytes W1 v1 h1 l1 _ (by rw [hW2]; exact alB b2 _))
  | 3, _ => exact edge_of rfl (lit_bytes W2 v2 h2 l2 _ (by rw [hW3]; exact alB b3 _))
  | 4, _ => exact edge_of rfl (lit_bytes W3 v3 h3 l3 _ (by rw [hW4]; exact alB b4 _))

theorem and_in (a b : Int) : -9223372036854775808 ≤ bits .and .i64 a b ∧ bits .and .i64 a b ≤ 9223372036854775807 := by
  show -9223372036854775808 ≤ IntKind.i64.wrap _ ∧ IntKind.i64.wrap _ ≤ 9223372036854775807
  rw [IntKind.wrap_i64]
  omega
theorem int_row (w : World) (z0 z1 z2 z3 : Int) (h0 : -9223372036854775808 ≤ z0 ∧ z0 ≤ 9223372036854775807) (h1 : -9223372036854775808 ≤ z1 ∧ z1 ≤ 9223372036854775807) (h2 : -9223372036854775808 ≤ z2 ∧ z2 ≤ 9223372036854775807) (h3 : -9223372036854775808 ≤ z3 ∧ z3 ≤ 9223372036854775807) :
    IntRow (w.alloc (.cells #[.int .i64 z0, .int .i64 z1, .int .i64 z2, .int .i64 z3, .int .i64 0, .int .i64 127, .int .i64 128, .int .i64 16383, .int .i64 16384, .int .i64 2097151, .int .i64 2097152, .int .i64 268435455, .int .i64 268435456, .int .i64 (-1)] 3)) w.heap.size := by
  refine ⟨by rw [World.size_alloc]; omega, fun j hj => ?_⟩
  rw [cell_of_row (w.alloc _) w.heap.size j _ 3 (0, 0) (heap_alloc_new w _)]
  match j, hj with
  | 0, _ => exact ⟨z0, rfl, h0⟩
  | 1, _ => exact ⟨z1, rfl, h1⟩
  | 2, _ => exact ⟨z2, rfl, h2⟩
  | 3, _ => exact ⟨z3, rfl, h3⟩
  | 4, _ => exact ⟨0, rfl, by omega, by omega⟩
  | 5, _ => exact ⟨127, rfl, by omega, by omega⟩
  | 6, _ => exact ⟨128, rfl, by omega, by omega⟩
  | 7, _ => exact ⟨16383, rfl, by omega, by omega⟩
  | 8, _ => exact ⟨16384, rfl, by omega, by omega⟩
  | 9, _ => exact ⟨2097151, rfl, by omega, by omega⟩
  | 10, _ => exact ⟨2097152, rfl, by omega, by omega⟩
  | 11, _ => exact ⟨268435455, rfl, by omega, by omega⟩
  | 12, _ => exact ⟨268435456, rfl, by omega, by omega⟩
  | 13, _ => exact ⟨-1, rfl, by omega, by omega⟩

set_option maxRecDepth 100000 in
set_option maxHeartbeats 1000000 in
theorem tells_short (n : Int) (hn0 : -9223372036854775808 ≤ n) (hn1 : n ≤ 9223372036854775807) (k : Nat) (hk : k < 256) (A1 : Option Addr) (c1 : Nat) (l1 : List UInt8) (hl1 : l1.length ≤ 20) (w : World) (h1 : BytesAt w w.heap.size (.slice A1 l1.length c1) l1) :
    Calls Try.prog 3 #[.int .i64 n, .int .u8 k, .slice A1 l1.length c1] w fun e w' => e = .returned (.bool true) ∧ Below w.heap.size w w' := by
  have H1 := Lib.hid h1
  clear h1
  go_enter Try.func3, Try.ntmps3
  go_wp2_with fail
  refine (known_any _).mono ?_
  rintro e w1 ⟨rfl, hb1⟩
  have M1 := Lib.hid (H1.out.on hb1)
  clear H1
  go_wp2_with fail
  go_loopw [44] (fun i wr => ∃ j : Nat, j ≤ 14 ∧ i = .int .i64 j ∧ IntRow wr w1.heap.size ∧ Below w1.heap.size w1 wr) (fun i _ => 14 - (intOf i).toNat)
  case atStart =>
    exact ⟨0, by omega, rfl, int_row w1 n _ _ _ ⟨hn0, hn1⟩ (and_in _ _) (and_in _ _) (and_in _ _), alB (Below.refl _ _) _⟩
  case round =>
    obtain ⟨j, hj, rfl, hE, hbx⟩ := hrel
    have E := Lib.hid hE
    clear hE
    by_cases hlt : j < 14
    · obtain ⟨z, hX, hz0, hz1⟩ := E.out.2 j hlt
      by_cases hv : 0 ≤ z ∧ z ≤ 268435455
      · obtain ⟨hz2, hz3⟩ := hv
        have p2 := fun W => put_ok z hz2 hz3 W
        have p3 := fun W => rput_ok z hz2 hz3 W
        have hsz := putL_size z hz2 hz3
        have hsp := size_pos z hz2 hz3
        have hL4 := putL_len z
        obtain ⟨L, hL⟩ : ∃ L, (putL z).length = L := ⟨_, rfl⟩
        have HL := Lib.hid hL
        rw [hL] at p2 p3 hsz hL4
        clear hL
        have q2 := fun W => size_any z hz0 hz1 W
        have q3 := fun W => rsize_any z hz0 hz1 W
        go_wp2_with fail
        refine (p2 _).mono ?_
        rintro e w2 ⟨A2, c2, rfl, hv2, hb2⟩
        have V2 := Lib.hid hv2
        clear hv2
        go_wp2_with fail
        refine (p3 _).mono ?_
        rintro e w3 ⟨A3, c3, rfl, hv3, hb3⟩
        have hc2 := (V2.out.on hb3).conv
        have hc3 := hv3.conv
        obtain ⟨ad, rfl⟩ : ∃ ad, A3 = some ad := by
          obtain ⟨A', _, hw, _, _, hw2, _⟩ := id hv3
          injection hw with hw1
          cases A3 with
          | some ad => exact ⟨ad, rfl⟩
          | none =>
            have h0 := HL.out
            rw [hw2 hw1.symm] at h0
            simp at h0
            omega
        have hLc : L ≤ c3 := by
          obtain ⟨_, _, hw, hw2, _⟩ := id hv3
          injection hw with _ _ hw3
          have h0 := HL.out
          omega
        have V3 := Lib.hid hv3
        clear hv3 V2
        have B3 := Lib.hid (thn hb2 hb3)
        clear hb2 hb3
        generalize (⟨(putL z).toArray⟩ : ByteArray) = P at *
        generalize sizeI z = s at *
        go_wp2_with fail
        refine (q2 _).mono ?_
        rintro e w4 ⟨rfl, rfl⟩
        go_wp2_with fail
        refine (q3 _).mono ?_
        rintro e w4 ⟨rfl, rfl⟩
        go_wp2_with fail
        go_loopw [14] (fun i wx => ∃ q : Nat, q ≤ L + 1 ∧ i = .int .i64 q ∧ wx = w3) (fun i _ => L + 1 - (intOf i).toNat)
        case atStart => exact ⟨0, by omega, rfl, rfl⟩
        case round =>
          obtain ⟨q, hq, rfl, rfl⟩ := hrel
          by_cases hqL : q ≤ L
          · obtain ⟨a, b, d, hT⟩ : ∃ a b d, readT ((putL z).take q) = (a, b, d) := ⟨_, _, _, rfl⟩
            have hqz : q ≤ (putL z).length := by have := HL.out; omega
            have hq4 : ((putL z).take q).length ≤ 1000 := by rw [List.length_take]; omega
            have r2 := read_any _ _ _ _ (V3.out.take q hqz) hq4 _ _ _ hT
            have r3 := rread_any _ _ _ _ (V3.out.take q hqz) hq4 _ _ _ hT
            clear hT hq4 hqz hc2 hc3
            go_wp2_with fail
            refine r2.mono ?_
            rintro e w4 ⟨rfl, rfl⟩
            go_wp2_with fail
            refine r3.mono ?_
            rintro e w4 ⟨rfl, rfl⟩
            go_wp2_with fail
            go_roundw
            case rel => exact ⟨q + 1, by omega, by go_num, trivial⟩
            case measure => simp [intOf]; omega
          · go_wp2_with fail
            go_roundw
            case rel => exact ⟨j + 1, by omega, by go_num, E.out.on B3.out, hbx.trans (B3.out.mono hbx.size)⟩
            case measure => simp [intOf]; omega
      · have hbad : z ≤ -1 ∨ 268435456 ≤ z := by omega
        have p2 := fun W => put_no z hbad hz0 hz1 W
        have p3 := fun W => rput_no z hbad hz0 hz1 W
        have q2 := fun W => size_any z hz0 hz1 W
        have q3 := fun W => rsize_any z hz0 hz1 W
        have hcn := BytesAt.conv (show BytesAt wr 0 (.slice none 0 0) [] from ⟨none, 0, rfl, by simp, by decide, fun _ => rfl, by simp, by simp⟩)
        have r2 := fun W => read_none 0 W
        have r3 := fun W => rread_none 0 W
        clear hbad hv
        generalize sizeI z = s at *
        go_wp2_with fail
        refine (p2 _).mono ?_
        rintro e w2 ⟨rfl, rfl⟩
        go_wp2_with fail
        refine (p3 _).mono ?_
        rintro e w2 ⟨rfl, rfl⟩
        go_wp2_with fail
        refine (q2 _).mono ?_
        rintro e w4 ⟨rfl, rfl⟩
        go_wp2_with fail
        refine (q3 _).mono ?_
        rintro e w4 ⟨rfl, rfl⟩
        go_wp2_with fail
        go_loopw [14] (fun i wx => ∃ q : Nat, q ≤ 1 ∧ i = .int .i64 q ∧ wx = wr) (fun i _ => 1 - (intOf i).toNat)
        case atStart => exact ⟨0, by omega, rfl, rfl⟩
        case round =>
          obtain ⟨q, hq, rfl, rfl⟩ := hrel
          by_cases hqL : q ≤ 0
          · obtain rfl : q = 0 := by omega
            go_wp2_with fail
            refine (r2 _).mono ?_
            rintro e w4 ⟨rfl, rfl⟩
            go_wp2_with fail
            refine (r3 _).mono ?_
            rintro e w4 ⟨rfl, rfl⟩
            go_wp2_with fail
            go_roundw
            case rel => exact ⟨1, by omega, by go_num, trivial⟩
            case measure => simp [intOf]
          · go_wp2_with fail
            go_roundw
            case rel => exact ⟨j + 1, by omega, by go_num, E.out, hbx⟩
            case measure => simp [intOf]; omega
    · have M2 := row5 wr A1 l1.length c1 l1 (M1.out.on hbx) hl1 [bits .or .u8 (k : Int) 128, (k : Int)] [255, 255, 255, (k : Int)] [(k : Int), (k : Int), (k : Int), (k : Int)] [bits .or .u8 (k : Int) 128, 128, 128, bits .and .u8 (k : Int) 1] (by simp) (by simp) (by simp) (by simp) ?h0 ?h1 ?h2 ?h3
      case h0 => intro v hv; have := or_in (k : Int) 128; simp at hv; omega
      case h1 => intro v hv; simp at hv; omega
      case h2 => intro v hv; simp at hv; omega
      case h3 => intro v hv; have := or_in (k : Int) 128; have := and8_in (k : Int) 1; simp at hv; omega
      go_wp2_with fail
      go_loopw [130] (fun i wx => ∃ q : Nat, q ≤ 5 ∧ i = .int .i64 q ∧ SRow wx (wr.heap.size + 1 + 1 + 1 + 1) ∧ Below wr.heap.size wr wx) (fun i _ => 5 - (intOf i).toNat)
      case atStart => exact ⟨0, by omega, rfl, M2, alB (alB (alB (alB (alB (Below.refl _ _) _) _) _) _) _⟩
      case round =>
        obtain ⟨q, hq, rfl, hS, hbs⟩ := hrel
        have S := Lib.hid hS
        clear hS
        by_cases hqt : q < 5
        · obtain ⟨A3, n3, c3, l3, hX, hV, hl3⟩ := S.out.2 q hqt
          obtain ⟨a, b, d, hT⟩ : ∃ a b d, readT l3 = (a, b, d) := ⟨_, _, _, rfl⟩
          have r2 := read_any _ _ _ _ hV (by omega) _ _ _ hT
          have r3 := rread_any _ _ _ _ hV (by omega) _ _ _ hT
          clear hT hV
          go_wp2_with fail
          refine r2.mono ?_
          rintro e w4 ⟨rfl, rfl⟩
          go_wp2_with fail
          refine r3.mono ?_
          rintro e w4 ⟨rfl, rfl⟩
          go_wp2_with fail
          go_roundw
          case rel => exact ⟨q + 1, by omega, by go_num, S.out, hbs⟩
          case measure => simp [intOf]; omega
        · go_wp2_with fail
          go_ret
          exact ⟨rfl, thn hb1 (hbx.trans (hbs.mono hbx.size))⟩

set_option maxRecDepth 100000 in
set_option maxHeartbeats 1000000 in
theorem tells_long (n : Int) (k : Nat) (A1 : Option Addr) (m c1 : Nat) (hm : 21 ≤ m) (w : World) :
    Calls Try.prog 3 #[.int .i64 n, .int .u8 k, .slice A1 m c1] w fun e w' => e = .returned (.bool true) ∧ Below w.heap.size w w' := by
  go_enter Try.func3, Try.ntmps3
  go_wp2_with fail
  refine (known_any _).mono ?_
  rintro e w1 ⟨rfl, hb1⟩
  go_wp2_with fail
  go_ret
  exact ⟨rfl, hb1⟩

theorem tells_walk (n : Int) (hn0 : -9223372036854775808 ≤ n) (hn1 : n ≤ 9223372036854775807) (k : Nat) (hk : k < 256) (A1 : Option Addr) (c1 : Nat) (l1 : List UInt8) (w : World) (h1 : BytesAt w w.heap.size (.slice A1 l1.length c1) l1) :
    Calls Try.prog 3 #[.int .i64 n, .int .u8 k, .slice A1 l1.length c1] w fun e w' => e = .returned (.bool true) ∧ Below w.heap.size w w' := by
  by_cases hl : 21 ≤ l1.length
  · exact tells_long n k A1 _ c1 hl w
  · exact tells_short n hn0 hn1 k hk A1 c1 l1 (by omega) w h1

theorem i64_of {n : Int} (h : (Lit.int .i64 n).wf = true) : -9223372036854775808 ≤ n ∧ n ≤ 9223372036854775807 := by
  have e1 : IntKind.i64.min = -9223372036854775808 := rfl
  have e2 : IntKind.i64.max = 9223372036854775807 := rfl
  simp only [Lit.wf, Bool.and_eq_true, decide_eq_true_eq, e1, e2] at h
  exact h
end Go.Proofs.Ytdacgfhlgpbccaa
