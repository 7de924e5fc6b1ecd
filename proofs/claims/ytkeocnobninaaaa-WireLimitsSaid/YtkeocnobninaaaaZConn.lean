/- Reading a body: a greeting's. -/
import Derived.Test.YtkeocnobninaaaaZDec
namespace Go.Proofs.Ytkeocnobninaaaa
open Go.RowKit Go.Lib
set_option linter.unusedVariables false

/-- The packet that a greeting's bytes make of one that is there. -/
def conP (p : Pk) (b : List UInt8) : Pk :=
  let b2 := leftL b
  let b3 := b2.drop 1
  let f := numL (b3.take 1)
  let b4 := b3.drop 1
  let b5 := b4.drop 2
  let hw := f / 4 % 2 == 1
  let hu := f / 128 % 2 == 1
  let hp := f / 64 % 2 == 1
  let b6 := leftL b5
  let b8 := if hw then leftL (leftL b6) else b6
  let b9 := if hu then leftL b8 else b8
  { p with level := numL (b2.take 1), keep := numL (b4.take 2), cli := bytesOfL (gotL b5), clean := f / 2 % 2 == 1, hw := hw, hu := hu, hp := hp,
           wtop := if hw then bytesOfL (gotL b6) else p.wtop, wpay := if hw then gotL (leftL b6) else p.wpay, wqos := if hw then f / 8 % 4 else p.wqos, wret := if hw then f / 32 % 2 == 1 else p.wret,
           user := if hu then bytesOfL (gotL b8) else p.user, pass := if hp then gotL b9 else p.pass }
/-- What reading a greeting leaves: the box, and rows of its own. -/
def ConPost (w : World) (b : Nat) (q : Pk) (s : Sv) (w' : World) : Prop :=
  ∃ s' : Sv, w'.heap[b]? = some (.cells (pkC q s') 28) ∧ (s'.pA = s.pA ∧ s'.pC = s.pC ∧ s'.sA = s.sA ∧ s'.sC = s.sC ∧ s'.cA = s.cA ∧ s'.cC = s.cC) ∧ w'.ownsRow w.heap.size 5 1 (.slice s'.wA q.wpay.length s'.wC) q.wpay.length (Lib.byteCells q.wpay) ∧
    w'.ownsRow w.heap.size 5 1 (.slice s'.uA q.pass.length s'.uC) q.pass.length (Lib.byteCells q.pass)
theorem own_put {w : World} {base n size b : Nat} {E : TypeId} {v : Value} {xs : List Value} (h : w.ownsRow base E size v n xs) (hb : b < base) (i : Nat) (u : Value) : (w.setCell ⟨b, i, none⟩ u).ownsRow base E size v n xs :=
  own_to h fun g hg1 hg2 => Below.heap_setCell _ _ _ _ (by show g ≠ b; omega)
theorem own_rd {w w' : World} {base n size r : Nat} {E : TypeId} {v : Value} {xs : List Value} (h : w.ownsRow base E size v n xs) (t : RdTo r w w') (hr : r < base) : w'.ownsRow base E size v n xs :=
  own_to h fun g hg1 hg2 => t.above g (by omega) hg2
theorem own_len {w' : World} {base n m size c : Nat} {E : TypeId} {A : Option Addr} {xs : List Value} (e : m = n) (q : w'.ownsRow base E size (.slice A n c) n xs) : w'.ownsRow base E size (.slice A m c) m xs := by
  subst e
  exact q
theorem flag_bits : ∀ y : Fin 256, (bits .and .i64 (y.val : Int) 2 != 0) = ((y.val : Int) / 2 % 2 == 1) ∧ (bits .and .i64 (y.val : Int) 4 != 0) = ((y.val : Int) / 4 % 2 == 1) ∧ (bits .and .i64 (y.val : Int) 128 != 0) = ((y.val : Int) / 128 % 2 == 1) ∧ (bits .and .i64 (y.val : Int) 64 != 0) = ((y.val : Int) / 64 % 2 == 1) ∧ (bits .and .i64 (y.val : Int) 32 != 0) = ((y.val : Int) / 32 % 2 == 1) ∧ bits .and .i64 ((y.val : Int) / 8) 3 = (y.val : Int) / 8 % 4 := by decide +kernel

set_option maxRecDepth 100000 in
set_option maxHeartbeats 8000000 in
theorem con_any (B b r : Nat) (ad : Addr) (c : Nat) (l : List UInt8) (p : Pk) (s : Sv) (w : World) (h : RdAt w B r ad c l) (hb : b < r) (hB : B ≤ b) (hp : w.heap[b]? = some (.cells (pkC p s) 28))
    (ow : w.ownsRow w.heap.size 5 1 (.slice s.wA p.wpay.length s.wC) p.wpay.length (Lib.byteCells p.wpay)) (op : w.ownsRow w.heap.size 5 1 (.slice s.uA p.pass.length s.uC) p.pass.length (Lib.byteCells p.pass)) :
    Calls Try.prog 85 #[.pointer (some ⟨r, 0, none⟩), .pointer (some ⟨b, 0, none⟩)] w fun e w' => e = .returned (.tuple #[]) ∧ Below b w w' ∧ ConPost w b (conP p l) s w' := by
  have hlt := h.lt
  obtain ⟨x0, x1⟩ := num_bounds l 2 (by omega)
  have N2 := fun (W : World) ad1 c1 (R : List UInt8) (y : Int) (S : List UInt8) (hy : y = numL (R.take 2)) (hS : S = R.drop 2) (h1 : RdAt W B r ad1 c1 R) => (by rw [hy, hS]; exact number_any B r ad1 c1 2 R W h1 (by omega) : Calls Try.prog 86 #[.pointer (some ⟨r, 0, none⟩), .int .i64 ((2 : Nat) : Int)] W fun e w' => e = .returned (.int .i64 y) ∧ (∃ ad' c', RdAt w' B r ad' c' S) ∧ RdTo r W w')
  have N1 := fun (W : World) ad1 c1 (R : List UInt8) (y : Int) (S : List UInt8) (hy : y = numL (R.take 1)) (hS : S = R.drop 1) (h1 : RdAt W B r ad1 c1 R) => (by rw [hy, hS]; exact number_any B r ad1 c1 1 R W h1 (by omega) : Calls Try.prog 86 #[.pointer (some ⟨r, 0, none⟩), .int .i64 ((1 : Nat) : Int)] W fun e w' => e = .returned (.int .i64 y) ∧ (∃ ad' c', RdAt w' B r ad' c' S) ∧ RdTo r W w')
  have TX := fun (W : World) ad1 c1 (R : List UInt8) (y : ByteArray) (S : List UInt8) (hy : y = bytesOfL (gotL R)) (hS : S = leftL R) (h1 : RdAt W B r ad1 c1 R) => (by rw [hy, hS]; exact text_any B r ad1 c1 R W h1 : Calls Try.prog 102 #[.pointer (some ⟨r, 0, none⟩)] W fun e w' => e = .returned (.string y) ∧ (∃ ad' c', RdAt w' B r ad' c' S) ∧ RdTo r W w')
  have LP := fun (W : World) ad1 c1 (R : List UInt8) (y : List UInt8) (n : Nat) (S : List UInt8) (hy : y = gotL R) (hn : y.length = n) (hS : S = leftL R) (h1 : RdAt W B r ad1 c1 R) => (by rw [hS]; exact lump_any B r ad1 c1 R W h1 y n hy hn : Calls Try.prog 103 #[.pointer (some ⟨r, 0, none⟩)] W fun e w' => ∃ A' c', e = .returned (.slice A' n c') ∧ (w'.ownsRow W.heap.size 5 1 (.slice A' n c') n (Lib.byteCells y)) ∧ (∃ ad' c', RdAt w' B r ad' c' S) ∧ RdTo r W w')
  obtain ⟨R1, hR1⟩ : ∃ R1, R1 = l.drop 2 := ⟨_, rfl⟩
  obtain ⟨y1, hy1⟩ : ∃ y1, y1 = numL (l.take 2) := ⟨_, rfl⟩
  obtain ⟨R2, hR2⟩ : ∃ R2, R2 = leftL l := ⟨_, rfl⟩
  obtain ⟨S2, hS2⟩ : ∃ S2, S2 = R1.take y1.toNat := ⟨_, rfl⟩
  obtain ⟨n2, hn2⟩ : ∃ n2, S2.length = n2 := ⟨_, rfl⟩
  obtain ⟨R3, hR3⟩ : ∃ R3, R3 = R2.drop 1 := ⟨_, rfl⟩
  obtain ⟨y3, hy3⟩ : ∃ y3, y3 = numL (R2.take 1) := ⟨_, rfl⟩
  obtain ⟨R4, hR4⟩ : ∃ R4, R4 = R3.drop 1 := ⟨_, rfl⟩
  obtain ⟨f, hf⟩ : ∃ f, f = numL (R3.take 1) := ⟨_, rfl⟩
  obtain ⟨R5, hR5⟩ : ∃ R5, R5 = R4.drop 2 := ⟨_, rfl⟩
  obtain ⟨y5, hy5⟩ : ∃ y5, y5 = numL (R4.take 2) := ⟨_, rfl⟩
  obtain ⟨R6, hR6⟩ : ∃ R6, R6 = leftL R5 := ⟨_, rfl⟩
  obtain ⟨x6, hx6⟩ : ∃ x6, x6 = bytesOfL (gotL R5) := ⟨_, rfl⟩
  rw [← hy1] at x0 x1
  have eR2 : R1.drop y1.toNat = R2 := by rw [hR1, hy1, hR2]; rfl
  have fb : 0 ≤ f ∧ f ≤ 255 := by
    rw [hf]
    have hlen : (R3.take 1).length ≤ 1 := by rw [List.length_take]; omega
    generalize R3.take 1 = T at *
    rcases T with _ | ⟨x, _ | _⟩
    · exact ⟨by decide, by decide⟩
    · have := x.toNat_lt; unfold numL; simp; omega
    · simp at hlen
  have G1 := Lib.hid (fun W a1 d1 => N2 W a1 d1 l y1 R1 hy1 hR1)
  have G2 := Lib.hid (fun W a1 d1 h1 => rtake_any B r a1 d1 y1 R1 S2 R2 n2 W h1 x0 x1 hS2.symm eR2 hn2)
  have G3 := Lib.hid (fun W a1 d1 => N1 W a1 d1 R2 y3 R3 hy3 hR3)
  have G4 := Lib.hid (fun W a1 d1 => N1 W a1 d1 R3 f R4 hf hR4)
  have G5 := Lib.hid (fun W a1 d1 => N2 W a1 d1 R4 y5 R5 hy5 hR5)
  have G6 := Lib.hid (fun W a1 d1 => TX W a1 d1 R5 x6 R6 hx6 hR6)
  have h0 := Lib.hid h
  have ROW0 := Lib.hid hp
  have EQ := Lib.hid (And.intro hR2 (And.intro hR3 (And.intro hy3 (And.intro hR4 (And.intro hf (And.intro hR5 (And.intro hy5 (And.intro hR6 hx6))))))))
  clear h hp N1 N2 hR1 hy1 hR2 hS2 hn2 hR3 hy3 hR4 hf hR5 hy5 hR6 hx6 x0 x1 eR2
  have hne : r ≠ b := by omega
  have hbw : b < w.heap.size := by omega
  have OW0 := Lib.hid ow
  have OP0 := Lib.hid op
  clear ow op
  obtain ⟨c2, c4, c128, c64, c32, c8⟩ := flag_bits ⟨f.toNat, by omega⟩
  simp only [Int.toNat_of_nonneg fb.1] at c2 c4 c128 c64 c32 c8
  have C2 := Lib.hid c2
  have C32 := Lib.hid c32
  have C8 := Lib.hid c8
  have cl2 : (bits .and .i64 f 2 != 0) = (f / 2 % 2 == 1) := C2.out
  have e32 : (bits .and .i64 f 32 != 0) = (f / 32 % 2 == 1) := C32.out
  have e8 : bits .and .i64 (f / 8) 3 = f / 8 % 4 := C8.out
  clear c2 c32 c8
  generalize hcl : (f / 2 % 2 == 1) = cl at *
  generalize hwr : (f / 32 % 2 == 1) = wr at *
  generalize hwq : f / 8 % 4 = wq at *
  have CL := Lib.hid (And.intro hcl (And.intro hwr hwq))
  clear hcl hwr hwq C2 C32 C8
  rcases e4 : (bits .and .i64 f 4 != 0) <;> rcases e128 : (bits .and .i64 f 128 != 0) <;> rcases e64 : (bits .and .i64 f 64 != 0)
  · have LW : Hid True := Lib.hid trivial
    have f4 := c4.symm.trans e4
    have f128 := c128.symm.trans e128
    have f64 := c64.symm.trans e64
    have LQ : Hid True := Lib.hid trivial
    have HQ : Hid (conP p l = { p with level := y3, keep := y5, cli := x6, clean := cl, hw := false, hu := false, hp := false }) := Lib.hid (by
      obtain ⟨hR2, hR3, hy3, hR4, hf, hR5, hy5, hR6, hx6⟩ := EQ.out
      obtain ⟨hcl, hwr, hwq⟩ := CL.out
      unfold conP
      simp only [← hR2, ← hR3, ← hy3, ← hR4, ← hf, ← hR5, ← hy5, ← hR6, ← hx6, hcl, hwr, hwq, f4, f128, f64, Bool.false_eq_true, if_false])
    clear EQ CL TX LP c4 c128 c64 f4 f128 f64
    go_enter Try.func85, Try.ntmps85
    go_wp2_with fail
    refine (G1.out _ _ _ h0.out).mono ?_
    rintro e w1 ⟨rfl, ⟨ad1, c1, h1⟩, t1⟩
    have row1 : w1.heap[b]? = some (.cells (pkC (p) (s)) 28) := by rw [t1.below.block b hb]; exact ROW0.out
    have bl1 : Below b w w1 := ((Below.refl b w)).trans (t1.below.mono (Nat.le_of_lt hb))
    have OW1 := Lib.hid (own_rd (OW0.out) t1 hlt)
    have OP1 := Lib.hid (own_rd (OP0.out) t1 hlt)
    have rc1 := row_cells row1
    have rf1 := fun k => frozen_of_row w1 b k _ _ row1
    have H1 := Lib.hid h1
    have ROW1 := Lib.hid row1
    have BL1 := Lib.hid bl1
    clear h1 t1 row1 bl1
    go_wp2_with fail
    refine (G2.out _ _ _ H1.out).mono ?_
    rintro e w2 ⟨rfl, ⟨ad2, c2, h2⟩, _, t2⟩
    have row2 : w2.heap[b]? = some (.cells (pkC (p) (s)) 28) := by rw [t2.below.block b hb]; exact ROW1.out
    have bl2 : Below b w w2 := (BL1.out).trans (t2.below.mono (Nat.le_of_lt hb))
    have OW2 := Lib.hid (own_rd (OW1.out) t2 hlt)
    have OP2 := Lib.hid (own_rd (OP1.out) t2 hlt)
    have rc2 := row_cells row2
    have rf2 := fun k => frozen_of_row w2 b k _ _ row2
    have H2 := Lib.hid h2
    have ROW2 := Lib.hid row2
    have BL2 := Lib.hid bl2
    clear h2 t2 row2 bl2 rc1 rf1
    go_wp2_with fail
    refine (G3.out _ _ _ H2.out).mono ?_
    rintro e w3 ⟨rfl, ⟨ad3, c3, h3⟩, t3⟩
    have row3 : w3.heap[b]? = some (.cells (pkC (p) (s)) 28) := by rw [t3.below.block b hb]; exact ROW2.out
    have bl3 : Below b w w3 := (BL2.out).trans (t3.below.mono (Nat.le_of_lt hb))
    have OW3 := Lib.hid (own_rd (OW2.out) t3 hlt)
    have OP3 := Lib.hid (own_rd (OP2.out) t3 hlt)
    have rc3 := row_cells row3
    have rf3 := fun k => frozen_of_row w3 b k _ _ row3
    have H3 := Lib.hid h3
    have ROW3 := Lib.hid row3
    have BL3 := Lib.hid bl3
    clear h3 t3 row3 bl3 rc2 rf2
    go_wp2_with fail
    refine (G4.out _ _ _ ((H3.out).put hB hb (i := 7) (.int .i64 y3))).mono ?_
    rintro e w4 ⟨rfl, ⟨ad4, c4, h4⟩, t4⟩
    have row4 : w4.heap[b]? = some (.cells (pkC ({ p with level := y3 }) (s)) 28) := by rw [t4.below.block b hb]; exact (put_row (p' := { p with level := y3 }) (s' := s) 7 (.int .i64 y3) ROW3.out (by (try rw [← LW.out]); (try rw [← LQ.out]); rfl))
    have bl4 : Below b w w4 := (((BL3.out).setCell (p := ⟨b, 7, none⟩) (Nat.le_refl b) (.int .i64 y3))).trans (t4.below.mono (Nat.le_of_lt hb))
    have OW4 := Lib.hid (own_rd ((own_put (OW3.out) hbw 7 (.int .i64 y3))) t4 hlt)
    have OP4 := Lib.hid (own_rd ((own_put (OP3.out) hbw 7 (.int .i64 y3))) t4 hlt)
    have rc4 := row_cells row4
    have rf4 := fun k => frozen_of_row w4 b k _ _ row4
    have H4 := Lib.hid h4
    have ROW4 := Lib.hid row4
    have BL4 := Lib.hid bl4
    clear h4 t4 row4 bl4 rc3 rf3
    go_wp2_with fail
    refine (G5.out _ _ _ H4.out).mono ?_
    rintro e w5 ⟨rfl, ⟨ad5, c5, h5⟩, t5⟩
    have row5 : w5.heap[b]? = some (.cells (pkC ({ p with level := y3 }) (s)) 28) := by rw [t5.below.block b hb]; exact ROW4.out
    have bl5 : Below b w w5 := (BL4.out).trans (t5.below.mono (Nat.le_of_lt hb))
    have OW5 := Lib.hid (own_rd (OW4.out) t5 hlt)
    have OP5 := Lib.hid (own_rd (OP4.out) t5 hlt)
    have rc5 := row_cells row5
    have rf5 := fun k => frozen_of_row w5 b k _ _ row5
    have H5 := Lib.hid h5
    have ROW5 := Lib.hid row5
    have BL5 := Lib.hid bl5
    clear h5 t5 row5 bl5 rc4 rf4
    go_wp2_with fail
    refine (G6.out _ _ _ ((H5.out).put hB hb (i := 10) (.int .i64 y5))).mono ?_
    rintro e w6 ⟨rfl, ⟨ad6, c6, h6⟩, t6⟩
    have row6 : w6.heap[b]? = some (.cells (pkC ({ p with level := y3, keep := y5 }) (s)) 28) := by rw [t6.below.block b hb]; exact (put_row (p' := { p with level := y3, keep := y5 }) (s' := s) 10 (.int .i64 y5) ROW5.out (by (try rw [← LW.out]); (try rw [← LQ.out]); rfl))
    have bl6 : Below b w w6 := (((BL5.out).setCell (p := ⟨b, 10, none⟩) (Nat.le_refl b) (.int .i64 y5))).trans (t6.below.mono (Nat.le_of_lt hb))
    have OW6 := Lib.hid (own_rd ((own_put (OW5.out) hbw 10 (.int .i64 y5))) t6 hlt)
    have OP6 := Lib.hid (own_rd ((own_put (OP5.out) hbw 10 (.int .i64 y5))) t6 hlt)
    have rc6 := row_cells row6
    have rf6 := fun k => frozen_of_row w6 b k _ _ row6
    have H6 := Lib.hid h6
    have ROW6 := Lib.hid row6
    have BL6 := Lib.hid bl6
    clear h6 t6 row6 bl6 rc5 rf5
    go_wp2_with fail
    go_end0
    unfold ConPost
    rw [HQ.out]
    refine ⟨rfl, ((((((((((BL6.out).setCell (p := ⟨b, 8, none⟩) (Nat.le_refl b) (.string x6))).setCell (p := ⟨b, 9, none⟩) (Nat.le_refl b) (.bool cl))).setCell (p := ⟨b, 11, none⟩) (Nat.le_refl b) (.bool false))).setCell (p := ⟨b, 16, none⟩) (Nat.le_refl b) (.bool false))).setCell (p := ⟨b, 17, none⟩) (Nat.le_refl b) (.bool false)), s, (put_row (p' := { p with level := y3, keep := y5, cli := x6, clean := cl, hw := false, hu := false, hp := false }) (s' := s) 17 (.bool false) (put_row (p' := { p with level := y3, keep := y5, cli := x6, clean := cl, hw := false, hu := false }) (s' := s) 16 (.bool false) (put_row (p' := { p with level := y3, keep := y5, cli := x6, clean := cl, hw := false }) (s' := s) 11 (.bool false) (put_row (p' := { p with level := y3, keep := y5, cli := x6, clean := cl }) (s' := s) 9 (.bool cl) (put_row (p' := { p with level := y3, keep := y5, cli := x6 }) (s' := s) 8 (.string x6) ROW6.out (by (try rw [← LW.out]); (try rw [← LQ.out]); rfl)) (by (try rw [← LW.out]); (try rw [← LQ.out]); rfl)) (by (try rw [← LW.out]); (try rw [← LQ.out]); rfl)) (by (try rw [← LW.out]); (try rw [← LQ.out]); rfl)) (by (try rw [← LW.out]); (try rw [← LQ.out]); rfl)), ⟨rfl, rfl, rfl, rfl, rfl, rfl⟩, ?_, ?_⟩
    · have q := (own_put ((own_put ((own_put ((own_put ((own_put (OW6.out) hbw 8 (.string x6))) hbw 9 (.bool cl))) hbw 11 (.bool false))) hbw 16 (.bool false))) hbw 17 (.bool false))
      exact q
    · have q := (own_put ((own_put ((own_put ((own_put ((own_put (OP6.out) hbw 8 (.string x6))) hbw 9 (.bool cl))) hbw 11 (.bool false))) hbw 16 (.bool false))) hbw 17 (.bool false))
      exact q
  · have LW : Hid True := Lib.hid trivial
    have f4 := c4.symm.trans e4
    have f128 := c128.symm.trans e128
    have f64 := c64.symm.trans e64
    obtain ⟨x10, hx10⟩ : ∃ x10, x10 = gotL R6 := ⟨_, rfl⟩
    obtain ⟨n10, hn10⟩ : ∃ n10, x10.length = n10 := ⟨_, rfl⟩
    obtain ⟨R10, hR10⟩ : ∃ R10, R10 = leftL R6 := ⟨_, rfl⟩
    have G10 := Lib.hid (fun W a1 d1 => LP W a1 d1 R6 x10 n10 R10 hx10 hn10 hR10)
    have LQ := Lib.hid hn10
    have HQ : Hid (conP p l = { p with level := y3, keep := y5, cli := x6, clean := cl, hw := false, hu := false, hp := true, pass := x10 }) := Lib.hid (by
      obtain ⟨hR2, hR3, hy3, hR4, hf, hR5, hy5, hR6, hx6⟩ := EQ.out
      obtain ⟨hcl, hwr, hwq⟩ := CL.out
      unfold conP
      simp only [← hR2, ← hR3, ← hy3, ← hR4, ← hf, ← hR5, ← hy5, ← hR6, ← hx6, hcl, hwr, hwq, f4, f128, f64, if_true, Bool.false_eq_true, if_false, ← hx10])
    clear EQ CL TX LP c4 c128 c64 f4 f128 f64 hx10 hn10 hR10
    go_enter Try.func85, Try.ntmps85
    go_wp2_with fail
    refine (G1.out _ _ _ h0.out).mono ?_
    rintro e w1 ⟨rfl, ⟨ad1, c1, h1⟩, t1⟩
    have row1 : w1.heap[b]? = some (.cells (pkC (p) (s)) 28) := by rw [t1.below.block b hb]; exact ROW0.out
    have bl1 : Below b w w1 := ((Below.refl b w)).trans (t1.below.mono (Nat.le_of_lt hb))
    have OW1 := Lib.hid (own_rd (OW0.out) t1 hlt)
    have OP1 := Lib.hid (own_rd (OP0.out) t1 hlt)
    have rc1 := row_cells row1
    have rf1 := fun k => frozen_of_row w1 b k _ _ row1
    have H1 := Lib.hid h1
    have ROW1 := Lib.hid row1
    have BL1 := Lib.hid bl1
    clear h1 t1 row1 bl1
    go_wp2_with fail
    refine (G2.out _ _ _ H1.out).mono ?_
    rintro e w2 ⟨rfl, ⟨ad2, c2, h2⟩, _, t2⟩
    have row2 : w2.heap[b]? = some (.cells (pkC (p) (s)) 28) := by rw [t2.below.block b hb]; exact ROW1.out
    have bl2 : Below b w w2 := (BL1.out).trans (t2.below.mono (Nat.le_of_lt hb))
    have OW2 := Lib.hid (own_rd (OW1.out) t2 hlt)
    have OP2 := Lib.hid (own_rd (OP1.out) t2 hlt)
    have rc2 := row_cells row2
    have rf2 := fun k => frozen_of_row w2 b k _ _ row2
    have H2 := Lib.hid h2
    have ROW2 := Lib.hid row2
    have BL2 := Lib.hid bl2
    clear h2 t2 row2 bl2 rc1 rf1
    go_wp2_with fail
    refine (G3.out _ _ _ H2.out).mono ?_
    rintro e w3 ⟨rfl, ⟨ad3, c3, h3⟩, t3⟩
    have row3 : w3.heap[b]? = some (.cells (pkC (p) (s)) 28) := by rw [t3.below.block b hb]; exact ROW2.out
    have bl3 : Below b w w3 := (BL2.out).trans (t3.below.mono (Nat.le_of_lt hb))
    have OW3 := Lib.hid (own_rd (OW2.out) t3 hlt)
    have OP3 := Lib.hid (own_rd (OP2.out) t3 hlt)
    have rc3 := row_cells row3
    have rf3 := fun k => frozen_of_row w3 b k _ _ row3
    have H3 := Lib.hid h3
    have ROW3 := Lib.hid row3
    have BL3 := Lib.hid bl3
    clear h3 t3 row3 bl3 rc2 rf2
    go_wp2_with fail
    refine (G4.out _ _ _ ((H3.out).put hB hb (i := 7) (.int .i64 y3))).mono ?_
    rintro e w4 ⟨rfl, ⟨ad4, c4, h4⟩, t4⟩
    have row4 : w4.heap[b]? = some (.cells (pkC ({ p with level := y3 }) (s)) 28) := by rw [t4.below.block b hb]; exact (put_row (p' := { p with level := y3 }) (s' := s) 7 (.int .i64 y3) ROW3.out (by (try rw [← LW.out]); (try rw [← LQ.out]); rfl))
    have bl4 : Below b w w4 := (((BL3.out).setCell (p := ⟨b, 7, none⟩) (Nat.le_refl b) (.int .i64 y3))).trans (t4.below.mono (Nat.le_of_lt hb))
    have OW4 := Lib.hid (own_rd ((own_put (OW3.out) hbw 7 (.int .i64 y3))) t4 hlt)
    have OP4 := Lib.hid (own_rd ((own_put (OP3.out) hbw 7 (.int .i64 y3))) t4 hlt)
    have rc4 := row_cells row4
    have rf4 := fun k => frozen_of_row w4 b k _ _ row4
    have H4 := Lib.hid h4
    have ROW4 := Lib.hid row4
    have BL4 := Lib.hid bl4
    clear h4 t4 row4 bl4 rc3 rf3
    go_wp2_with fail
    refine (G5.out _ _ _ H4.out).mono ?_
    rintro e w5 ⟨rfl, ⟨ad5, c5, h5⟩, t5⟩
    have row5 : w5.heap[b]? = some (.cells (pkC ({ p with level := y3 }) (s)) 28) := by rw [t5.below.block b hb]; exact ROW4.out
    have bl5 : Below b w w5 := (BL4.out).trans (t5.below.mono (Nat.le_of_lt hb))
    have OW5 := Lib.hid (own_rd (OW4.out) t5 hlt)
    have OP5 := Lib.hid (own_rd (OP4.out) t5 hlt)
    have rc5 := row_cells row5
    have rf5 := fun k => frozen_of_row w5 b k _ _ row5
    have H5 := Lib.hid h5
    have ROW5 := Lib.hid row5
    have BL5 := Lib.hid bl5
    clear h5 t5 row5 bl5 rc4 rf4
    go_wp2_with fail
    refine (G6.out _ _ _ ((H5.out).put hB hb (i := 10) (.int .i64 y5))).mono ?_
    rintro e w6 ⟨rfl, ⟨ad6, c6, h6⟩, t6⟩
    have row6 : w6.heap[b]? = some (.cells (pkC ({ p with level := y3, keep := y5 }) (s)) 28) := by rw [t6.below.block b hb]; exact (put_row (p' := { p with level := y3, keep := y5 }) (s' := s) 10 (.int .i64 y5) ROW5.out (by (try rw [← LW.out]); (try rw [← LQ.out]); rfl))
    have bl6 : Below b w w6 := (((BL5.out).setCell (p := ⟨b, 10, none⟩) (Nat.le_refl b) (.int .i64 y5))).trans (t6.below.mono (Nat.le_of_lt hb))
    have OW6 := Lib.hid (own_rd ((own_put (OW5.out) hbw 10 (.int .i64 y5))) t6 hlt)
    have OP6 := Lib.hid (own_rd ((own_put (OP5.out) hbw 10 (.int .i64 y5))) t6 hlt)
    have rc6 := row_cells row6
    have rf6 := fun k => frozen_of_row w6 b k _ _ row6
    have H6 := Lib.hid h6
    have ROW6 := Lib.hid row6
    have BL6 := Lib.hid bl6
    clear h6 t6 row6 bl6 rc5 rf5
    go_wp2_with fail
    refine (G10.out _ _ _ ((((((((((H6.out).put hB hb (i := 8) (.string x6))).put hB hb (i := 9) (.bool cl))).put hB hb (i := 11) (.bool false))).put hB hb (i := 16) (.bool false))).put hB hb (i := 17) (.bool true))).mono ?_
    rintro e w7 ⟨OPA, OPC, rfl, o7, ⟨ad7, c7, h7⟩, t7⟩
    have row7 : w7.heap[b]? = some (.cells (pkC ({ p with level := y3, keep := y5, cli := x6, clean := cl, hw := false, hu := false, hp := true }) (s)) 28) := by rw [t7.below.block b hb]; exact (put_row (p' := { p with level := y3, keep := y5, cli := x6, clean := cl, hw := false, hu := false, hp := true }) (s' := s) 17 (.bool true) (put_row (p' := { p with level := y3, keep := y5, cli := x6, clean := cl, hw := false, hu := false }) (s' := s) 16 (.bool false) (put_row (p' := { p with level := y3, keep := y5, cli := x6, clean := cl, hw := false }) (s' := s) 11 (.bool false) (put_row (p' := { p with level := y3, keep := y5, cli := x6, clean := cl }) (s' := s) 9 (.bool cl) (put_row (p' := { p with level := y3, keep := y5, cli := x6 }) (s' := s) 8 (.string x6) ROW6.out (by (try rw [← LW.out]); (try rw [← LQ.out]); rfl)) (by (try rw [← LW.out]); (try rw [← LQ.out]); rfl)) (by (try rw [← LW.out]); (try rw [← LQ.out]); rfl)) (by (try rw [← LW.out]); (try rw [← LQ.out]); rfl)) (by (try rw [← LW.out]); (try rw [← LQ.out]); rfl))
    have bl7 : Below b w w7 := (((((((((((BL6.out).setCell (p := ⟨b, 8, none⟩) (Nat.le_refl b) (.string x6))).setCell (p := ⟨b, 9, none⟩) (Nat.le_refl b) (.bool cl))).setCell (p := ⟨b, 11, none⟩) (Nat.le_refl b) (.bool false))).setCell (p := ⟨b, 16, none⟩) (Nat.le_refl b) (.bool false))).setCell (p := ⟨b, 17, none⟩) (Nat.le_refl b) (.bool true))).trans (t7.below.mono (Nat.le_of_lt hb))
    have OW7 := Lib.hid (own_rd ((own_put ((own_put ((own_put ((own_put ((own_put (OW6.out) hbw 8 (.string x6))) hbw 9 (.bool cl))) hbw 11 (.bool false))) hbw 16 (.bool false))) hbw 17 (.bool true))) t7 hlt)
    have OP7 := Lib.hid (own_mono3 o7 (base' := w.heap.size) (by have := BL6.out.size; simp; omega))
    have rc7 := row_cells row7
    have rf7 := fun k => frozen_of_row w7 b k _ _ row7
    have H7 := Lib.hid h7
    have ROW7 := Lib.hid row7
    have BL7 := Lib.hid bl7
    clear h7 t7 row7 bl7 o7 rc6 rf6
    go_wp2_with fail
    go_end0
    unfold ConPost
    rw [HQ.out]
    refine ⟨rfl, ((BL7.out).setCell (p := ⟨b, 19, none⟩) (Nat.le_refl b) (.slice OPA n10 OPC)), { s with uA := OPA, uC := OPC }, (put_row (p' := { p with level := y3, keep := y5, cli := x6, clean := cl, hw := false, hu := false, hp := true, pass := x10 }) (s' := { s with uA := OPA, uC := OPC }) 19 (.slice OPA n10 OPC) ROW7.out (by (try rw [← LW.out]); (try rw [← LQ.out]); rfl)), ⟨rfl, rfl, rfl, rfl, rfl, rfl⟩, ?_, ?_⟩
    · have q := (own_put (OW7.out) hbw 19 (.slice OPA n10 OPC))
      exact q
    · have q := (own_put (OP7.out) hbw 19 (.slice OPA n10 OPC))
      exact own_len LQ.out q
  · have LW : Hid True := Lib.hid trivial
    have f4 := c4.symm.trans e4
    have f128 := c128.symm.trans e128
    have f64 := c64.symm.trans e64
    obtain ⟨x9, hx9⟩ : ∃ x9, x9 = bytesOfL (gotL R6) := ⟨_, rfl⟩
    obtain ⟨R9, hR9⟩ : ∃ R9, R9 = leftL R6 := ⟨_, rfl⟩
    have G9 := Lib.hid (fun W a1 d1 => TX W a1 d1 R6 x9 R9 hx9 hR9)
    have LQ : Hid True := Lib.hid trivial
    have HQ : Hid (conP p l = { p with level := y3, keep := y5, cli := x6, clean := cl, hw := false, hu := true, hp := false, user := x9 }) := Lib.hid (by
      obtain ⟨hR2, hR3, hy3, hR4, hf, hR5, hy5, hR6, hx6⟩ := EQ.out
      obtain ⟨hcl, hwr, hwq⟩ := CL.out
      unfold conP
      simp only [← hR2, ← hR3, ← hy3, ← hR4, ← hf, ← hR5, ← hy5, ← hR6, ← hx6, hcl, hwr, hwq, f4, f128, f64, if_true, Bool.false_eq_true, if_false, ← hx9, ← hR9])
    clear EQ CL TX LP c4 c128 c64 f4 f128 f64 hx9 hR9
    go_enter Try.func85, Try.ntmps85
    go_wp2_with fail
    refine (G1.out _ _ _ h0.out).mono ?_
    rintro e w1 ⟨rfl, ⟨ad1, c1, h1⟩, t1⟩
    have row1 : w1.heap[b]? = some (.cells (pkC (p) (s)) 28) := by rw [t1.below.block b hb]; exact ROW0.out
    have bl1 : Below b w w1 := ((Below.refl b w)).trans (t1.below.mono (Nat.le_of_lt hb))
    have OW1 := Lib.hid (own_rd (OW0.out) t1 hlt)
    have OP1 := Lib.hid (own_rd (OP0.out) t1 hlt)
    have rc1 := row_cells row1
    have rf1 := fun k => frozen_of_row w1 b k _ _ row1
    have H1 := Lib.hid h1
    have ROW1 := Lib.hid row1
    have BL1 := Lib.hid bl1
    clear h1 t1 row1 bl1
    go_wp2_with fail
    refine (G2.out _ _ _ H1.out).mono ?_
    rintro e w2 ⟨rfl, ⟨ad2, c2, h2⟩, _, t2⟩
    have row2 : w2.heap[b]? = some (.cells (pkC (p) (s)) 28) := by rw [t2.below.block b hb]; exact ROW1.out
    have bl2 : Below b w w2 := (BL1.out).trans (t2.below.mono (Nat.le_of_lt hb))
    have OW2 := Lib.hid (own_rd (OW1.out) t2 hlt)
    have OP2 := Lib.hid (own_rd (OP1.out) t2 hlt)
    have rc2 := row_cells row2
    have rf2 := fun k => frozen_of_row w2 b k _ _ row2
    have H2 := Lib.hid h2
    have ROW2 := Lib.hid row2
    have BL2 := Lib.hid bl2
    clear h2 t2 row2 bl2 rc1 rf1
    go_wp2_with fail
    refine (G3.out _ _ _ H2.out).mono ?_
    rintro e w3 ⟨rfl, ⟨ad3, c3, h3⟩, t3⟩
    have row3 : w3.heap[b]? = some (.cells (pkC (p) (s)) 28) := by rw [t3.below.block b hb]; exact ROW2.out
    have bl3 : Below b w w3 := (BL2.out).trans (t3.below.mono (Nat.le_of_lt hb))
    have OW3 := Lib.hid (own_rd (OW2.out) t3 hlt)
    have OP3 := Lib.hid (own_rd (OP2.out) t3 hlt)
    have rc3 := row_cells row3
    have rf3 := fun k => frozen_of_row w3 b k _ _ row3
    have H3 := Lib.hid h3
    have ROW3 := Lib.hid row3
    have BL3 := Lib.hid bl3
    clear h3 t3 row3 bl3 rc2 rf2
    go_wp2_with fail
    refine (G4.out _ _ _ ((H3.out).put hB hb (i := 7) (.int .i64 y3))).mono ?_
    rintro e w4 ⟨rfl, ⟨ad4, c4, h4⟩, t4⟩
    have row4 : w4.heap[b]? = some (.cells (pkC ({ p with level := y3 }) (s)) 28) := by rw [t4.below.block b hb]; exact (put_row (p' := { p with level := y3 }) (s' := s) 7 (.int .i64 y3) ROW3.out (by (try rw [← LW.out]); (try rw [← LQ.out]); rfl))
    have bl4 : Below b w w4 := (((BL3.out).setCell (p := ⟨b, 7, none⟩) (Nat.le_refl b) (.int .i64 y3))).trans (t4.below.mono (Nat.le_of_lt hb))
    have OW4 := Lib.hid (own_rd ((own_put (OW3.out) hbw 7 (.int .i64 y3))) t4 hlt)
    have OP4 := Lib.hid (own_rd ((own_put (OP3.out) hbw 7 (.int .i64 y3))) t4 hlt)
    have rc4 := row_cells row4
    have rf4 := fun k => frozen_of_row w4 b k _ _ row4
    have H4 := Lib.hid h4
    have ROW4 := Lib.hid row4
    have BL4 := Lib.hid bl4
    clear h4 t4 row4 bl4 rc3 rf3
    go_wp2_with fail
    refine (G5.out _ _ _ H4.out).mono ?_
    rintro e w5 ⟨rfl, ⟨ad5, c5, h5⟩, t5⟩
    have row5 : w5.heap[b]? = some (.cells (pkC ({ p with level := y3 }) (s)) 28) := by rw [t5.below.block b hb]; exact ROW4.out
    have bl5 : Below b w w5 := (BL4.out).trans (t5.below.mono (Nat.le_of_lt hb))
    have OW5 := Lib.hid (own_rd (OW4.out) t5 hlt)
    have OP5 := Lib.hid (own_rd (OP4.out) t5 hlt)
    have rc5 := row_cells row5
    have rf5 := fun k => frozen_of_row w5 b k _ _ row5
    have H5 := Lib.hid h5
    have ROW5 := Lib.hid row5
    have BL5 := Lib.hid bl5
    clear h5 t5 row5 bl5 rc4 rf4
    go_wp2_with fail
    refine (G6.out _ _ _ ((H5.out).put hB hb (i := 10) (.int .i64 y5))).mono ?_
    rintro e w6 ⟨rfl, ⟨ad6, c6, h6⟩, t6⟩
    have row6 : w6.heap[b]? = some (.cells (pkC ({ p with level := y3, keep := y5 }) (s)) 28) := by rw [t6.below.block b hb]; exact (put_row (p' := { p with level := y3, keep := y5 }) (s' := s) 10 (.int .i64 y5) ROW5.out (by (try rw [← LW.out]); (try rw [← LQ.out]); rfl))
    have bl6 : Below b w w6 := (((BL5.out).setCell (p := ⟨b, 10, none⟩) (Nat.le_refl b) (.int .i64 y5))).trans (t6.below.mono (Nat.le_of_lt hb))
    have OW6 := Lib.hid (own_rd ((own_put (OW5.out) hbw 10 (.int .i64 y5))) t6 hlt)
    have OP6 := Lib.hid (own_rd ((own_put (OP5.out) hbw 10 (.int .i64 y5))) t6 hlt)
    have rc6 := row_cells row6
    have rf6 := fun k => frozen_of_row w6 b k _ _ row6
    have H6 := Lib.hid h6
    have ROW6 := Lib.hid row6
    have BL6 := Lib.hid bl6
    clear h6 t6 row6 bl6 rc5 rf5
    go_wp2_with fail
    refine (G9.out _ _ _ ((((((((((H6.out).put hB hb (i := 8) (.string x6))).put hB hb (i := 9) (.bool cl))).put hB hb (i := 11) (.bool false))).put hB hb (i := 16) (.bool true))).put hB hb (i := 17) (.bool false))).mono ?_
    rintro e w7 ⟨rfl, ⟨ad7, c7, h7⟩, t7⟩
    have row7 : w7.heap[b]? = some (.cells (pkC ({ p with level := y3, keep := y5, cli := x6, clean := cl, hw := false, hu := true, hp := false }) (s)) 28) := by rw [t7.below.block b hb]; exact (put_row (p' := { p with level := y3, keep := y5, cli := x6, clean := cl, hw := false, hu := true, hp := false }) (s' := s) 17 (.bool false) (put_row (p' := { p with level := y3, keep := y5, cli := x6, clean := cl, hw := false, hu := true }) (s' := s) 16 (.bool true) (put_row (p' := { p with level := y3, keep := y5, cli := x6, clean := cl, hw := false }) (s' := s) 11 (.bool false) (put_row (p' := { p with level := y3, keep := y5, cli := x6, clean := cl }) (s' := s) 9 (.bool cl) (put_row (p' := { p with level := y3, keep := y5, cli := x6 }) (s' := s) 8 (.string x6) ROW6.out (by (try rw [← LW.out]); (try rw [← LQ.out]); rfl)) (by (try rw [← LW.out]); (try rw [← LQ.out]); rfl)) (by (try rw [← LW.out]); (try rw [← LQ.out]); rfl)) (by (try rw [← LW.out]); (try rw [← LQ.out]); rfl)) (by (try rw [← LW.out]); (try rw [← LQ.out]); rfl))
    have bl7 : Below b w w7 := (((((((((((BL6.out).setCell (p := ⟨b, 8, none⟩) (Nat.le_refl b) (.string x6))).setCell (p := ⟨b, 9, none⟩) (Nat.le_refl b) (.bool cl))).setCell (p := ⟨b, 11, none⟩) (Nat.le_refl b) (.bool false))).setCell (p := ⟨b, 16, none⟩) (Nat.le_refl b) (.bool true))).setCell (p := ⟨b, 17, none⟩) (Nat.le_refl b) (.bool false))).trans (t7.below.mono (Nat.le_of_lt hb))
    have OW7 := Lib.hid (own_rd ((own_put ((own_put ((own_put ((own_put ((own_put (OW6.out) hbw 8 (.string x6))) hbw 9 (.bool cl))) hbw 11 (.bool false))) hbw 16 (.bool true))) hbw 17 (.bool false))) t7 hlt)
    have OP7 := Lib.hid (own_rd ((own_put ((own_put ((own_put ((own_put ((own_put (OP6.out) hbw 8 (.string x6))) hbw 9 (.bool cl))) hbw 11 (.bool false))) hbw 16 (.bool true))) hbw 17 (.bool false))) t7 hlt)
    have rc7 := row_cells row7
    have rf7 := fun k => frozen_of_row w7 b k _ _ row7
    have H7 := Lib.hid h7
    have ROW7 := Lib.hid row7
    have BL7 := Lib.hid bl7
    clear h7 t7 row7 bl7 rc6 rf6
    go_wp2_with fail
    go_end0
    unfold ConPost
    rw [HQ.out]
    refine ⟨rfl, ((BL7.out).setCell (p := ⟨b, 18, none⟩) (Nat.le_refl b) (.string x9)), s, (put_row (p' := { p with level := y3, keep := y5, cli := x6, clean := cl, hw := false, hu := true, hp := false, user := x9 }) (s' := s) 18 (.string x9) ROW7.out (by (try rw [← LW.out]); (try rw [← LQ.out]); rfl)), ⟨rfl, rfl, rfl, rfl, rfl, rfl⟩, ?_, ?_⟩
    · have q := (own_put (OW7.out) hbw 18 (.string x9))
      exact q
    · have q := (own_put (OP7.out) hbw 18 (.string x9))
      exact q
  · have LW : Hid True := Lib.hid trivial
    have f4 := c4.symm.trans e4
    have f128 := c128.symm.trans e128
    have f64 := c64.symm.trans e64
    obtain ⟨x9, hx9⟩ : ∃ x9, x9 = bytesOfL (gotL R6) := ⟨_, rfl⟩
    obtain ⟨R9, hR9⟩ : ∃ R9, R9 = leftL R6 := ⟨_, rfl⟩
    have G9 := Lib.hid (fun W a1 d1 => TX W a1 d1 R6 x9 R9 hx9 hR9)
    obtain ⟨x10, hx10⟩ : ∃ x10, x10 = gotL R9 := ⟨_, rfl⟩
    obtain ⟨n10, hn10⟩ : ∃ n10, x10.length = n10 := ⟨_, rfl⟩
    obtain ⟨R10, hR10⟩ : ∃ R10, R10 = leftL R9 := ⟨_, rfl⟩
    have G10 := Lib.hid (fun W a1 d1 => LP W a1 d1 R9 x10 n10 R10 hx10 hn10 hR10)
    have LQ := Lib.hid hn10
    have HQ : Hid (conP p l = { p with level := y3, keep := y5, cli := x6, clean := cl, hw := false, hu := true, hp := true, user := x9, pass := x10 }) := Lib.hid (by
      obtain ⟨hR2, hR3, hy3, hR4, hf, hR5, hy5, hR6, hx6⟩ := EQ.out
      obtain ⟨hcl, hwr, hwq⟩ := CL.out
      unfold conP
      simp only [← hR2, ← hR3, ← hy3, ← hR4, ← hf, ← hR5, ← hy5, ← hR6, ← hx6, hcl, hwr, hwq, f4, f128, f64, if_true, Bool.false_eq_true, if_false, ← hx9, ← hR9, ← hx10])
    clear EQ CL TX LP c4 c128 c64 f4 f128 f64 hx9 hR9 hx10 hn10 hR10
    go_enter Try.func85, Try.ntmps85
    go_wp2_with fail
    refine (G1.out _ _ _ h0.out).mono ?_
    rintro e w1 ⟨rfl, ⟨ad1, c1, h1⟩, t1⟩
    have row1 : w1.heap[b]? = some (.cells (pkC (p) (s)) 28) := by rw [t1.below.block b hb]; exact ROW0.out
    have bl1 : Below b w w1 := ((Below.refl b w)).trans (t1.below.mono (Nat.le_of_lt hb))
    have OW1 := Lib.hid (own_rd (OW0.out) t1 hlt)
    have OP1 := Lib.hid (own_rd (OP0.out) t1 hlt)
    have rc1 := row_cells row1
    have rf1 := fun k => frozen_of_row w1 b k _ _ row1
    have H1 := Lib.hid h1
    have ROW1 := Lib.hid row1
    have BL1 := Lib.hid bl1
    clear h1 t1 row1 bl1
    go_wp2_with fail
    refine (G2.out _ _ _ H1.out).mono ?_
    rintro e w2 ⟨rfl, ⟨ad2, c2, h2⟩, _, t2⟩
    have row2 : w2.heap[b]? = some (.cells (pkC (p) (s)) 28) := by rw [t2.below.block b hb]; exact ROW1.out
    have bl2 : Below b w w2 := (BL1.out).trans (t2.below.mono (Nat.le_of_lt hb))
    have OW2 := Lib.hid (own_rd (OW1.out) t2 hlt)
    have OP2 := Lib.hid (own_rd (OP1.out) t2 hlt)
    have rc2 := row_cells row2
    have rf2 := fun k => frozen_of_row w2 b k _ _ row2
    have H2 := Lib.hid h2
    have ROW2 := Lib.hid row2
    have BL2 := Lib.hid bl2
    clear h2 t2 row2 bl2 rc1 rf1
    go_wp2_with fail
    refine (G3.out _ _ _ H2.out).mono ?_
    rintro e w3 ⟨rfl, ⟨ad3, c3, h3⟩, t3⟩
    have row3 : w3.heap[b]? = some (.cells (pkC (p) (s)) 28) := by rw [t3.below.block b hb]; exact ROW2.out
    have bl3 : Below b w w3 := (BL2.out).trans (t3.below.mono (Nat.le_of_lt hb))
    have OW3 := Lib.hid (own_rd (OW2.out) t3 hlt)
    have OP3 := Lib.hid (own_rd (OP2.out) t3 hlt)
    have rc3 := row_cells row3
    have rf3 := fun k => frozen_of_row w3 b k _ _ row3
    have H3 := Lib.hid h3
    have ROW3 := Lib.hid row3
    have BL3 := Lib.hid bl3
    clear h3 t3 row3 bl3 rc2 rf2
    go_wp2_with fail
    refine (G4.out _ _ _ ((H3.out).put hB hb (i := 7) (.int .i64 y3))).mono ?_
    rintro e w4 ⟨rfl, ⟨ad4, c4, h4⟩, t4⟩
    have row4 : w4.heap[b]? = some (.cells (pkC ({ p with level := y3 }) (s)) 28) := by rw [t4.below.block b hb]; exact (put_row (p' := { p with level := y3 }) (s' := s) 7 (.int .i64 y3) ROW3.out (by (try rw [← LW.out]); (try rw [← LQ.out]); rfl))
    have bl4 : Below b w w4 := (((BL3.out).setCell (p := ⟨b, 7, none⟩) (Nat.le_refl b) (.int .i64 y3))).trans (t4.below.mono (Nat.le_of_lt hb))
    have OW4 := Lib.hid (own_rd ((own_put (OW3.out) hbw 7 (.int .i64 y3))) t4 hlt)
    have OP4 := Lib.hid (own_rd ((own_put (OP3.out) hbw 7 (.int .i64 y3))) t4 hlt)
    have rc4 := row_cells row4
    have rf4 := fun k => frozen_of_row w4 b k _ _ row4
    have H4 := Lib.hid h4
    have ROW4 := Lib.hid row4
    have BL4 := Lib.hid bl4
    clear h4 t4 row4 bl4 rc3 rf3
    go_wp2_with fail
    refine (G5.out _ _ _ H4.out).mono ?_
    rintro e w5 ⟨rfl, ⟨ad5, c5, h5⟩, t5⟩
    have row5 : w5.heap[b]? = some (.cells (pkC ({ p with level := y3 }) (s)) 28) := by rw [t5.below.block b hb]; exact ROW4.out
    have bl5 : Below b w w5 := (BL4.out).trans (t5.below.mono (Nat.le_of_lt hb))
    have OW5 := Lib.hid (own_rd (OW4.out) t5 hlt)
    have OP5 := Lib.hid (own_rd (OP4.out) t5 hlt)
    have rc5 := row_cells row5
    have rf5 := fun k => frozen_of_row w5 b k _ _ row5
    have H5 := Lib.hid h5
    have ROW5 := Lib.hid row5
    have BL5 := Lib.hid bl5
    clear h5 t5 row5 bl5 rc4 rf4
    go_wp2_with fail
    refine (G6.out _ _ _ ((H5.out).put hB hb (i := 10) (.int .i64 y5))).mono ?_
    rintro e w6 ⟨rfl, ⟨ad6, c6, h6⟩, t6⟩
    have row6 : w6.heap[b]? = some (.cells (pkC ({ p with level := y3, keep := y5 }) (s)) 28) := by rw [t6.below.block b hb]; exact (put_row (p' := { p with level := y3, keep := y5 }) (s' := s) 10 (.int .i64 y5) ROW5.out (by (try rw [← LW.out]); (try rw [← LQ.out]); rfl))
    have bl6 : Below b w w6 := (((BL5.out).setCell (p := ⟨b, 10, none⟩) (Nat.le_refl b) (.int .i64 y5))).trans (t6.below.mono (Nat.le_of_lt hb))
    have OW6 := Lib.hid (own_rd ((own_put (OW5.out) hbw 10 (.int .i64 y5))) t6 hlt)
    have OP6 := Lib.hid (own_rd ((own_put (OP5.out) hbw 10 (.int .i64 y5))) t6 hlt)
    have rc6 := row_cells row6
    have rf6 := fun k => frozen_of_row w6 b k _ _ row6
    have H6 := Lib.hid h6
    have ROW6 := Lib.hid row6
    have BL6 := Lib.hid bl6
    clear h6 t6 row6 bl6 rc5 rf5
    go_wp2_with fail
    refine (G9.out _ _ _ ((((((((((H6.out).put hB hb (i := 8) (.string x6))).put hB hb (i := 9) (.bool cl))).put hB hb (i := 11) (.bool false))).put hB hb (i := 16) (.bool true))).put hB hb (i := 17) (.bool true))).mono ?_
    rintro e w7 ⟨rfl, ⟨ad7, c7, h7⟩, t7⟩
    have row7 : w7.heap[b]? = some (.cells (pkC ({ p with level := y3, keep := y5, cli := x6, clean := cl, hw := false, hu := true, hp := true }) (s)) 28) := by rw [t7.below.block b hb]; exact (put_row (p' := { p with level := y3, keep := y5, cli := x6, clean := cl, hw := false, hu := true, hp := true }) (s' := s) 17 (.bool true) (put_row (p' := { p with level := y3, keep := y5, cli := x6, clean := cl, hw := false, hu := true }) (s' := s) 16 (.bool true) (put_row (p' := { p with level := y3, keep := y5, cli := x6, clean := cl, hw := false }) (s' := s) 11 (.bool false) (put_row (p' := { p with level := y3, keep := y5, cli := x6, clean := cl }) (s' := s) 9 (.bool cl) (put_row (p' := { p with level := y3, keep := y5, cli := x6 }) (s' := s) 8 (.string x6) ROW6.out (by (try rw [← LW.out]); (try rw [← LQ.out]); rfl)) (by (try rw [← LW.out]); (try rw [← LQ.out]); rfl)) (by (try rw [← LW.out]); (try rw [← LQ.out]); rfl)) (by (try rw [← LW.out]); (try rw [← LQ.out]); rfl)) (by (try rw [← LW.out]); (try rw [← LQ.out]); rfl))
    have bl7 : Below b w w7 := (((((((((((BL6.out).setCell (p := ⟨b, 8, none⟩) (Nat.le_refl b) (.string x6))).setCell (p := ⟨b, 9, none⟩) (Nat.le_refl b) (.bool cl))).setCell (p := ⟨b, 11, none⟩) (Nat.le_refl b) (.bool false))).setCell (p := ⟨b, 16, none⟩) (Nat.le_refl b) (.bool true))).setCell (p := ⟨b, 17, none⟩) (Nat.le_refl b) (.bool true))).trans (t7.below.mono (Nat.le_of_lt hb))
    have OW7 := Lib.hid (own_rd ((own_put ((own_put ((own_put ((own_put ((own_put (OW6.out) hbw 8 (.string x6))) hbw 9 (.bool cl))) hbw 11 (.bool false))) hbw 16 (.bool true))) hbw 17 (.bool true))) t7 hlt)
    have OP7 := Lib.hid (own_rd ((own_put ((own_put ((own_put ((own_put ((own_put (OP6.out) hbw 8 (.string x6))) hbw 9 (.bool cl))) hbw 11 (.bool false))) hbw 16 (.bool true))) hbw 17 (.bool true))) t7 hlt)
    have rc7 := row_cells row7
    have rf7 := fun k => frozen_of_row w7 b k _ _ row7
    have H7 := Lib.hid h7
    have ROW7 := Lib.hid row7
    have BL7 := Lib.hid bl7
    clear h7 t7 row7 bl7 rc6 rf6
    go_wp2_with fail
    refine (G10.out _ _ _ ((H7.out).put hB hb (i := 18) (.string x9))).mono ?_
    rintro e w8 ⟨OPA, OPC, rfl, o8, ⟨ad8, c8, h8⟩, t8⟩
    have row8 : w8.heap[b]? = some (.cells (pkC ({ p with level := y3, keep := y5, cli := x6, clean := cl, hw := false, hu := true, hp := true, user := x9 }) (s)) 28) := by rw [t8.below.block b hb]; exact (put_row (p' := { p with level := y3, keep := y5, cli := x6, clean := cl, hw := false, hu := true, hp := true, user := x9 }) (s' := s) 18 (.string x9) ROW7.out (by (try rw [← LW.out]); (try rw [← LQ.out]); rfl))
    have bl8 : Below b w w8 := (((BL7.out).setCell (p := ⟨b, 18, none⟩) (Nat.le_refl b) (.string x9))).trans (t8.below.mono (Nat.le_of_lt hb))
    have OW8 := Lib.hid (own_rd ((own_put (OW7.out) hbw 18 (.string x9))) t8 hlt)
    have OP8 := Lib.hid (own_mono3 o8 (base' := w.heap.size) (by have := BL7.out.size; simp; omega))
    have rc8 := row_cells row8
    have rf8 := fun k => frozen_of_row w8 b k _ _ row8
    have H8 := Lib.hid h8
    have ROW8 := Lib.hid row8
    have BL8 := Lib.hid bl8
    clear h8 t8 row8 bl8 o8 rc7 rf7
    go_wp2_with fail
    go_end0
    unfold ConPost
    rw [HQ.out]
    refine ⟨rfl, ((BL8.out).setCell (p := ⟨b, 19, none⟩) (Nat.le_refl b) (.slice OPA n10 OPC)), { s with uA := OPA, uC := OPC }, (put_row (p' := { p with level := y3, keep := y5, cli := x6, clean := cl, hw := false, hu := true, hp := true, user := x9, pass := x10 }) (s' := { s with uA := OPA, uC := OPC }) 19 (.slice OPA n10 OPC) ROW8.out (by (try rw [← LW.out]); (try rw [← LQ.out]); rfl)), ⟨rfl, rfl, rfl, rfl, rfl, rfl⟩, ?_, ?_⟩
    · have q := (own_put (OW8.out) hbw 19 (.slice OPA n10 OPC))
      exact q
    · have q := (own_put (OP8.out) hbw 19 (.slice OPA n10 OPC))
      exact own_len LQ.out q
  · skip
    have f4 := c4.symm.trans e4
    have f128 := c128.symm.trans e128
    have f64 := c64.symm.trans e64
    obtain ⟨x7, hx7⟩ : ∃ x7, x7 = bytesOfL (gotL R6) := ⟨_, rfl⟩
    obtain ⟨R7, hR7⟩ : ∃ R7, R7 = leftL R6 := ⟨_, rfl⟩
    obtain ⟨x8, hx8⟩ : ∃ x8, x8 = gotL R7 := ⟨_, rfl⟩
    obtain ⟨n8, hn8⟩ : ∃ n8, x8.length = n8 := ⟨_, rfl⟩
    obtain ⟨R8, hR8⟩ : ∃ R8, R8 = leftL R7 := ⟨_, rfl⟩
    have G7 := Lib.hid (fun W a1 d1 => TX W a1 d1 R6 x7 R7 hx7 hR7)
    have G8 := Lib.hid (fun W a1 d1 => LP W a1 d1 R7 x8 n8 R8 hx8 hn8 hR8)
    have LW := Lib.hid hn8
    have LQ : Hid True := Lib.hid trivial
    have HQ : Hid (conP p l = { p with level := y3, keep := y5, cli := x6, clean := cl, hw := true, hu := false, hp := false, wtop := x7, wpay := x8, wqos := wq, wret := wr }) := Lib.hid (by
      obtain ⟨hR2, hR3, hy3, hR4, hf, hR5, hy5, hR6, hx6⟩ := EQ.out
      obtain ⟨hcl, hwr, hwq⟩ := CL.out
      unfold conP
      simp only [← hR2, ← hR3, ← hy3, ← hR4, ← hf, ← hR5, ← hy5, ← hR6, ← hx6, hcl, hwr, hwq, f4, f128, f64, if_true, Bool.false_eq_true, if_false, ← hx7, ← hR7, ← hx8, ← hR8])
    clear EQ CL TX LP c4 c128 c64 f4 f128 f64 hx7 hR7 hx8 hn8 hR8
    go_enter Try.func85, Try.ntmps85
    go_wp2_with fail
    refine (G1.out _ _ _ h0.out).mono ?_
    rintro e w1 ⟨rfl, ⟨ad1, c1, h1⟩, t1⟩
    have row1 : w1.heap[b]? = some (.cells (pkC (p) (s)) 28) := by rw [t1.below.block b hb]; exact ROW0.out
    have bl1 : Below b w w1 := ((Below.refl b w)).trans (t1.below.mono (Nat.le_of_lt hb))
    have OW1 := Lib.hid (own_rd (OW0.out) t1 hlt)
    have OP1 := Lib.hid (own_rd (OP0.out) t1 hlt)
    have rc1 := row_cells row1
    have rf1 := fun k => frozen_of_row w1 b k _ _ row1
    have H1 := Lib.hid h1
    have ROW1 := Lib.hid row1
    have BL1 := Lib.hid bl1
    clear h1 t1 row1 bl1
    go_wp2_with fail
    refine (G2.out _ _ _ H1.out).mono ?_
    rintro e w2 ⟨rfl, ⟨ad2, c2, h2⟩, _, t2⟩
    have row2 : w2.heap[b]? = some (.cells (pkC (p) (s)) 28) := by rw [t2.below.block b hb]; exact ROW1.out
    have bl2 : Below b w w2 := (BL1.out).trans (t2.below.mono (Nat.le_of_lt hb))
    have OW2 := Lib.hid (own_rd (OW1.out) t2 hlt)
    have OP2 := Lib.hid (own_rd (OP1.out) t2 hlt)
    have rc2 := row_cells row2
    have rf2 := fun k => frozen_of_row w2 b k _ _ row2
    have H2 := Lib.hid h2
    have ROW2 := Lib.hid row2
    have BL2 := Lib.hid bl2
    clear h2 t2 row2 bl2 rc1 rf1
    go_wp2_with fail
    refine (G3.out _ _ _ H2.out).mono ?_
    rintro e w3 ⟨rfl, ⟨ad3, c3, h3⟩, t3⟩
    have row3 : w3.heap[b]? = some (.cells (pkC (p) (s)) 28) := by rw [t3.below.block b hb]; exact ROW2.out
    have bl3 : Below b w w3 := (BL2.out).trans (t3.below.mono (Nat.le_of_lt hb))
    have OW3 := Lib.hid (own_rd (OW2.out) t3 hlt)
    have OP3 := Lib.hid (own_rd (OP2.out) t3 hlt)
    have rc3 := row_cells row3
    have rf3 := fun k => frozen_of_row w3 b k _ _ row3
    have H3 := Lib.hid h3
    have ROW3 := Lib.hid row3
    have BL3 := Lib.hid bl3
    clear h3 t3 row3 bl3 rc2 rf2
    go_wp2_with fail
    refine (G4.out _ _ _ ((H3.out).put hB hb (i := 7) (.int .i64 y3))).mono ?_
    rintro e w4 ⟨rfl, ⟨ad4, c4, h4⟩, t4⟩
    have row4 : w4.heap[b]? = some (.cells (pkC ({ p with level := y3 }) (s)) 28) := by rw [t4.below.block b hb]; exact (put_row (p' := { p with level := y3 }) (s' := s) 7 (.int .i64 y3) ROW3.out (by (try rw [← LW.out]); (try rw [← LQ.out]); rfl))
    have bl4 : Below b w w4 := (((BL3.out).setCell (p := ⟨b, 7, none⟩) (Nat.le_refl b) (.int .i64 y3))).trans (t4.below.mono (Nat.le_of_lt hb))
    have OW4 := Lib.hid (own_rd ((own_put (OW3.out) hbw 7 (.int .i64 y3))) t4 hlt)
    have OP4 := Lib.hid (own_rd ((own_put (OP3.out) hbw 7 (.int .i64 y3))) t4 hlt)
    have rc4 := row_cells row4
    have rf4 := fun k => frozen_of_row w4 b k _ _ row4
    have H4 := Lib.hid h4
    have ROW4 := Lib.hid row4
    have BL4 := Lib.hid bl4
    clear h4 t4 row4 bl4 rc3 rf3
    go_wp2_with fail
    refine (G5.out _ _ _ H4.out).mono ?_
    rintro e w5 ⟨rfl, ⟨ad5, c5, h5⟩, t5⟩
    have row5 : w5.heap[b]? = some (.cells (pkC ({ p with level := y3 }) (s)) 28) := by rw [t5.below.block b hb]; exact ROW4.out
    have bl5 : Below b w w5 := (BL4.out).trans (t5.below.mono (Nat.le_of_lt hb))
    have OW5 := Lib.hid (own_rd (OW4.out) t5 hlt)
    have OP5 := Lib.hid (own_rd (OP4.out) t5 hlt)
    have rc5 := row_cells row5
    have rf5 := fun k => frozen_of_row w5 b k _ _ row5
    have H5 := Lib.hid h5
    have ROW5 := Lib.hid row5
    have BL5 := Lib.hid bl5
    clear h5 t5 row5 bl5 rc4 rf4
    go_wp2_with fail
    refine (G6.out _ _ _ ((H5.out).put hB hb (i := 10) (.int .i64 y5))).mono ?_
    rintro e w6 ⟨rfl, ⟨ad6, c6, h6⟩, t6⟩
    have row6 : w6.heap[b]? = some (.cells (pkC ({ p with level := y3, keep := y5 }) (s)) 28) := by rw [t6.below.block b hb]; exact (put_row (p' := { p with level := y3, keep := y5 }) (s' := s) 10 (.int .i64 y5) ROW5.out (by (try rw [← LW.out]); (try rw [← LQ.out]); rfl))
    have bl6 : Below b w w6 := (((BL5.out).setCell (p := ⟨b, 10, none⟩) (Nat.le_refl b) (.int .i64 y5))).trans (t6.below.mono (Nat.le_of_lt hb))
    have OW6 := Lib.hid (own_rd ((own_put (OW5.out) hbw 10 (.int .i64 y5))) t6 hlt)
    have OP6 := Lib.hid (own_rd ((own_put (OP5.out) hbw 10 (.int .i64 y5))) t6 hlt)
    have rc6 := row_cells row6
    have rf6 := fun k => frozen_of_row w6 b k _ _ row6
    have H6 := Lib.hid h6
    have ROW6 := Lib.hid row6
    have BL6 := Lib.hid bl6
    clear h6 t6 row6 bl6 rc5 rf5
    go_wp2_with fail
    refine (G7.out _ _ _ ((((((((((H6.out).put hB hb (i := 8) (.string x6))).put hB hb (i := 9) (.bool cl))).put hB hb (i := 11) (.bool true))).put hB hb (i := 16) (.bool false))).put hB hb (i := 17) (.bool false))).mono ?_
    rintro e w7 ⟨rfl, ⟨ad7, c7, h7⟩, t7⟩
    have row7 : w7.heap[b]? = some (.cells (pkC ({ p with level := y3, keep := y5, cli := x6, clean := cl, hw := true, hu := false, hp := false }) (s)) 28) := by rw [t7.below.block b hb]; exact (put_row (p' := { p with level := y3, keep := y5, cli := x6, clean := cl, hw := true, hu := false, hp := false }) (s' := s) 17 (.bool false) (put_row (p' := { p with level := y3, keep := y5, cli := x6, clean := cl, hw := true, hu := false }) (s' := s) 16 (.bool false) (put_row (p' := { p with level := y3, keep := y5, cli := x6, clean := cl, hw := true }) (s' := s) 11 (.bool true) (put_row (p' := { p with level := y3, keep := y5, cli := x6, clean := cl }) (s' := s) 9 (.bool cl) (put_row (p' := { p with level := y3, keep := y5, cli := x6 }) (s' := s) 8 (.string x6) ROW6.out (by (try rw [← LW.out]); (try rw [← LQ.out]); rfl)) (by (try rw [← LW.out]); (try rw [← LQ.out]); rfl)) (by (try rw [← LW.out]); (try rw [← LQ.out]); rfl)) (by (try rw [← LW.out]); (try rw [← LQ.out]); rfl)) (by (try rw [← LW.out]); (try rw [← LQ.out]); rfl))
    have bl7 : Below b w w7 := (((((((((((BL6.out).setCell (p := ⟨b, 8, none⟩) (Nat.le_refl b) (.string x6))).setCell (p := ⟨b, 9, none⟩) (Nat.le_refl b) (.bool cl))).setCell (p := ⟨b, 11, none⟩) (Nat.le_refl b) (.bool true))).setCell (p := ⟨b, 16, none⟩) (Nat.le_refl b) (.bool false))).setCell (p := ⟨b, 17, none⟩) (Nat.le_refl b) (.bool false))).trans (t7.below.mono (Nat.le_of_lt hb))
    have OW7 := Lib.hid (own_rd ((own_put ((own_put ((own_put ((own_put ((own_put (OW6.out) hbw 8 (.string x6))) hbw 9 (.bool cl))) hbw 11 (.bool true))) hbw 16 (.bool false))) hbw 17 (.bool false))) t7 hlt)
    have OP7 := Lib.hid (own_rd ((own_put ((own_put ((own_put ((own_put ((own_put (OP6.out) hbw 8 (.string x6))) hbw 9 (.bool cl))) hbw 11 (.bool true))) hbw 16 (.bool false))) hbw 17 (.bool false))) t7 hlt)
    have rc7 := row_cells row7
    have rf7 := fun k => frozen_of_row w7 b k _ _ row7
    have H7 := Lib.hid h7
    have ROW7 := Lib.hid row7
    have BL7 := Lib.hid bl7
    clear h7 t7 row7 bl7 rc6 rf6
    go_wp2_with fail
    refine (G8.out _ _ _ ((H7.out).put hB hb (i := 12) (.string x7))).mono ?_
    rintro e w8 ⟨OWA, OWC, rfl, o8, ⟨ad8, c8, h8⟩, t8⟩
    have row8 : w8.heap[b]? = some (.cells (pkC ({ p with level := y3, keep := y5, cli := x6, clean := cl, hw := true, hu := false, hp := false, wtop := x7 }) (s)) 28) := by rw [t8.below.block b hb]; exact (put_row (p' := { p with level := y3, keep := y5, cli := x6, clean := cl, hw := true, hu := false, hp := false, wtop := x7 }) (s' := s) 12 (.string x7) ROW7.out (by (try rw [← LW.out]); (try rw [← LQ.out]); rfl))
    have bl8 : Below b w w8 := (((BL7.out).setCell (p := ⟨b, 12, none⟩) (Nat.le_refl b) (.string x7))).trans (t8.below.mono (Nat.le_of_lt hb))
    have OW8 := Lib.hid (own_mono3 o8 (base' := w.heap.size) (by have := BL7.out.size; simp; omega))
    have OP8 := Lib.hid (own_rd ((own_put (OP7.out) hbw 12 (.string x7))) t8 hlt)
    have rc8 := row_cells row8
    have rf8 := fun k => frozen_of_row w8 b k _ _ row8
    have H8 := Lib.hid h8
    have ROW8 := Lib.hid row8
    have BL8 := Lib.hid bl8
    clear h8 t8 row8 bl8 o8 rc7 rf7
    go_wp2_with fail
    go_end0
    unfold ConPost
    rw [HQ.out]
    refine ⟨rfl, ((((((BL8.out).setCell (p := ⟨b, 13, none⟩) (Nat.le_refl b) (.slice OWA n8 OWC))).setCell (p := ⟨b, 14, none⟩) (Nat.le_refl b) (.int .i64 wq))).setCell (p := ⟨b, 15, none⟩) (Nat.le_refl b) (.bool wr)), { s with wA := OWA, wC := OWC }, (put_row (p' := { p with level := y3, keep := y5, cli := x6, clean := cl, hw := true, hu := false, hp := false, wtop := x7, wpay := x8, wqos := wq, wret := wr }) (s' := { s with wA := OWA, wC := OWC }) 15 (.bool wr) (put_row (p' := { p with level := y3, keep := y5, cli := x6, clean := cl, hw := true, hu := false, hp := false, wtop := x7, wpay := x8, wqos := wq }) (s' := { s with wA := OWA, wC := OWC }) 14 (.int .i64 wq) (put_row (p' := { p with level := y3, keep := y5, cli := x6, clean := cl, hw := true, hu := false, hp := false, wtop := x7, wpay := x8 }) (s' := { s with wA := OWA, wC := OWC }) 13 (.slice OWA n8 OWC) ROW8.out (by (try rw [← LW.out]); (try rw [← LQ.out]); rfl)) (by (try rw [← LW.out]); (try rw [← LQ.out]); rfl)) (by (try rw [← LW.out]); (try rw [← LQ.out]); rfl)), ⟨rfl, rfl, rfl, rfl, rfl, rfl⟩, ?_, ?_⟩
    · have q := (own_put ((own_put ((own_put (OW8.out) hbw 13 (.slice OWA n8 OWC))) hbw 14 (.int .i64 wq))) hbw 15 (.bool wr))
      exact own_len LW.out q
    · have q := (own_put ((own_put ((own_put (OP8.out) hbw 13 (.slice OWA n8 OWC))) hbw 14 (.int .i64 wq))) hbw 15 (.bool wr))
      exact q
  · skip
    have f4 := c4.symm.trans e4
    have f128 := c128.symm.trans e128
    have f64 := c64.symm.trans e64
    obtain ⟨x7, hx7⟩ : ∃ x7, x7 = bytesOfL (gotL R6) := ⟨_, rfl⟩
    obtain ⟨R7, hR7⟩ : ∃ R7, R7 = leftL R6 := ⟨_, rfl⟩
    obtain ⟨x8, hx8⟩ : ∃ x8, x8 = gotL R7 := ⟨_, rfl⟩
    obtain ⟨n8, hn8⟩ : ∃ n8, x8.length = n8 := ⟨_, rfl⟩
    obtain ⟨R8, hR8⟩ : ∃ R8, R8 = leftL R7 := ⟨_, rfl⟩
    have G7 := Lib.hid (fun W a1 d1 => TX W a1 d1 R6 x7 R7 hx7 hR7)
    have G8 := Lib.hid (fun W a1 d1 => LP W a1 d1 R7 x8 n8 R8 hx8 hn8 hR8)
    have LW := Lib.hid hn8
    obtain ⟨x10, hx10⟩ : ∃ x10, x10 = gotL R8 := ⟨_, rfl⟩
    obtain ⟨n10, hn10⟩ : ∃ n10, x10.length = n10 := ⟨_, rfl⟩
    obtain ⟨R10, hR10⟩ : ∃ R10, R10 = leftL R8 := ⟨_, rfl⟩
    have G10 := Lib.hid (fun W a1 d1 => LP W a1 d1 R8 x10 n10 R10 hx10 hn10 hR10)
    have LQ := Lib.hid hn10
    have HQ : Hid (conP p l = { p with level := y3, keep := y5, cli := x6, clean := cl, hw := true, hu := false, hp := true, wtop := x7, wpay := x8, wqos := wq, wret := wr, pass := x10 }) := Lib.hid (by
      obtain ⟨hR2, hR3, hy3, hR4, hf, hR5, hy5, hR6, hx6⟩ := EQ.out
      obtain ⟨hcl, hwr, hwq⟩ := CL.out
      unfold conP
      simp only [← hR2, ← hR3, ← hy3, ← hR4, ← hf, ← hR5, ← hy5, ← hR6, ← hx6, hcl, hwr, hwq, f4, f128, f64, if_true, Bool.false_eq_true, if_false, ← hx7, ← hR7, ← hx8, ← hR8, ← hx10])
    clear EQ CL TX LP c4 c128 c64 f4 f128 f64 hx7 hR7 hx8 hn8 hR8 hx10 hn10 hR10
    go_enter Try.func85, Try.ntmps85
    go_wp2_with fail
    refine (G1.out _ _ _ h0.out).mono ?_
    rintro e w1 ⟨rfl, ⟨ad1, c1, h1⟩, t1⟩
    have row1 : w1.heap[b]? = some (.cells (pkC (p) (s)) 28) := by rw [t1.below.block b hb]; exact ROW0.out
    have bl1 : Below b w w1 := ((Below.refl b w)).trans (t1.below.mono (Nat.le_of_lt hb))
    have OW1 := Lib.hid (own_rd (OW0.out) t1 hlt)
    have OP1 := Lib.hid (own_rd (OP0.out) t1 hlt)
    have rc1 := row_cells row1
    have rf1 := fun k => frozen_of_row w1 b k _ _ row1
    have H1 := Lib.hid h1
    have ROW1 := Lib.hid row1
    have BL1 := Lib.hid bl1
    clear h1 t1 row1 bl1
    go_wp2_with fail
    refine (G2.out _ _ _ H1.out).mono ?_
    rintro e w2 ⟨rfl, ⟨ad2, c2, h2⟩, _, t2⟩
    have row2 : w2.heap[b]? = some (.cells (pkC (p) (s)) 28) := by rw [t2.below.block b hb]; exact ROW1.out
    have bl2 : Below b w w2 := (BL1.out).trans (t2.below.mono (Nat.le_of_lt hb))
    have OW2 := Lib.hid (own_rd (OW1.out) t2 hlt)
    have OP2 := Lib.hid (own_rd (OP1.out) t2 hlt)
    have rc2 := row_cells row2
    have rf2 := fun k => frozen_of_row w2 b k _ _ row2
    have H2 := Lib.hid h2
    have ROW2 := Lib.hid row2
    have BL2 := Lib.hid bl2
    clear h2 t2 row2 bl2 rc1 rf1
    go_wp2_with fail
    refine (G3.out _ _ _ H2.out).mono ?_
    rintro e w3 ⟨rfl, ⟨ad3, c3, h3⟩, t3⟩
    have row3 : w3.heap[b]? = some (.cells (pkC (p) (s)) 28) := by rw [t3.below.block b hb]; exact ROW2.out
    have bl3 : Below b w w3 := (BL2.out).trans (t3.below.mono (Nat.le_of_lt hb))
    have OW3 := Lib.hid (own_rd (OW2.out) t3 hlt)
    have OP3 := Lib.hid (own_rd (OP2.out) t3 hlt)
    have rc3 := row_cells row3
    have rf3 := fun k => frozen_of_row w3 b k _ _ row3
    have H3 := Lib.hid h3
    have ROW3 := Lib.hid row3
    have BL3 := Lib.hid bl3
    clear h3 t3 row3 bl3 rc2 rf2
    go_wp2_with fail
    refine (G4.out _ _ _ ((H3.out).put hB hb (i := 7) (.int .i64 y3))).mono ?_
    rintro e w4 ⟨rfl, ⟨ad4, c4, h4⟩, t4⟩
    have row4 : w4.heap[b]? = some (.cells (pkC ({ p with level := y3 }) (s)) 28) := by rw [t4.below.block b hb]; exact (put_row (p' := { p with level := y3 }) (s' := s) 7 (.int .i64 y3) ROW3.out (by (try rw [← LW.out]); (try rw [← LQ.out]); rfl))
    have bl4 : Below b w w4 := (((BL3.out).setCell (p := ⟨b, 7, none⟩) (Nat.le_refl b) (.int .i64 y3))).trans (t4.below.mono (Nat.le_of_lt hb))
    have OW4 := Lib.hid (own_rd ((own_put (OW3.out) hbw 7 (.int .i64 y3))) t4 hlt)
    have OP4 := Lib.hid (own_rd ((own_put (OP3.out) hbw 7 (.int .i64 y3))) t4 hlt)
    have rc4 := row_cells row4
    have rf4 := fun k => frozen_of_row w4 b k _ _ row4
    have H4 := Lib.hid h4
    have ROW4 := Lib.hid row4
    have BL4 := Lib.hid bl4
    clear h4 t4 row4 bl4 rc3 rf3
    go_wp2_with fail
    refine (G5.out _ _ _ H4.out).mono ?_
    rintro e w5 ⟨rfl, ⟨ad5, c5, h5⟩, t5⟩
    have row5 : w5.heap[b]? = some (.cells (pkC ({ p with level := y3 }) (s)) 28) := by rw [t5.below.block b hb]; exact ROW4.out
    have bl5 : Below b w w5 := (BL4.out).trans (t5.below.mono (Nat.le_of_lt hb))
    have OW5 := Lib.hid (own_rd (OW4.out) t5 hlt)
    have OP5 := Lib.hid (own_rd (OP4.out) t5 hlt)
    have rc5 := row_cells row5
    have rf5 := fun k => frozen_of_row w5 b k _ _ row5
    have H5 := Lib.hid h5
    have ROW5 := Lib.hid row5
    have BL5 := Lib.hid bl5
    clear h5 t5 row5 bl5 rc4 rf4
    go_wp2_with fail
    refine (G6.out _ _ _ ((H5.out).put hB hb (i := 10) (.int .i64 y5))).mono ?_
    rintro e w6 ⟨rfl, ⟨ad6, c6, h6⟩, t6⟩
    have row6 : w6.heap[b]? = some (.cells (pkC ({ p with level := y3, keep := y5 }) (s)) 28) := by rw [t6.below.block b hb]; exact (put_row (p' := { p with level := y3, keep := y5 }) (s' := s) 10 (.int .i64 y5) ROW5.out (by (try rw [← LW.out]); (try rw [← LQ.out]); rfl))
    have bl6 : Below b w w6 := (((BL5.out).setCell (p := ⟨b, 10, none⟩) (Nat.le_refl b) (.int .i64 y5))).trans (t6.below.mono (Nat.le_of_lt hb))
    have OW6 := Lib.hid (own_rd ((own_put (OW5.out) hbw 10 (.int .i64 y5))) t6 hlt)
    have OP6 := Lib.hid (own_rd ((own_put (OP5.out) hbw 10 (.int .i64 y5))) t6 hlt)
    have rc6 := row_cells row6
    have rf6 := fun k => frozen_of_row w6 b k _ _ row6
    have H6 := Lib.hid h6
    have ROW6 := Lib.hid row6
    have BL6 := Lib.hid bl6
    clear h6 t6 row6 bl6 rc5 rf5
    go_wp2_with fail
    refine (G7.out _ _ _ ((((((((((H6.out).put hB hb (i := 8) (.string x6))).put hB hb (i := 9) (.bool cl))).put hB hb (i := 11) (.bool true))).put hB hb (i := 16) (.bool false))).put hB hb (i := 17) (.bool true))).mono ?_
    rintro e w7 ⟨rfl, ⟨ad7, c7, h7⟩, t7⟩
    have row7 : w7.heap[b]? = some (.cells (pkC ({ p with level := y3, keep := y5, cli := x6, clean := cl, hw := true, hu := false, hp := true }) (s)) 28) := by rw [t7.below.block b hb]; exact (put_row (p' := { p with level := y3, keep := y5, cli := x6, clean := cl, hw := true, hu := false, hp := true }) (s' := s) 17 (.bool true) (put_row (p' := { p with level := y3, keep := y5, cli := x6, clean := cl, hw := true, hu := false }) (s' := s) 16 (.bool false) (put_row (p' := { p with level := y3, keep := y5, cli := x6, clean := cl, hw := true }) (s' := s) 11 (.bool true) (put_row (p' := { p with level := y3, keep := y5, cli := x6, clean := cl }) (s' := s) 9 (.bool cl) (put_row (p' := { p with level := y3, keep := y5, cli := x6 }) (s' := s) 8 (.string x6) ROW6.out (by (try rw [← LW.out]); (try rw [← LQ.out]); rfl)) (by (try rw [← LW.out]); (try rw [← LQ.out]); rfl)) (by (try rw [← LW.out]); (try rw [← LQ.out]); rfl)) (by (try rw [← LW.out]); (try rw [← LQ.out]); rfl)) (by (try rw [← LW.out]); (try rw [← LQ.out]); rfl))
    have bl7 : Below b w w7 := (((((((((((BL6.out).setCell (p := ⟨b, 8, none⟩) (Nat.le_refl b) (.string x6))).setCell (p := ⟨b, 9, none⟩) (Nat.le_refl b) (.bool cl))).setCell (p := ⟨b, 11, none⟩) (Nat.le_refl b) (.bool true))).setCell (p := ⟨b, 16, none⟩) (Nat.le_refl b) (.bool false))).setCell (p := ⟨b, 17, none⟩) (Nat.le_refl b) (.bool true))).trans (t7.below.mono (Nat.le_of_lt hb))
    have OW7 := Lib.hid (own_rd ((own_put ((own_put ((own_put ((own_put ((own_put (OW6.out) hbw 8 (.string x6))) hbw 9 (.bool cl))) hbw 11 (.bool true))) hbw 16 (.bool false))) hbw 17 (.bool true))) t7 hlt)
    have OP7 := Lib.hid (own_rd ((own_put ((own_put ((own_put ((own_put ((own_put (OP6.out) hbw 8 (.string x6))) hbw 9 (.bool cl))) hbw 11 (.bool true))) hbw 16 (.bool false))) hbw 17 (.bool true))) t7 hlt)
    have rc7 := row_cells row7
    have rf7 := fun k => frozen_of_row w7 b k _ _ row7
    have H7 := Lib.hid h7
    have ROW7 := Lib.hid row7
    have BL7 := Lib.hid bl7
    clear h7 t7 row7 bl7 rc6 rf6
    go_wp2_with fail
    refine (G8.out _ _ _ ((H7.out).put hB hb (i := 12) (.string x7))).mono ?_
    rintro e w8 ⟨OWA, OWC, rfl, o8, ⟨ad8, c8, h8⟩, t8⟩
    have row8 : w8.heap[b]? = some (.cells (pkC ({ p with level := y3, keep := y5, cli := x6, clean := cl, hw := true, hu := false, hp := true, wtop := x7 }) (s)) 28) := by rw [t8.below.block b hb]; exact (put_row (p' := { p with level := y3, keep := y5, cli := x6, clean := cl, hw := true, hu := false, hp := true, wtop := x7 }) (s' := s) 12 (.string x7) ROW7.out (by (try rw [← LW.out]); (try rw [← LQ.out]); rfl))
    have bl8 : Below b w w8 := (((BL7.out).setCell (p := ⟨b, 12, none⟩) (Nat.le_refl b) (.string x7))).trans (t8.below.mono (Nat.le_of_lt hb))
    have OW8 := Lib.hid (own_mono3 o8 (base' := w.heap.size) (by have := BL7.out.size; simp; omega))
    have OP8 := Lib.hid (own_rd ((own_put (OP7.out) hbw 12 (.string x7))) t8 hlt)
    have rc8 := row_cells row8
    have rf8 := fun k => frozen_of_row w8 b k _ _ row8
    have H8 := Lib.hid h8
    have ROW8 := Lib.hid row8
    have BL8 := Lib.hid bl8
    clear h8 t8 row8 bl8 o8 rc7 rf7
    go_wp2_with fail
    refine (G10.out _ _ _ ((((((H8.out).put hB hb (i := 13) (.slice OWA n8 OWC))).put hB hb (i := 14) (.int .i64 wq))).put hB hb (i := 15) (.bool wr))).mono ?_
    rintro e w9 ⟨OPA, OPC, rfl, o9, ⟨ad9, c9, h9⟩, t9⟩
    have row9 : w9.heap[b]? = some (.cells (pkC ({ p with level := y3, keep := y5, cli := x6, clean := cl, hw := true, hu := false, hp := true, wtop := x7, wpay := x8, wqos := wq, wret := wr }) ({ s with wA := OWA, wC := OWC })) 28) := by rw [t9.below.block b hb]; exact (put_row (p' := { p with level := y3, keep := y5, cli := x6, clean := cl, hw := true, hu := false, hp := true, wtop := x7, wpay := x8, wqos := wq, wret := wr }) (s' := { s with wA := OWA, wC := OWC }) 15 (.bool wr) (put_row (p' := { p with level := y3, keep := y5, cli := x6, clean := cl, hw := true, hu := false, hp := true, wtop := x7, wpay := x8, wqos := wq }) (s' := { s with wA := OWA, wC := OWC }) 14 (.int .i64 wq) (put_row (p' := { p with level := y3, keep := y5, cli := x6, clean := cl, hw := true, hu := false, hp := true, wtop := x7, wpay := x8 }) (s' := { s with wA := OWA, wC := OWC }) 13 (.slice OWA n8 OWC) ROW8.out (by (try rw [← LW.out]); (try rw [← LQ.out]); rfl)) (by (try rw [← LW.out]); (try rw [← LQ.out]); rfl)) (by (try rw [← LW.out]); (try rw [← LQ.out]); rfl))
    have bl9 : Below b w w9 := (((((((BL8.out).setCell (p := ⟨b, 13, none⟩) (Nat.le_refl b) (.slice OWA n8 OWC))).setCell (p := ⟨b, 14, none⟩) (Nat.le_refl b) (.int .i64 wq))).setCell (p := ⟨b, 15, none⟩) (Nat.le_refl b) (.bool wr))).trans (t9.below.mono (Nat.le_of_lt hb))
    have OW9 := Lib.hid (own_rd ((own_put ((own_put ((own_put (OW8.out) hbw 13 (.slice OWA n8 OWC))) hbw 14 (.int .i64 wq))) hbw 15 (.bool wr))) t9 hlt)
    have OP9 := Lib.hid (own_mono3 o9 (base' := w.heap.size) (by have := BL8.out.size; simp; omega))
    have rc9 := row_cells row9
    have rf9 := fun k => frozen_of_row w9 b k _ _ row9
    have H9 := Lib.hid h9
    have ROW9 := Lib.hid row9
    have BL9 := Lib.hid bl9
    clear h9 t9 row9 bl9 o9 rc8 rf8
    go_wp2_with fail
    go_end0
    unfold ConPost
    rw [HQ.out]
    refine ⟨rfl, ((BL9.out).setCell (p := ⟨b, 19, none⟩) (Nat.le_refl b) (.slice OPA n10 OPC)), { s with wA := OWA, wC := OWC, uA := OPA, uC := OPC }, (put_row (p' := { p with level := y3, keep := y5, cli := x6, clean := cl, hw := true, hu := false, hp := true, wtop := x7, wpay := x8, wqos := wq, wret := wr, pass := x10 }) (s' := { s with wA := OWA, wC := OWC, uA := OPA, uC := OPC }) 19 (.slice OPA n10 OPC) ROW9.out (by (try rw [← LW.out]); (try rw [← LQ.out]); rfl)), ⟨rfl, rfl, rfl, rfl, rfl, rfl⟩, ?_, ?_⟩
    · have q := (own_put (OW9.out) hbw 19 (.slice OPA n10 OPC))
      exact own_len LW.out q
    · have q := (own_put (OP9.out) hbw 19 (.slice OPA n10 OPC))
      exact own_len LQ.out q
  · skip
    have f4 := c4.symm.trans e4
    have f128 := c128.symm.trans e128
    have f64 := c64.symm.trans e64
    obtain ⟨x7, hx7⟩ : ∃ x7, x7 = bytesOfL (gotL R6) := ⟨_, rfl⟩
    obtain ⟨R7, hR7⟩ : ∃ R7, R7 = leftL R6 := ⟨_, rfl⟩
    obtain ⟨x8, hx8⟩ : ∃ x8, x8 = gotL R7 := ⟨_, rfl⟩
    obtain ⟨n8, hn8⟩ : ∃ n8, x8.length = n8 := ⟨_, rfl⟩
    obtain ⟨R8, hR8⟩ : ∃ R8, R8 = leftL R7 := ⟨_, rfl⟩
    have G7 := Lib.hid (fun W a1 d1 => TX W a1 d1 R6 x7 R7 hx7 hR7)
    have G8 := Lib.hid (fun W a1 d1 => LP W a1 d1 R7 x8 n8 R8 hx8 hn8 hR8)
    have LW := Lib.hid hn8
    obtain ⟨x9, hx9⟩ : ∃ x9, x9 = bytesOfL (gotL R8) := ⟨_, rfl⟩
    obtain ⟨R9, hR9⟩ : ∃ R9, R9 = leftL R8 := ⟨_, rfl⟩
    have G9 := Lib.hid (fun W a1 d1 => TX W a1 d1 R8 x9 R9 hx9 hR9)
    have LQ : Hid True := Lib.hid trivial
    have HQ : Hid (conP p l = { p with level := y3, keep := y5, cli := x6, clean := cl, hw := true, hu := true, hp := false, wtop := x7, wpay := x8, wqos := wq, wret := wr, user := x9 }) := Lib.hid (by
      obtain ⟨hR2, hR3, hy3, hR4, hf, hR5, hy5, hR6, hx6⟩ := EQ.out
      obtain ⟨hcl, hwr, hwq⟩ := CL.out
      unfold conP
      simp only [← hR2, ← hR3, ← hy3, ← hR4, ← hf, ← hR5, ← hy5, ← hR6, ← hx6, hcl, hwr, hwq, f4, f128, f64, if_true, Bool.false_eq_true, if_false, ← hx7, ← hR7, ← hx8, ← hR8, ← hx9, ← hR9])
    clear EQ CL TX LP c4 c128 c64 f4 f128 f64 hx7 hR7 hx8 hn8 hR8 hx9 hR9
    go_enter Try.func85, Try.ntmps85
    go_wp2_with fail
    refine (G1.out _ _ _ h0.out).mono ?_
    rintro e w1 ⟨rfl, ⟨ad1, c1, h1⟩, t1⟩
    have row1 : w1.heap[b]? = some (.cells (pkC (p) (s)) 28) := by rw [t1.below.block b hb]; exact ROW0.out
    have bl1 : Below b w w1 := ((Below.refl b w)).trans (t1.below.mono (Nat.le_of_lt hb))
    have OW1 := Lib.hid (own_rd (OW0.out) t1 hlt)
    have OP1 := Lib.hid (own_rd (OP0.out) t1 hlt)
    have rc1 := row_cells row1
    have rf1 := fun k => frozen_of_row w1 b k _ _ row1
    have H1 := Lib.hid h1
    have ROW1 := Lib.hid row1
    have BL1 := Lib.hid bl1
    clear h1 t1 row1 bl1
    go_wp2_with fail
    refine (G2.out _ _ _ H1.out).mono ?_
    rintro e w2 ⟨rfl, ⟨ad2, c2, h2⟩, _, t2⟩
    have row2 : w2.heap[b]? = some (.cells (pkC (p) (s)) 28) := by rw [t2.below.block b hb]; exact ROW1.out
    have bl2 : Below b w w2 := (BL1.out).trans (t2.below.mono (Nat.le_of_lt hb))
    have OW2 := Lib.hid (own_rd (OW1.out) t2 hlt)
    have OP2 := Lib.hid (own_rd (OP1.out) t2 hlt)
    have rc2 := row_cells row2
    have rf2 := fun k => frozen_of_row w2 b k _ _ row2
    have H2 := Lib.hid h2
    have ROW2 := Lib.hid row2
    have BL2 := Lib.hid bl2
    clear h2 t2 row2 bl2 rc1 rf1
    go_wp2_with fail
    refine (G3.out _ _ _ H2.out).mono ?_
    rintro e w3 ⟨rfl, ⟨ad3, c3, h3⟩, t3⟩
    have row3 : w3.heap[b]? = some (.cells (pkC (p) (s)) 28) := by rw [t3.below.block b hb]; exact ROW2.out
    have bl3 : Below b w w3 := (BL2.out).trans (t3.below.mono (Nat.le_of_lt hb))
    have OW3 := Lib.hid (own_rd (OW2.out) t3 hlt)
    have OP3 := Lib.hid (own_rd (OP2.out) t3 hlt)
    have rc3 := row_cells row3
    have rf3 := fun k => frozen_of_row w3 b k _ _ row3
    have H3 := Lib.hid h3
    have ROW3 := Lib.hid row3
    have BL3 := Lib.hid bl3
    clear h3 t3 row3 bl3 rc2 rf2
    go_wp2_with fail
    refine (G4.out _ _ _ ((H3.out).put hB hb (i := 7) (.int .i64 y3))).mono ?_
    rintro e w4 ⟨rfl, ⟨ad4, c4, h4⟩, t4⟩
    have row4 : w4.heap[b]? = some (.cells (pkC ({ p with level := y3 }) (s)) 28) := by rw [t4.below.block b hb]; exact (put_row (p' := { p with level := y3 }) (s' := s) 7 (.int .i64 y3) ROW3.out (by (try rw [← LW.out]); (try rw [← LQ.out]); rfl))
    have bl4 : Below b w w4 := (((BL3.out).setCell (p := ⟨b, 7, none⟩) (Nat.le_refl b) (.int .i64 y3))).trans (t4.below.mono (Nat.le_of_lt hb))
    have OW4 := Lib.hid (own_rd ((own_put (OW3.out) hbw 7 (.int .i64 y3))) t4 hlt)
    have OP4 := Lib.hid (own_rd ((own_put (OP3.out) hbw 7 (.int .i64 y3))) t4 hlt)
    have rc4 := row_cells row4
    have rf4 := fun k => frozen_of_row w4 b k _ _ row4
    have H4 := Lib.hid h4
    have ROW4 := Lib.hid row4
    have BL4 := Lib.hid bl4
    clear h4 t4 row4 bl4 rc3 rf3
    go_wp2_with fail
    refine (G5.out _ _ _ H4.out).mono ?_
    rintro e w5 ⟨rfl, ⟨ad5, c5, h5⟩, t5⟩
    have row5 : w5.heap[b]? = some (.cells (pkC ({ p with level := y3 }) (s)) 28) := by rw [t5.below.block b hb]; exact ROW4.out
    have bl5 : Below b w w5 := (BL4.out).trans (t5.below.mono (Nat.le_of_lt hb))
    have OW5 := Lib.hid (own_rd (OW4.out) t5 hlt)
    have OP5 := Lib.hid (own_rd (OP4.out) t5 hlt)
    have rc5 := row_cells row5
    have rf5 := fun k => frozen_of_row w5 b k _ _ row5
    have H5 := Lib.hid h5
    have ROW5 := Lib.hid row5
    have BL5 := Lib.hid bl5
    clear h5 t5 row5 bl5 rc4 rf4
    go_wp2_with fail
    refine (G6.out _ _ _ ((H5.out).put hB hb (i := 10) (.int .i64 y5))).mono ?_
    rintro e w6 ⟨rfl, ⟨ad6, c6, h6⟩, t6⟩
    have row6 : w6.heap[b]? = some (.cells (pkC ({ p with level := y3, keep := y5 }) (s)) 28) := by rw [t6.below.block b hb]; exact (put_row (p' := { p with level := y3, keep := y5 }) (s' := s) 10 (.int .i64 y5) ROW5.out (by (try rw [← LW.out]); (try rw [← LQ.out]); rfl))
    have bl6 : Below b w w6 := (((BL5.out).setCell (p := ⟨b, 10, none⟩) (Nat.le_refl b) (.int .i64 y5))).trans (t6.below.mono (Nat.le_of_lt hb))
    have OW6 := Lib.hid (own_rd ((own_put (OW5.out) hbw 10 (.int .i64 y5))) t6 hlt)
    have OP6 := Lib.hid (own_rd ((own_put (OP5.out) hbw 10 (.int .i64 y5))) t6 hlt)
    have rc6 := row_cells row6
    have rf6 := fun k => frozen_of_row w6 b k _ _ row6
    have H6 := Lib.hid h6
    have ROW6 := Lib.hid row6
    have BL6 := Lib.hid bl6
    clear h6 t6 row6 bl6 rc5 rf5
    go_wp2_with fail
    refine (G7.out _ _ _ ((((((((((H6.out).put hB hb (i := 8) (.string x6))).put hB hb (i := 9) (.bool cl))).put hB hb (i := 11) (.bool true))).put hB hb (i := 16) (.bool true))).put hB hb (i := 17) (.bool false))).mono ?_
    rintro e w7 ⟨rfl, ⟨ad7, c7, h7⟩, t7⟩
    have row7 : w7.heap[b]? = some (.cells (pkC ({ p with level := y3, keep := y5, cli := x6, clean := cl, hw := true, hu := true, hp := false }) (s)) 28) := by rw [t7.below.block b hb]; exact (put_row (p' := { p with level := y3, keep := y5, cli := x6, clean := cl, hw := true, hu := true, hp := false }) (s' := s) 17 (.bool false) (put_row (p' := { p with level := y3, keep := y5, cli := x6, clean := cl, hw := true, hu := true }) (s' := s) 16 (.bool true) (put_row (p' := { p with level := y3, keep := y5, cli := x6, clean := cl, hw := true }) (s' := s) 11 (.bool true) (put_row (p' := { p with level := y3, keep := y5, cli := x6, clean := cl }) (s' := s) 9 (.bool cl) (put_row (p' := { p with level := y3, keep := y5, cli := x6 }) (s' := s) 8 (.string x6) ROW6.out (by (try rw [← LW.out]); (try rw [← LQ.out]); rfl)) (by (try rw [← LW.out]); (try rw [← LQ.out]); rfl)) (by (try rw [← LW.out]); (try rw [← LQ.out]); rfl)) (by (try rw [← LW.out]); (try rw [← LQ.out]); rfl)) (by (try rw [← LW.out]); (try rw [← LQ.out]); rfl))
    have bl7 : Below b w w7 := (((((((((((BL6.out).setCell (p := ⟨b, 8, none⟩) (Nat.le_refl b) (.string x6))).setCell (p := ⟨b, 9, none⟩) (Nat.le_refl b) (.bool cl))).setCell (p := ⟨b, 11, none⟩) (Nat.le_refl b) (.bool true))).setCell (p := ⟨b, 16, none⟩) (Nat.le_refl b) (.bool true))).setCell (p := ⟨b, 17, none⟩) (Nat.le_refl b) (.bool false))).trans (t7.below.mono (Nat.le_of_lt hb))
    have OW7 := Lib.hid (own_rd ((own_put ((own_put ((own_put ((own_put ((own_put (OW6.out) hbw 8 (.string x6))) hbw 9 (.bool cl))) hbw 11 (.bool true))) hbw 16 (.bool true))) hbw 17 (.bool false))) t7 hlt)
    have OP7 := Lib.hid (own_rd ((own_put ((own_put ((own_put ((own_put ((own_put (OP6.out) hbw 8 (.string x6))) hbw 9 (.bool cl))) hbw 11 (.bool true))) hbw 16 (.bool true))) hbw 17 (.bool false))) t7 hlt)
    have rc7 := row_cells row7
    have rf7 := fun k => frozen_of_row w7 b k _ _ row7
    have H7 := Lib.hid h7
    have ROW7 := Lib.hid row7
    have BL7 := Lib.hid bl7
    clear h7 t7 row7 bl7 rc6 rf6
    go_wp2_with fail
    refine (G8.out _ _ _ ((H7.out).put hB hb (i := 12) (.string x7))).mono ?_
    rintro e w8 ⟨OWA, OWC, rfl, o8, ⟨ad8, c8, h8⟩, t8⟩
    have row8 : w8.heap[b]? = some (.cells (pkC ({ p with level := y3, keep := y5, cli := x6, clean := cl, hw := true, hu := true, hp := false, wtop := x7 }) (s)) 28) := by rw [t8.below.block b hb]; exact (put_row (p' := { p with level := y3, keep := y5, cli := x6, clean := cl, hw := true, hu := true, hp := false, wtop := x7 }) (s' := s) 12 (.string x7) ROW7.out (by (try rw [← LW.out]); (try rw [← LQ.out]); rfl))
    have bl8 : Below b w w8 := (((BL7.out).setCell (p := ⟨b, 12, none⟩) (Nat.le_refl b) (.string x7))).trans (t8.below.mono (Nat.le_of_lt hb))
    have OW8 := Lib.hid (own_mono3 o8 (base' := w.heap.size) (by have := BL7.out.size; simp; omega))
    have OP8 := Lib.hid (own_rd ((own_put (OP7.out) hbw 12 (.string x7))) t8 hlt)
    have rc8 := row_cells row8
    have rf8 := fun k => frozen_of_row w8 b k _ _ row8
    have H8 := Lib.hid h8
    have ROW8 := Lib.hid row8
    have BL8 := Lib.hid bl8
    clear h8 t8 row8 bl8 o8 rc7 rf7
    go_wp2_with fail
    refine (G9.out _ _ _ ((((((H8.out).put hB hb (i := 13) (.slice OWA n8 OWC))).put hB hb (i := 14) (.int .i64 wq))).put hB hb (i := 15) (.bool wr))).mono ?_
    rintro e w9 ⟨rfl, ⟨ad9, c9, h9⟩, t9⟩
    have row9 : w9.heap[b]? = some (.cells (pkC ({ p with level := y3, keep := y5, cli := x6, clean := cl, hw := true, hu := true, hp := false, wtop := x7, wpay := x8, wqos := wq, wret := wr }) ({ s with wA := OWA, wC := OWC })) 28) := by rw [t9.below.block b hb]; exact (put_row (p' := { p with level := y3, keep := y5, cli := x6, clean := cl, hw := true, hu := true, hp := false, wtop := x7, wpay := x8, wqos := wq, wret := wr }) (s' := { s with wA := OWA, wC := OWC }) 15 (.bool wr) (put_row (p' := { p with level := y3, keep := y5, cli := x6, clean := cl, hw := true, hu := true, hp := false, wtop := x7, wpay := x8, wqos := wq }) (s' := { s with wA := OWA, wC := OWC }) 14 (.int .i64 wq) (put_row (p' := { p with level := y3, keep := y5, cli := x6, clean := cl, hw := true, hu := true, hp := false, wtop := x7, wpay := x8 }) (s' := { s with wA := OWA, wC := OWC }) 13 (.slice OWA n8 OWC) ROW8.out (by (try rw [← LW.out]); (try rw [← LQ.out]); rfl)) (by (try rw [← LW.out]); (try rw [← LQ.out]); rfl)) (by (try rw [← LW.out]); (try rw [← LQ.out]); rfl))
    have bl9 : Below b w w9 := (((((((BL8.out).setCell (p := ⟨b, 13, none⟩) (Nat.le_refl b) (.slice OWA n8 OWC))).setCell (p := ⟨b, 14, none⟩) (Nat.le_refl b) (.int .i64 wq))).setCell (p := ⟨b, 15, none⟩) (Nat.le_refl b) (.bool wr))).trans (t9.below.mono (Nat.le_of_lt hb))
    have OW9 := Lib.hid (own_rd ((own_put ((own_put ((own_put (OW8.out) hbw 13 (.slice OWA n8 OWC))) hbw 14 (.int .i64 wq))) hbw 15 (.bool wr))) t9 hlt)
    have OP9 := Lib.hid (own_rd ((own_put ((own_put ((own_put (OP8.out) hbw 13 (.slice OWA n8 OWC))) hbw 14 (.int .i64 wq))) hbw 15 (.bool wr))) t9 hlt)
    have rc9 := row_cells row9
    have rf9 := fun k => frozen_of_row w9 b k _ _ row9
    have H9 := Lib.hid h9
    have ROW9 := Lib.hid row9
    have BL9 := Lib.hid bl9
    clear h9 t9 row9 bl9 rc8 rf8
    go_wp2_with fail
    go_end0
    unfold ConPost
    rw [HQ.out]
    refine ⟨rfl, ((BL9.out).setCell (p := ⟨b, 18, none⟩) (Nat.le_refl b) (.string x9)), { s with wA := OWA, wC := OWC }, (put_row (p' := { p with level := y3, keep := y5, cli := x6, clean := cl, hw := true, hu := true, hp := false, wtop := x7, wpay := x8, wqos := wq, wret := wr, user := x9 }) (s' := { s with wA := OWA, wC := OWC }) 18 (.string x9) ROW9.out (by (try rw [← LW.out]); (try rw [← LQ.out]); rfl)), ⟨rfl, rfl, rfl, rfl, rfl, rfl⟩, ?_, ?_⟩
    · have q := (own_put (OW9.out) hbw 18 (.string x9))
      exact own_len LW.out q
    · have q := (own_put (OP9.out) hbw 18 (.string x9))
      exact q
  · skip
    have f4 := c4.symm.trans e4
    have f128 := c128.symm.trans e128
    have f64 := c64.symm.trans e64
    obtain ⟨x7, hx7⟩ : ∃ x7, x7 = bytesOfL (gotL R6) := ⟨_, rfl⟩
    obtain ⟨R7, hR7⟩ : ∃ R7, R7 = leftL R6 := ⟨_, rfl⟩
    obtain ⟨x8, hx8⟩ : ∃ x8, x8 = gotL R7 := ⟨_, rfl⟩
    obtain ⟨n8, hn8⟩ : ∃ n8, x8.length = n8 := ⟨_, rfl⟩
    obtain ⟨R8, hR8⟩ : ∃ R8, R8 = leftL R7 := ⟨_, rfl⟩
    have G7 := Lib.hid (fun W a1 d1 => TX W a1 d1 R6 x7 R7 hx7 hR7)
    have G8 := Lib.hid (fun W a1 d1 => LP W a1 d1 R7 x8 n8 R8 hx8 hn8 hR8)
    have LW := Lib.hid hn8
    obtain ⟨x9, hx9⟩ : ∃ x9, x9 = bytesOfL (gotL R8) := ⟨_, rfl⟩
    obtain ⟨R9, hR9⟩ : ∃ R9, R9 = leftL R8 := ⟨_, rfl⟩
    have G9 := Lib.hid (fun W a1 d1 => TX W a1 d1 R8 x9 R9 hx9 hR9)
    obtain ⟨x10, hx10⟩ : ∃ x10, x10 = gotL R9 := ⟨_, rfl⟩
    obtain ⟨n10, hn10⟩ : ∃ n10, x10.length = n10 := ⟨_, rfl⟩
    obtain ⟨R10, hR10⟩ : ∃ R10, R10 = leftL R9 := ⟨_, rfl⟩
    have G10 := Lib.hid (fun W a1 d1 => LP W a1 d1 R9 x10 n10 R10 hx10 hn10 hR10)
    have LQ := Lib.hid hn10
    have HQ : Hid (conP p l = { p with level := y3, keep := y5, cli := x6, clean := cl, hw := true, hu := true, hp := true, wtop := x7, wpay := x8, wqos := wq, wret := wr, user := x9, pass := x10 }) := Lib.hid (by
      obtain ⟨hR2, hR3, hy3, hR4, hf, hR5, hy5, hR6, hx6⟩ := EQ.out
      obtain ⟨hcl, hwr, hwq⟩ := CL.out
      unfold conP
      simp only [← hR2, ← hR3, ← hy3, ← hR4, ← hf, ← hR5, ← hy5, ← hR6, ← hx6, hcl, hwr, hwq, f4, f128, f64, if_true, ← hx7, ← hR7, ← hx8, ← hR8, ← hx9, ← hR9, ← hx10])
    clear EQ CL TX LP c4 c128 c64 f4 f128 f64 hx7 hR7 hx8 hn8 hR8 hx9 hR9 hx10 hn10 hR10
    go_enter Try.func85, Try.ntmps85
    go_wp2_with fail
    refine (G1.out _ _ _ h0.out).mono ?_
    rintro e w1 ⟨rfl, ⟨ad1, c1, h1⟩, t1⟩
    have row1 : w1.heap[b]? = some (.cells (pkC (p) (s)) 28) := by rw [t1.below.block b hb]; exact ROW0.out
    have bl1 : Below b w w1 := ((Below.refl b w)).trans (t1.below.mono (Nat.le_of_lt hb))
    have OW1 := Lib.hid (own_rd (OW0.out) t1 hlt)
    have OP1 := Lib.hid (own_rd (OP0.out) t1 hlt)
    have rc1 := row_cells row1
    have rf1 := fun k => frozen_of_row w1 b k _ _ row1
    have H1 := Lib.hid h1
    have ROW1 := Lib.hid row1
    have BL1 := Lib.hid bl1
    clear h1 t1 row1 bl1
    go_wp2_with fail
    refine (G2.out _ _ _ H1.out).mono ?_
    rintro e w2 ⟨rfl, ⟨ad2, c2, h2⟩, _, t2⟩
    have row2 : w2.heap[b]? = some (.cells (pkC (p) (s)) 28) := by rw [t2.below.block b hb]; exact ROW1.out
    have bl2 : Below b w w2 := (BL1.out).trans (t2.below.mono (Nat.le_of_lt hb))
    have OW2 := Lib.hid (own_rd (OW1.out) t2 hlt)
    have OP2 := Lib.hid (own_rd (OP1.out) t2 hlt)
    have rc2 := row_cells row2
    have rf2 := fun k => frozen_of_row w2 b k _ _ row2
    have H2 := Lib.hid h2
    have ROW2 := Lib.hid row2
    have BL2 := Lib.hid bl2
    clear h2 t2 row2 bl2 rc1 rf1
    go_wp2_with fail
    refine (G3.out _ _ _ H2.out).mono ?_
    rintro e w3 ⟨rfl, ⟨ad3, c3, h3⟩, t3⟩
    have row3 : w3.heap[b]? = some (.cells (pkC (p) (s)) 28) := by rw [t3.below.block b hb]; exact ROW2.out
    have bl3 : Below b w w3 := (BL2.out).trans (t3.below.mono (Nat.le_of_lt hb))
    have OW3 := Lib.hid (own_rd (OW2.out) t3 hlt)
    have OP3 := Lib.hid (own_rd (OP2.out) t3 hlt)
    have rc3 := row_cells row3
    have rf3 := fun k => frozen_of_row w3 b k _ _ row3
    have H3 := Lib.hid h3
    have ROW3 := Lib.hid row3
    have BL3 := Lib.hid bl3
    clear h3 t3 row3 bl3 rc2 rf2
    go_wp2_with fail
    refine (G4.out _ _ _ ((H3.out).put hB hb (i := 7) (.int .i64 y3))).mono ?_
    rintro e w4 ⟨rfl, ⟨ad4, c4, h4⟩, t4⟩
    have row4 : w4.heap[b]? = some (.cells (pkC ({ p with level := y3 }) (s)) 28) := by rw [t4.below.block b hb]; exact (put_row (p' := { p with level := y3 }) (s' := s) 7 (.int .i64 y3) ROW3.out (by (try rw [← LW.out]); (try rw [← LQ.out]); rfl))
    have bl4 : Below b w w4 := (((BL3.out).setCell (p := ⟨b, 7, none⟩) (Nat.le_refl b) (.int .i64 y3))).trans (t4.below.mono (Nat.le_of_lt hb))
    have OW4 := Lib.hid (own_rd ((own_put (OW3.out) hbw 7 (.int .i64 y3))) t4 hlt)
    have OP4 := Lib.hid (own_rd ((own_put (OP3.out) hbw 7 (.int .i64 y3))) t4 hlt)
    have rc4 := row_cells row4
    have rf4 := fun k => frozen_of_row w4 b k _ _ row4
    have H4 := Lib.hid h4
    have ROW4 := Lib.hid row4
    have BL4 := Lib.hid bl4
    clear h4 t4 row4 bl4 rc3 rf3
    go_wp2_with fail
    refine (G5.out _ _ _ H4.out).mono ?_
    rintro e w5 ⟨rfl, ⟨ad5, c5, h5⟩, t5⟩
    have row5 : w5.heap[b]? = some (.cells (pkC ({ p with level := y3 }) (s)) 28) := by rw [t5.below.block b hb]; exact ROW4.out
    have bl5 : Below b w w5 := (BL4.out).trans (t5.below.mono (Nat.le_of_lt hb))
    have OW5 := Lib.hid (own_rd (OW4.out) t5 hlt)
    have OP5 := Lib.hid (own_rd (OP4.out) t5 hlt)
    have rc5 := row_cells row5
    have rf5 := fun k => frozen_of_row w5 b k _ _ row5
    have H5 := Lib.hid h5
    have ROW5 := Lib.hid row5
    have BL5 := Lib.hid bl5
    clear h5 t5 row5 bl5 rc4 rf4
    go_wp2_with fail
    refine (G6.out _ _ _ ((H5.out).put hB hb (i := 10) (.int .i64 y5))).mono ?_
    rintro e w6 ⟨rfl, ⟨ad6, c6, h6⟩, t6⟩
    have row6 : w6.heap[b]? = some (.cells (pkC ({ p with level := y3, keep := y5 }) (s)) 28) := by rw [t6.below.block b hb]; exact (put_row (p' := { p with level := y3, keep := y5 }) (s' := s) 10 (.int .i64 y5) ROW5.out (by (try rw [← LW.out]); (try rw [← LQ.out]); rfl))
    have bl6 : Below b w w6 := (((BL5.out).setCell (p := ⟨b, 10, none⟩) (Nat.le_refl b) (.int .i64 y5))).trans (t6.below.mono (Nat.le_of_lt hb))
    have OW6 := Lib.hid (own_rd ((own_put (OW5.out) hbw 10 (.int .i64 y5))) t6 hlt)
    have OP6 := Lib.hid (own_rd ((own_put (OP5.out) hbw 10 (.int .i64 y5))) t6 hlt)
    have rc6 := row_cells row6
    have rf6 := fun k => frozen_of_row w6 b k _ _ row6
    have H6 := Lib.hid h6
    have ROW6 := Lib.hid row6
    have BL6 := Lib.hid bl6
    clear h6 t6 row6 bl6 rc5 rf5
    go_wp2_with fail
    refine (G7.out _ _ _ ((((((((((H6.out).put hB hb (i := 8) (.string x6))).put hB hb (i := 9) (.bool cl))).put hB hb (i := 11) (.bool true))).put hB hb (i := 16) (.bool true))).put hB hb (i := 17) (.bool true))).mono ?_
    rintro e w7 ⟨rfl, ⟨ad7, c7, h7⟩, t7⟩
    have row7 : w7.heap[b]? = some (.cells (pkC ({ p with level := y3, keep := y5, cli := x6, clean := cl, hw := true, hu := true, hp := true }) (s)) 28) := by rw [t7.below.block b hb]; exact (put_row (p' := { p with level := y3, keep := y5, cli := x6, clean := cl, hw := true, hu := true, hp := true }) (s' := s) 17 (.bool true) (put_row (p' := { p with level := y3, keep := y5, cli := x6, clean := cl, hw := true, hu := true }) (s' := s) 16 (.bool true) (put_row (p' := { p with level := y3, keep := y5, cli := x6, clean := cl, hw := true }) (s' := s) 11 (.bool true) (put_row (p' := { p with level := y3, keep := y5, cli := x6, clean := cl }) (s' := s) 9 (.bool cl) (put_row (p' := { p with level := y3, keep := y5, cli := x6 }) (s' := s) 8 (.string x6) ROW6.out (by (try rw [← LW.out]); (try rw [← LQ.out]); rfl)) (by (try rw [← LW.out]); (try rw [← LQ.out]); rfl)) (by (try rw [← LW.out]); (try rw [← LQ.out]); rfl)) (by (try rw [← LW.out]); (try rw [← LQ.out]); rfl)) (by (try rw [← LW.out]); (try rw [← LQ.out]); rfl))
    have bl7 : Below b w w7 := (((((((((((BL6.out).setCell (p := ⟨b, 8, none⟩) (Nat.le_refl b) (.string x6))).setCell (p := ⟨b, 9, none⟩) (Nat.le_refl b) (.bool cl))).setCell (p := ⟨b, 11, none⟩) (Nat.le_refl b) (.bool true))).setCell (p := ⟨b, 16, none⟩) (Nat.le_refl b) (.bool true))).setCell (p := ⟨b, 17, none⟩) (Nat.le_refl b) (.bool true))).trans (t7.below.mono (Nat.le_of_lt hb))
    have OW7 := Lib.hid (own_rd ((own_put ((own_put ((own_put ((own_put ((own_put (OW6.out) hbw 8 (.string x6))) hbw 9 (.bool cl))) hbw 11 (.bool true))) hbw 16 (.bool true))) hbw 17 (.bool true))) t7 hlt)
    have OP7 := Lib.hid (own_rd ((own_put ((own_put ((own_put ((own_put ((own_put (OP6.out) hbw 8 (.string x6))) hbw 9 (.bool cl))) hbw 11 (.bool true))) hbw 16 (.bool true))) hbw 17 (.bool true))) t7 hlt)
    have rc7 := row_cells row7
    have rf7 := fun k => frozen_of_row w7 b k _ _ row7
    have H7 := Lib.hid h7
    have ROW7 := Lib.hid row7
    have BL7 := Lib.hid bl7
    clear h7 t7 row7 bl7 rc6 rf6
    go_wp2_with fail
    refine (G8.out _ _ _ ((H7.out).put hB hb (i := 12) (.string x7))).mono ?_
    rintro e w8 ⟨OWA, OWC, rfl, o8, ⟨ad8, c8, h8⟩, t8⟩
    have row8 : w8.heap[b]? = some (.cells (pkC ({ p with level := y3, keep := y5, cli := x6, clean := cl, hw := true, hu := true, hp := true, wtop := x7 }) (s)) 28) := by rw [t8.below.block b hb]; exact (put_row (p' := { p with level := y3, keep := y5, cli := x6, clean := cl, hw := true, hu := true, hp := true, wtop := x7 }) (s' := s) 12 (.string x7) ROW7.out (by (try rw [← LW.out]); (try rw [← LQ.out]); rfl))
    have bl8 : Below b w w8 := (((BL7.out).setCell (p := ⟨b, 12, none⟩) (Nat.le_refl b) (.string x7))).trans (t8.below.mono (Nat.le_of_lt hb))
    have OW8 := Lib.hid (own_mono3 o8 (base' := w.heap.size) (by have := BL7.out.size; simp; omega))
    have OP8 := Lib.hid (own_rd ((own_put (OP7.out) hbw 12 (.string x7))) t8 hlt)
    have rc8 := row_cells row8
    have rf8 := fun k => frozen_of_row w8 b k _ _ row8
    have H8 := Lib.hid h8
    have ROW8 := Lib.hid row8
    have BL8 := Lib.hid bl8
    clear h8 t8 row8 bl8 o8 rc7 rf7
    go_wp2_with fail
    refine (G9.out _ _ _ ((((((H8.out).put hB hb (i := 13) (.slice OWA n8 OWC))).put hB hb (i := 14) (.int .i64 wq))).put hB hb (i := 15) (.bool wr))).mono ?_
    rintro e w9 ⟨rfl, ⟨ad9, c9, h9⟩, t9⟩
    have row9 : w9.heap[b]? = some (.cells (pkC ({ p with level := y3, keep := y5, cli := x6, clean := cl, hw := true, hu := true, hp := true, wtop := x7, wpay := x8, wqos := wq, wret := wr }) ({ s with wA := OWA, wC := OWC })) 28) := by rw [t9.below.block b hb]; exact (put_row (p' := { p with level := y3, keep := y5, cli := x6, clean := cl, hw := true, hu := true, hp := true, wtop := x7, wpay := x8, wqos := wq, wret := wr }) (s' := { s with wA := OWA, wC := OWC }) 15 (.bool wr) (put_row (p' := { p with level := y3, keep := y5, cli := x6, clean := cl, hw := true, hu := true, hp := true, wtop := x7, wpay := x8, wqos := wq }) (s' := { s with wA := OWA, wC := OWC }) 14 (.int .i64 wq) (put_row (p' := { p with level := y3, keep := y5, cli := x6, clean := cl, hw := true, hu := true, hp := true, wtop := x7, wpay := x8 }) (s' := { s with wA := OWA, wC := OWC }) 13 (.slice OWA n8 OWC) ROW8.out (by (try rw [← LW.out]); (try rw [← LQ.out]); rfl)) (by (try rw [← LW.out]); (try rw [← LQ.out]); rfl)) (by (try rw [← LW.out]); (try rw [← LQ.out]); rfl))
    have bl9 : Below b w w9 := (((((((BL8.out).setCell (p := ⟨b, 13, none⟩) (Nat.le_refl b) (.slice OWA n8 OWC))).setCell (p := ⟨b, 14, none⟩) (Nat.le_refl b) (.int .i64 wq))).setCell (p := ⟨b, 15, none⟩) (Nat.le_refl b) (.bool wr))).trans (t9.below.mono (Nat.le_of_lt hb))
    have OW9 := Lib.hid (own_rd ((own_put ((own_put ((own_put (OW8.out) hbw 13 (.slice OWA n8 OWC))) hbw 14 (.int .i64 wq))) hbw 15 (.bool wr))) t9 hlt)
    have OP9 := Lib.hid (own_rd ((own_put ((own_put ((own_put (OP8.out) hbw 13 (.slice OWA n8 OWC))) hbw 14 (.int .i64 wq))) hbw 15 (.bool wr))) t9 hlt)
    have rc9 := row_cells row9
    have rf9 := fun k => frozen_of_row w9 b k _ _ row9
    have H9 := Lib.hid h9
    have ROW9 := Lib.hid row9
    have BL9 := Lib.hid bl9
    clear h9 t9 row9 bl9 rc8 rf8
    go_wp2_with fail
    refine (G10.out _ _ _ ((H9.out).put hB hb (i := 18) (.string x9))).mono ?_
    rintro e w10 ⟨OPA, OPC, rfl, o10, ⟨ad10, c10, h10⟩, t10⟩
    have row10 : w10.heap[b]? = some (.cells (pkC ({ p with level := y3, keep := y5, cli := x6, clean := cl, hw := true, hu := true, hp := true, wtop := x7, wpay := x8, wqos := wq, wret := wr, user := x9 }) ({ s with wA := OWA, wC := OWC })) 28) := by rw [t10.below.block b hb]; exact (put_row (p' := { p with level := y3, keep := y5, cli := x6, clean := cl, hw := true, hu := true, hp := true, wtop := x7, wpay := x8, wqos := wq, wret := wr, user := x9 }) (s' := { s with wA := OWA, wC := OWC }) 18 (.string x9) ROW9.out (by (try rw [← LW.out]); (try rw [← LQ.out]); rfl))
    have bl10 : Below b w w10 := (((BL9.out).setCell (p := ⟨b, 18, none⟩) (Nat.le_refl b) (.string x9))).trans (t10.below.mono (Nat.le_of_lt hb))
    have OW10 := Lib.hid (own_rd ((own_put (OW9.out) hbw 18 (.string x9))) t10 hlt)
    have OP10 := Lib.hid (own_mono3 o10 (base' := w.heap.size) (by have := BL9.out.size; simp; omega))
    have rc10 := row_cells row10
    have rf10 := fun k => frozen_of_row w10 b k _ _ row10
    have H10 := Lib.hid h10
    have ROW10 := Lib.hid row10
    have BL10 := Lib.hid bl10
    clear h10 t10 row10 bl10 o10 rc9 rf9
    go_wp2_with fail
    go_end0
    unfold ConPost
    rw [HQ.out]
    refine ⟨rfl, ((BL10.out).setCell (p := ⟨b, 19, none⟩) (Nat.le_refl b) (.slice OPA n10 OPC)), { s with wA := OWA, wC := OWC, uA := OPA, uC := OPC }, (put_row (p' := { p with level := y3, keep := y5, cli := x6, clean := cl, hw := true, hu := true, hp := true, wtop := x7, wpay := x8, wqos := wq, wret := wr, user := x9, pass := x10 }) (s' := { s with wA := OWA, wC := OWC, uA := OPA, uC := OPC }) 19 (.slice OPA n10 OPC) ROW10.out (by (try rw [← LW.out]); (try rw [← LQ.out]); rfl)), ⟨rfl, rfl, rfl, rfl, rfl, rfl⟩, ?_, ?_⟩
    · have q := (own_put (OW10.out) hbw 19 (.slice OPA n10 OPC))
      exact own_len LW.out q
    · have q := (own_put (OP10.out) hbw 19 (.slice OPA n10 OPC))
      exact own_len LQ.out q
end Go.Proofs.Ytkeocnobninaaaa
