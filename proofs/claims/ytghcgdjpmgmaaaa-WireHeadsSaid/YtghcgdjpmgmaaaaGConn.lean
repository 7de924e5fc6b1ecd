/- Reading a body: a greeting's. -/
import Derived.Test.YtghcgdjpmgmaaaaGPub
import Derived.Test.YtghcgdjpmgmaaaaGNum
namespace Go.Proofs.Ytghcgdjpmgmaaaa
open Go.RowKit Go.Lib
set_option linter.unusedVariables false

/-- The packet that a greeting's bytes make of one that is there. -/
def conP (p : Pk) (b : List UInt8) : Pk :=
  let b2 := leftL b
  let b3 := b2.drop 1
  let f := numL (b3.take 1)
  let b4 := b3.drop 1
  let b5 := b4.drop 2
  let hw := f / 4 % 2 == 1
  let hu := f / 128 % 2 == 1
  let hp := f / 64 % 2 == 1
  let b6 := leftL b5
  let b8 := if hw then leftL (leftL b6) else b6
  let b9 := if hu then leftL b8 else b8
  { p with level := numL (b2.take 1), keep := numL (b4.take 2), cli := bytesOfL (gotL b5), clean := f / 2 % 2 == 1, hw := hw, hu := hu, hp := hp,
           wtop := if hw then bytesOfL (gotL b6) else p.wtop, wpay := if hw then gotL (leftL b6) else p.wpay, wqos := if hw then f / 8 % 4 else p.wqos, wret := if hw then f / 32 % 2 == 1 else p.wret,
           user := if hu then bytesOfL (gotL b8) else p.user, pass := if hp then gotL b9 else p.pass }
/-- What reading a greeting leaves: the box, and rows of its own. -/
def ConPost (w : World) (b : Nat) (q : Pk) (s : Sv) (w' : World) : Prop :=
  ∃ s' : Sv, w'.heap[b]? = some (.cells (pkC q s') 28) ∧ (s'.pA = s.pA ∧ s'.pC = s.pC ∧ s'.sA = s.sA ∧ s'.sC = s.sC ∧ s'.cA = s.cA ∧ s'.cC = s.cC) ∧ w'.ownsRow w.heap.size 5 1 (.slice s'.wA q.wpay.length s'.wC) q.wpay.length (Lib.byteCells q.wpay) ∧
    w'.ownsRow w.heap.size 5 1 (.slice s'.uA q.pass.length s'.uC) q.pass.length (Lib.byteCells q.pass)
theorem own_put {w : World} {base n size b : Nat} {E : TypeId} {v : Value} {xs : List Value} (h : w.ownsRow base E size v n xs) (hb : b < base) (i : Nat) (u : Value) : (w.setCell ⟨b, i, none⟩ u).ownsRow base E size v n xs :=
  own_to h fun g hg1 hg2 => Below.heap_setCell _ _ _ _ (by show g ≠ b; omega)
theorem own_rd {w w' : World} {base n size r : Nat} {E : TypeId} {v : Value} {xs : List Value} (h : w.ownsRow base E size v n xs) (t : RdTo r w w') (hr : r < base) : w'.ownsRow base E size v n xs :=
  own_to h fun g hg1 hg2 => t.above g (by omega) hg2
theorem own_len {w' : World} {base n m size c : Nat} {E : TypeId} {A : Option Addr} {xs : List Value} (e : m = n) (q : w'.ownsRow base E size (.slice A n c) n xs) : w'.ownsRow base E size (.slice A m c) m xs := by
  subst e
  exact q
theorem flag_bits : ∀ y : Fin 256, (bits .and .i64 (y.val : Int) 2 != 0) = ((y.val : Int) / 2 % 2 == 1) ∧ (bits .and .i64 (y.val : Int) 4 != 0) = ((y.val : Int) / 4 % 2 == 1) ∧ (bits .and .i64 (y.val : Int) 128 != 0) = ((y.val : Int) / 128 % 2 == 1) ∧ (bits .and .i64 (y.val : Int) 64 != 0) = ((y.val : Int) / 64 % 2 == 1) ∧ (bits .and .i64 (y.val : Int) 32 != 0) = ((y.val : Int) / 32 % 2 == 1) ∧ bits .and .i64 ((y.val : Int) / 8) 3 = (y.val : Int) / 8 % 4 := by decide +kernel

set_option maxRecDepth 100000 in
set_option maxHeartbeats 8000000 in
theorem con_any (B b r : Nat) (ad : Addr) (c : Nat) (l : List UInt8) (p : Pk) (s : Sv) (w : World) (h : RdAt w B r ad c l) (hb : b < r) (hB : B ≤ b) (hp : w.heap[b]? = some (.cells (pkC p s) 28))
    (ow : w.ownsRow w.heap.size 5 1 (.slice s.wA p.wpay.length s.wC) p.wpay.length (Lib.byteCells p.wpay)) (op : w.ownsRow w.heap.size 5 1 (.slice s.uA p.pass.length s.uC) p.pass.length (Lib.byteCells p.pass)) :
    Calls Try.prog 85 #[.pointer (some ⟨r, 0, none⟩), .pointer (some ⟨b, 0, none⟩)] w fun e w' => e = .returned (.tuple #[]) ∧ Below b w w' ∧ ConPost w b (conP p l) s w' := by
  have hlt := h.lt
  obtain ⟨x0, x1⟩ := num_bounds l 2 (by omega)
  have N2 := fun (W : World) ad1 c1 (R : List UInt8) (y : Int) (S : List UInt8) (hy : y = numL (R.take 2)) (hS : S = R.drop 2) (h1 : RdAt W B r ad1 c1 R) => (by rw [hy, hS]; exact number_any B r ad1 c1 2 R W h1 (by omega) : Calls Try.prog 86 #[.pointer (some ⟨r, 0, none⟩), .int .i64 ((2 : Nat) : Int)] W fun e w' => e = .returned (.int .i64 y) ∧ (∃ ad' c', RdAt w' B r ad' c' S) ∧ RdTo r W w')
  have N1 := fun (W : World) ad1 c1 (R : List UInt8) (y : Int) (S : List UInt8) (hy : y = numL (R.take 1)) (hS : S = R.drop 1) (h1 : RdAt W B r ad1 c1 R) => (by rw [hy, hS]; exact number_any B r ad1 c1 1 R W h1 (by omega) : Calls Try.prog 86 #[.pointer (some ⟨r, 0, none⟩), .int .i64 ((1 : Nat) : Int)] W fun e w' => e = .returned (.int .i64 y) ∧ (∃ ad' c', RdAt w' B r ad' c' S) ∧ RdTo r W w')
  have TX := fun (W : World) ad1 c1 (R : List UInt8) (y : ByteArray) (S : List UInt8) (hy : y = bytesOfL (gotL R)) (hS : S = leftL R) (h1 : RdAt W B r ad1 c1 R) => (by rw [hy, hS]; exact text_any B r ad1 c1 R W h1 : Calls Try.prog 102 #[.pointer (some ⟨r, 0, none⟩)] W fun e w' => e = .returned (.string y) ∧ (∃ ad' c', RdAt w' B r ad' c' S) ∧ RdTo r W w')
  have LP := fun (W : World) ad1 c1 (R : List UInt8) (y : List UInt8) (n : Nat) (S : List UInt8) (hy : y = gotL R) (hn : y.length = n) (hS : S = leftL R) (h1 : RdAt W B r ad1 c1 R) => (by rw [hS]; exact lump_any B r ad1 c1 R W h1 y n hy hn : Calls Try.prog 103 #[.pointer (some ⟨r, 0, none⟩)] W fun e w' => ∃ A' c', e = .returned (.slice A' n c') ∧ (w'.ownsRow W.heap.size 5 1 (.slice A' n c') n (Lib.byteCells y)) ∧ (∃ ad' c', RdAt w' B r ad' c' S) ∧ RdTo r W w')
  obtain ⟨R1, hR1⟩ : ∃ R1, R1 = l.drop 2 := ⟨_, rfl⟩
  obtain ⟨y1, hy1⟩ : ∃ y1, y1 = numL (l.take 2) := ⟨_, rfl⟩
  obtain ⟨R2, hR2⟩ : ∃ R2, R2 = leftL l := ⟨_, rfl⟩
  obtain ⟨S2, hS2⟩ : ∃ S2, S2 = R1.take y1.toNat := ⟨_, rfl⟩
  obtain ⟨n2, hn2⟩ : ∃ n2, S2.length = n2 := ⟨_, rfl⟩
  obtain ⟨R3, hR3⟩ : ∃ R3, R3 = R2.drop 1 := ⟨_, rfl⟩
  obtain ⟨y3, hy3⟩ : ∃ y3, y3 = numL (R2.take 1) := ⟨_, rfl⟩
  obtain ⟨R4, hR4⟩ : ∃ R4, R4 = R3.drop 1 := ⟨_, rfl⟩
  obtain ⟨f, hf⟩ : ∃ f, f = numL (R3.take 1) := ⟨_, rfl⟩
  obtain ⟨R5, hR5⟩ : ∃ R5, R5 = R4.drop 2 := ⟨_, rfl⟩
  obtain ⟨y5, hy5⟩ : ∃ y5, y5 = numL (R4.take 2) := ⟨_, rfl⟩
  obtain ⟨R6, hR6⟩ : ∃ R6, R6 = leftL R5 := ⟨_, rfl⟩
  obtain ⟨x6, hx6⟩ : ∃ x6, x6 = bytesOfL (gotL R5) := ⟨_, rfl⟩
  rw [← hy1] at x0 x1
  have eR2 : R1.drop y1.toNat = R2 := by rw [hR1, hy1, hR2]; rfl
  have fb : 0 ≤ f ∧ f ≤ 255 := by
    rw [hf]
    have hlen : (R3.take 1).length ≤ 1 := by rw [List.length_take]; omega
    generalize R3.take 1 = T at *
    rcases T with _ | ⟨x, _ | _⟩
    · exact ⟨by decide, by decide⟩
    · have := x.toNat_lt; unfold numL; simp; omega
    · simp at hlen
  have G1 := Lib.hid (fun W a1 d1 => N2 W a1 d1 l y1 R1 hy1 hR1)
  have G2 := Lib.hid (fun W a1 d1 h1 => rtake_any B r a1 d1 y1 R1 S2 R2 n2 W h1 x0 x1 hS2.symm eR2 hn2)
  have G3 := Lib.hid (fun W a1 d1 => N1 W a1 d1 R2 y3 R3 hy3 hR3)
  have G4 := Lib.hid (fun W a1 d1 => N1 W a1 d1 R3 f R4 hf hR4)
  have G5 := Lib.hid (fun W a1 d1 => N2 W a1 d1 R4 y5 R5 hy5 hR5)
  have G6 := Lib.hid (fun W a1 d1 => TX W a1 d1 R5 x6 R6 hx6 hR6)
  have h0 := Lib.hid h
  have ROW0 := Lib.hid hp
  have EQ := Lib.hid (And.intro hR2 (And.intro hR3 (And.intro hy3 (And.intro hR4 (And.intro hf (And.intro hR5 (And.intro hy5 (And.intro hR6 hx6))))))))
  clear h hp N1 N2 hR1 hy1 hR2 hS2 hn2 hR3 hy3 hR4 hf hR5 hy5 hR6 hx6 x0 x1 eR2
  have hne : r ≠ b := by omega
  have hbw : b < w.heap.size := by omega
  have OW0 := Lib.hid ow
  have OP0 := Lib.hid op
  clear ow op
  obtain ⟨c2, c4, c128, c64, c32, c8⟩ := flag_bits ⟨f.toNat, by omega⟩
  simp only [Int.toNat_of_nonneg fb.1] at c2 c4 c128 c64 c32 c8
  have C2 := Lib.hid c2
  have C32 := Lib.hid c32
  have C8 := Lib.hid c8
  have cl2 : (bits .and .i64 f 2 != 0) = (f / 2 % 2 == 1) := C2.out
  have e32 : (bits .and .i64 f 32 != 0) = (f / 32 % 2 == 1) := C32.out
  have e8 : bits .and .i64 (f / 8) 3 = f / 8 % 4 := C8.out
  clear c2 c32 c8
  generalize hcl : (f / 2 % 2 == 1) = cl at *
  generalize hwr : (f / 32 % 2 == 1) = wr at *
  generalize hwq : f / 8 % 4 = wq at *
  have CL := Lib.hid (And.intro hcl (And.intro hwr hwq))
  clear hcl hwr hwq C2 C32 C8
  rcases e4 : (bits .and .i64 f 4 != 0) <;> rcases e128 : (bits .and .i64 f 128 != 0) <;> rcases e64 : (bits .and .i64 f 64 != 0)
  · have LW : Hid True := Lib.hid trivial
    have f4 := c4.symm.trans e4
    have f128 := c128.symm.trans e128
    have f64 := c64.symm.trans e64
    have LQ : Hid True := Lib.hid trivial
    have HQ : Hid (conP p l = { p with level := y3, keep := y5, cli := x6, clean := cl, hw := false, hu := false, hp := false }) := Lib.hid (by
      obtain ⟨hR2, hR3, hy3, hR4, hf, hR5, hy5, hR6, hx6⟩ := EQ.out
      obtain ⟨hcl, hwr, hwq⟩ := CL.out
      unfold conP
      simp only [← hR2, ← hR3, ← hy3, ← hR4, ← hf, ← hR5, ← hy5, ← hR6, ← hx6, hcl, hwr, hwq, f4, f128, f64, Bool.false_eq_true, if_false])
    clear EQ CL TX LP c4 c128 c64 f4 f128 f64
    go_enter Try.func85, Try.ntmps85
    go_wp2_with fail
    refine (G1.out _ _ _ h0.out).mono ?_
    rintro e w1 ⟨rfl, ⟨ad1, c1, h1⟩, t1⟩
    have row1 : w1.heap[b]? = some (.cells (pkC (p) (s)) 28) := by rw [t1.below.block b hb]; exact ROW0.out
    have bl1 : Below b w w1 := ((Below.refl b w)).trans (t1.below.mono (Nat.le_of_lt hb))
    have OW1 := Lib.hid (own_rd (OW0.out) t1 hlt)
    have OP1 := Lib.hid (own_rd (OP0.out) t1 hlt)
    have rc1 := row_cells row1
    have rf1 := fun k => frozen_of_row w1 b k _ _ row1
    have H1 := Lib.hid h1
    have ROW1 := Lib.hid row1
    have BL1 := Lib.hid bl1
    clear h1 t1 row1 bl1
    go_wp2_with fail
    refine (G2.out _ _ _ H1.out).mono ?_
    rintro e w2 ⟨rfl, ⟨ad2, c2, h2⟩, _, t2⟩
    have row2 : w2.heap[b]? = some (.cells (pkC (p) (s)) 28) := by rw [t2.below.block b hb]; exact ROW1.out
    have bl2 : Below b w w2 := (BL1.out).trans (t2.below.mono (Nat.le_of_lt hb))
    have OW2 := Lib.hid (own_rd (OW1.out) t2 hlt)
    have OP2 := Lib.hid (own_rd (OP1.out) t2 hlt)
    have rc2 := row_cells row2
    have rf2 := fun k => frozen_of_row w2 b k _ _ row2
    have H2 := Lib.hid h2
    have ROW2 := Lib.hid row2
    have BL2 := Lib.hid bl2
    clear h2 t2 row2 bl2 rc1 rf1
    go_wp2_with fail
    refine (G3.out _ _ _ H2.out).mono ?_
    rintro e w3 ⟨rfl, ⟨ad3, c3, h3⟩, t3⟩
    have row3 : w3.heap[b]? = some (.cells (pkC (p) (s)) 28) := by rw [t3.below.block b hb]; exact ROW2.out
    have bl3 : Below b w w3 := (BL2.out).trans (t3.below.mono (Nat.le_of_lt hb))
    have OW3 := Lib.hid (own_rd (OW2.out) t3 hlt)
    have OP3 := Lib.hid (own_rd (OP2.out) t3 hlt)
    have rc3 := row_cells row3
    have rf3 := fun k => frozen_of_row w3 b k _ _ row3
    have H3 := Lib.hid h3
    have ROW3 := Lib.hid row3
    have BL3 := Lib.hid bl3
    clear h3 t3 row3 bl3 rc2 rf2
    go_wp2_with fail
    refine (G4.out _ _ _ ((H3.out).put hB hb (i := 7) (.int .i64 y3))).mono ?_
    rintro e w4 ⟨rfl, ⟨ad4, c4, h4⟩, t4⟩
    have row4 : w4.heap[b]? = some (.cells (pkC ({ p with level := y3 }) (s)) 28) := by rw [t4.below.block b hb]; exact (put_row (p' := { p with level := y3 }) (s' := s) 7 (.int .i64 y3) ROW3.out (by (try rw [← LW.out]); (try rw [← LQ.out]); rfl))
    have bl4 : Below b w w4 := (((BL3.out).setCell (p := ⟨b, 7, none⟩) (Nat.le_refl b) (.int .i64 y3))).trans (t4.below.mono (Nat.le_of_lt hb))
    have OW4 := Lib.hid (own_rd ((own_put (OW3.out) hbw 7 (.int .i64 y3))) t4 hlt)
    have OP4 := Lib.hid (own_rd ((own_put (OP3.out) hbw 7 (.int .i64 y3))) t4 hlt)
    have rc4 := row_cells row4
    have rf4 := fun k => frozen_of_row w4 b k _ _ row4
    have H4 := Lib.hid h4
    have ROW4 := Lib.hid row4
    have BL4 := Lib.hid bl4
    clear h4 t4 row4 bl4 rc3 rf3
    go_wp2_with fail
    refine (G5.out _ _ _ H4.out).mono ?_
    rintro e w5 ⟨rfl, ⟨ad5, c5, h5⟩, t5⟩
    have row5 : w5.heap[b]? = some (.cells (pkC ({ p with level := y3 }) (s)) 28) := by rw [t5.below.block b hb]; exact ROW4.out
    have bl5 : Below b w w5 := (BL4.out).trans (t5.below.mono (Nat.le_of_lt hb))
    have OW5 := Lib.hid (own_rd (OW4.out) t5 hlt)
    have OP5 := Lib.hid (own_rd (OP4.out) t5 hlt)
    have rc5 := row_cells row5
    have rf5 := fun k => frozen_of_row w5 b k _ _ row5
    have H5 := Lib.hid h5
    have ROW5 := Lib.hid row5
    have BL5 := Lib.hid bl5
    clear h5 t5 row5 bl5 rc4 rf4
    go_wp2_with fail
    refine (G6.out _ _ _ ((H5.out).put hB hb (i := 10) (.int .i64 y5))).mono ?_
    rintro e w6 ⟨rfl, ⟨ad6, c6, h6⟩, t6⟩
    have row6 : w6.heap[b]? = some (.cells (pkC ({ p with level := y3, keep := y5 }) (s)) 28) := by rw [t6.below.block b hb]; exact (put_row (p' := { p with level := y3, keep := y5 }) (s' := s) 10 (.int .i64 y5) ROW5.out (by (try rw [← LW.out]); (try rw [← LQ.out]); rfl))
    have bl6 : Below b w w6 := (((BL5.out).setCell (p := ⟨b, 10, none⟩) (Nat.le_refl b) (.int .i64 y5))).trans (t6.below.mono (Nat.le_of_lt hb))
    have OW6 := Lib.hid (own_rd ((own_put (OW5.out) hbw 10 (.int .i64 y5))) t6 hlt)
    have OP6 := Lib.hid (own_rd ((own_put (OP5.out) hbw 10 (.int .i64 y5))) t6 hlt)
    have rc6 := row_cells row6
    have rf6 := fun k => frozen_of_row w6 b k _ _ row6
    have H6 := Lib.hid h6
    have ROW6 := Lib.hid row6
    have BL6 := Lib.hid bl6
    clear h6 t6 row6 bl6 rc5 rf5
    go_wp2_with fail
    go_end0
    unfold ConPost
    rw [HQ.out]
    refine ⟨rfl, ((((((((((BL6.out).setCell (p := ⟨b, 8, none⟩) (Nat.le_refl b) (.string x6))).setCell (p := ⟨b, 9, none⟩) (Nat.le_refl b) (.bool cl))).setCell (p := ⟨b, 11, none⟩) (Nat.le_refl b) (.bool false))).setCell (p := ⟨b, 16, none⟩) (Nat.le_refl b) (.bool false))).setCell (p := ⟨b, 17, none⟩) (Nat.le_refl b) (.bool false)), s, (put_row (p' := { p with level := y3, keep := y5, cli := x6, clean := cl, hw := false, hu := false, hp := false }) (s' := s) 17 (.bool false) (put_row (p' := { p with level := y3, keep := y5, cli := x6, clean := cl, hw := false, hu := false }) (s' := s) 16 (.bool false) (put_row (p' := { p with level := y3, keep := y5, cli := x6, clean := cl, hw := false }) (s' := s) 11 (.bool false) (put_row (p' := { p with level := y3, keep := y5, cli := x6, clean := cl }) (s' := s) 9 (.bool cl) (put_row (p' := { p with level := y3, keep := y5, cli := x6 }) (s' := s) 8 (.string x6) ROW6.out (by (try rw [← LW.out]); (try rw [← LQ.out]); rfl)) (by (try rw [← LW.out]); (try rw [← LQ.out]); rfl)) (by (try rw [← LW.out]); (try rw [← LQ.out]); rfl)) (by (try rw [← LW.out]); (try rw [← LQ.out]); rfl)) (by (try rw [← LW.out]); (try rw [← LQ.out]); rfl)), ⟨rfl, rfl, rfl, rfl, rfl, rfl⟩, ?_, ?_⟩
    · have q := (own_put ((own_put ((own_put ((own_put ((own_put (OW6.out) hbw 8 (.string x6))) hbw 9 (.bool cl))) hbw 11 (.bool false))) hbw 16 (.bool false))) hbw 17 (.bool false))
      exact q
    · have q := (own_put ((own_put ((own_put ((own_put ((own_put (OP6.out) hbw 8 (.string x6))) hbw 9 (.bool cl))) hbw 11 (.bool false))) hbw 16 (.bool false))) hbw 17 (.bool false))
      exact q
  · have LW : Hid True := Lib.hid trivial
    have f4 := c4.symm.trans e4
    have f128 := c128.symm.trans e128
    have f64 := c64.symm.trans e64
    obtain ⟨x10, hx10⟩ : ∃ x10, x10 = gotL R6 := ⟨_, rfl⟩
    obtain ⟨n10, hn10⟩ : ∃ n10, x10.length = n10 := ⟨_, rfl⟩
    obtain ⟨R10, hR10⟩ : ∃ R10, R10 = leftL R6 := ⟨_, rfl⟩
    have G10 := Lib.hid (fun W a1 d1 => LP W a1 d1 R6 x10 n10 R10 hx10 hn10 hR10)
    have LQ := Lib.hid hn10
    have HQ : Hid (conP p l = { p with level := y3, keep := y5, cli := x6, clean := cl, hw := false, hu := false, hp := true, pass := x10 }) := Lib.hid (by
      obtain ⟨hR2, hR3, hy3, hR4, hf, hR5, hy5, hR6, hx6⟩ := EQ.out
      obtain ⟨hcl, hwr, hwq⟩ := CL.out
      unfold conP
      simp only [← hR2, ← hR3, ← hy3, ← hR4, ← hf, ← hR5, ← hy5, ← hR6, ← hx6, hcl, hwr, hwq, f4, f128, f64, if_true, Bool.false_eq_true, if_false, ← hx10])
    clear EQ CL TX LP c4 c128 c64 f4 f128 f64 hx10 hn10 hR10
    go_enter Try.func85, Try.ntmps85
    go_wp2_with fail
    refine (G1.out _ _ _ h0.out).mono ?_
    rintro e w1 ⟨rfl, ⟨ad1, c1, h1⟩, t1⟩
    have row1 : w1.heap[b]? = some (.cells (pkC (p) (s)) 28) := by rw [t1.below.block b hb]; exact ROW0.out
    have bl1 : Below b w w1 := ((Below.refl b w)).trans (t1.below.mono (Nat.le_of_lt hb))
    have OW1 := Lib.hid (own_rd (OW0.out) t1 hlt)
    have OP1 := Lib.hid (own_rd (OP0.out) t1 hlt)
    have rc1 := row_cells row1
    have rf1 := fun k => frozen_of_row w1 b k _ _ row1
    have H1 := Lib.hid h1
    have ROW1 := Lib.hid row1
    have BL1 := Lib.hid bl1
    clear h1 t1 row1 bl1
    go_wp2_with fail
    refine (G2.out _ _ _ H1.out).mono ?_
    rintro e w2 ⟨rfl, ⟨ad2, c2, h2⟩, _, t2⟩
    have row2 : w2.heap[b]? = some (.cells (pkC (p) (s)) 28) := by rw [t2.below.block b hb]; exact ROW1.out
    have bl2 : Below b w w2 := (BL1.out).trans (t2.below.mono (Nat.le_of_lt hb))
    have OW2 := Lib.hid (own_rd (OW1.out) t2 hlt)
    have OP2 := Lib.hid (own_rd (OP1.out) t2 hlt)
    have rc2 := row_cells row2
    have rf2 := fun k => frozen_of_row w2 b k _ _ row2
    have H2 := Lib.hid h2
    have ROW2 := Lib.hid row2
    have BL2 := Lib.hid bl2
    clear h2 t2 row2 bl2 rc1 rf1
    go_wp2_with fail
    refine (G3.out _ _ _ H2.out).mono ?_
    rintro e w3 ⟨rfl, ⟨ad3, c3, h3⟩, t3⟩
    have row3 : w3.heap[b]? = some (.cells (pkC (p) (s)) 28) := by rw [t3.below.block b hb]; exact ROW2.out
    have bl3 : Below b w w3 := (BL2.out).trans (t3.below.mono (Nat.le_of_lt hb))
    have OW3 := Lib.hid (own_rd (OW2.out) t3 hlt)
    have OP3 := Lib.hid (own_rd (OP2.out) t3 hlt)
    have rc3 := row_cells row3
    have rf3 := fun k => frozen_of_row w3 b k _ _ row3
    have H3 := Lib.hid h3
    have ROW3 := Lib.hid row3
    have BL3 := Lib.hid bl3
    clear h3 t3 row3 bl3 rc2 rf2
    go_wp2_with fail
    refine (G4.out _ _ _ ((H3.out).put hB hb (i := 7) (.int .i64 y3))).mono ?_
    rintro e w4 ⟨rfl, ⟨ad4, c4, h4⟩, t4⟩
    have row4 : w4.heap[b]? = some (.cells (pkC ({ p with level := y3 }) (s)) 28) := by rw [t4.below.block b hb]; exact (put_row (p' := { p with level := y3 }) (s' := s) 7 (.int .i64 y3) ROW3.out (by (try rw [← LW.out]); (try rw [← LQ.out]); rfl))
    have bl4 : Below b w w4 := (((BL3.out).setCell (p := ⟨b, 7, none⟩) (Nat.le_refl b) (.int .i64 y3))).trans (t4.below.mono (Nat.le_of_lt hb))
    have OW4 := Lib.hid (own_rd ((own_put (OW3.out) hbw 7 (.int .i64 y3))) t4 hlt)
    have OP4 := Lib.hid (own_rd ((own_put (OP3.out) hbw 7 (.int .i64 y3))) t4 hlt)
    have rc4 := row_cells row4
    have rf4 := fun k => frozen_of_row w4 b k _ _ row4
    have H4 := Lib.hid h4
    have ROW4 := Lib.hid row4
    have BL4 := Lib.hid bl4
    clear h4 t4 row4 bl4 rc3 rf3
    go_wp2_with fail
    refine (G5.out _ _ _ H4.out).mono ?_
    rintro e w5 ⟨rfl, ⟨ad5, c5, h5⟩, t5⟩
    have row5 : w5.heap[b]? = some (.cells (pkC ({ p with level := y3 }) (s)) 28) := by rw [t5.below.block b hb]; exact ROW4.out
    have bl5 : Below b w w5 := (BL4.out).trans (t5.below.mono (Nat.le_of_lt hb))
    have OW5 := Lib.hid (own_rd (OW4.out) t5 hlt)
    have OP5 := Lib.hid (own_rd (OP4.out) t5 hlt)
    have rc5 := row_cells row5
    have rf5 := fun k => frozen_of_row w5 b k _ _ row5
    have H5 := Lib.hid h5
    have ROW5 := Lib.hid row5
    have BL5 := Lib.hid bl5
    clear h5 t5 row5 bl5 rc4 rf4
    go_wp2_with fail
    refine (G6.out _ _ _ ((H5.out).put hB hb (i := 10) (.int .i64 y5))).mono ?_
    rintro e w6 ⟨rfl, ⟨ad6, c6, h6⟩, t6⟩
    have row6 : w6.heap[b]? = some (.cells (pkC ({ p with level := y3, keep := y5 }) (s)) 28) := by rw [t6.below.block b hb]; exact (put_row (p' := { p with level := y3, keep := y5 }) (s' := s) 10 (.int .i64 y5) ROW5.out (by (try rw [← LW.out]); (try rw [← LQ.out]); rfl))
    have bl6 : Below b w w6 := (((BL5.out).setCell (p := ⟨b, 10, none⟩) (Nat.le_refl b) (.int .i64 y5))).trans (t6.below.mono (Nat.le_of_lt hb))
    have OW6 := Lib.hid (own_rd ((own_put (OW5.out) hbw 10 (.int .i64 y5))) t6 hlt)
    have OP6 := Lib.hid (own_rd ((own_put (OP5.out) hbw 10 (.int .i64 y5))) t6 hlt)
    have rc6 := row_cells row6
    have rf6 := fun k => frozen_of_row w6 b k _ _ row6
    have H6 := Lib.hid h6
    have ROW6 := Lib.hid row6
    have BL6 := Lib.hid bl6
    clear h6 t6 row6 bl6 rc5 rf5
    go_wp2_with fail
    refine (G10.out _ _ _ ((((((((((H6.out).put hB hb (i := 8) (.string x6))).put hB hb (i := 9) (.bool cl))).put hB hb (i := 11) (.bool false))).put hB hb (i := 16) (.bool false))).put hB hb (i := 17) (.bool true))).mono ?_
    rintro e w7 ⟨OPA, OPC, rfl, o7, ⟨ad7, c7, h7⟩, t7⟩
    have row7 : w7.heap[b]? = some (.cells (pkC ({ p with level := y3, keep := y5, cli := x6, clean := cl, hw := false, hu := false, hp := true }) (s)) 28) := by rw [t7.below.block b hb]; exact (put_row (p' := { p with level := y3, keep := y5, cli := x6, clean := cl, hw := false, hu := false, hp := true }) (s' := s) 17 (.bool true) (put_row (p' := { p with level := y3, keep := y5, cli := x6, clean := cl, hw := false, hu := false }) (s' := s) 16 (.bool false) (put_row (p' := { p with level := y3, keep := y5, cli := x6, clean := cl, hw := false }) (s' := s) 11 (.bool false) (put_row (p' := { p with level := y3, keep := y5, cli := x6, clean := cl }) (s' := s) 9 (.bool cl) (put_row (p' := { p with level := y3, keep := y5, cli := x6 }) (s' := s) 8 (.string x6) ROW6.out (by (try rw [← LW.out]); (try rw [← LQ.out]); rfl)) (by (try rw [← LW.out]); (try rw [← LQ.out]); rfl)) (by (try rw [← LW.out]); (try rw [← LQ.out]); rfl)) (by (try rw [← LW.out]); (try rw [← LQ.out]); rfl)) (by (try rw [← LW.out]); (try rw [← LQ.out]); rfl))
    have bl7 : Below b w w7 := (((((((((((BL6.out).setCell (p := ⟨b, 8, none⟩) (Nat.le_refl b) (.string x6))).setCell (p := ⟨b, 9, none⟩) (Nat.le_refl b) (.bool cl))).setCell (p := ⟨b, 11, none⟩) (Nat.le_refl b) (.bool false))).setCell (p := ⟨b, 16, none⟩) (Nat.le_refl b) (.bool false))).setCell (p := ⟨b, 17, none⟩) (Nat.le_refl b) (.bool true))).trans (t7.below.mono (Nat.le_of_lt hb))
    have OW7 := Lib.hid (own_rd ((own_put ((own_put ((own_put ((own_put ((own_put (OW6.out) hbw 8 (.string x6))) hbw 9 (.bool cl))) hbw 11 (.bool false))) hbw 16 (.bool false))) hbw 17 (.bool true))) t7 hlt)
    have OP7 := Lib.hid (own_mono3 o7 (base' := w.heap.size) (by have := BL6.out.size; simp; omega))
    have rc7 := row_cells row7
    have rf7 := fun k => frozen_of_row w7 b k _ _ row7
    have H7 := Lib.hid h7
    have ROW7 := Lib.hid row7
    have BL7 := Lib.hid bl7
    clear h7 t7 row7 bl7 o7 rc6 rf6
    go_wp2_with fail
    go_end0
    unfold ConPost
    rw [HQ.out]
    refine ⟨rfl, ((BL7.out).setCell (p := ⟨b, 19, none⟩) (Nat.le_refl b) (.slice OPA n10 OPC)), { s with uA := OPA, uC := OPC }, (put_row (p' := { p with level := y3, keep := y5, cli := x6, clean := cl, hw := false, hu := false, hp := true, pass := x10 }) (s' := { s with uA := OPA, uC := OPC }) 19 (.slice OPA n10 OPC) ROW7.out (by (try rw [← LW.out]); (try rw [← LQ.out]); rfl)), ⟨rfl, rfl, rfl, rfl, rfl, rfl⟩, ?_, ?_⟩
    · have q := (own_put (OW7.out) hbw 19 (.slice OPA n10 OPC))
      exact q
    · have q := (own_put (OP7.out) hbw 19 (.slice OPA n10 OPC))
      exact own_len LQ.out q
  · have LW : Hid True := Lib.hid trivial
    have f4 := c4.symm.trans e4
    have f128 := c128.symm.trans e128
    have f64 := c64.symm.trans e64
    obtain ⟨x9, hx9⟩ : ∃ x9, x9 = bytesOfL (gotL R6) := ⟨_, rfl⟩
    obtain ⟨R9, hR9⟩ : ∃ R9, R9 = leftL R6 := ⟨_, rfl⟩
    have G9 := Lib.hid (fun W a1 d1 => TX W a1 d1 R6 x9 R9 hx9 hR9)
    have LQ : Hid True := Lib.hid trivial
    have HQ : Hid (conP p l = { p with level := y3, keep := y5, cli := x6, clean := cl, hw := false, hu := true, hp := false, user := x9 }) := Lib.hid (by
      obtain ⟨hR2, hR3, hy3, hR4, hf, hR5, hy5, hR6, hx6⟩ := EQ.out
      obtain ⟨hcl, hwr, hwq⟩ := CL.out
      unfold conP
      simp only [← hR2, ← hR3, ← hy3, ← hR4, ← hf, ← hR5, ← hy5, ← hR6, ← hx6, hcl, hwr, hwq, f4, f128, f64, if_true, Bool.false_eq_true, if_false, ← hx9, ← hR9])
    clear EQ CL TX LP c4 c128 c64 f4 f128 f64 hx9 hR9
    go_enter Try.func85, Try.ntmps85
    go_wp2_with fail
    refine (G1.out _ _ _ h0.out).mono ?_
    rintro e w1 ⟨rfl, ⟨ad1, c1, h1⟩, t1⟩
    have row1 : w1.heap[b]? = some (.cells (pkC (p) (s)) 28) := by rw [t1.below.block b hb]; exact ROW0.out
    have bl1 : Below b w w1 := ((Below.refl b w)).trans (t1.below.mono (Nat.le_of_lt hb))
    have OW1 := Lib.hid (own_rd (OW0.out) t1 hlt)
    have OP1 := Lib.hid (own_rd (OP0.out) t1 hlt)
    have rc1 := row_cells row1
    have rf1 := fun k => frozen_of_row w1 b k _ _ row1
    have H1 := Lib.hid h1
    have ROW1 := Lib.hid row1
    have BL1 := Lib.hid bl1
    clear h1 t1 row1 bl1
    go_wp2_with fail
    refine (G2.out _ _ _ H1.out).mono ?_
    rintro e w2 ⟨rfl, ⟨ad2, c2, h2⟩, _, t2⟩
    have row2 : w2.heap[b]? = some (.cells (pkC (p) (s)) 28) := by rw [t2.below.block b hb]; exact ROW1.out
    have bl2 : Below b w w2 := (BL1.out).trans (t2.below.mono (Nat.le_of_lt hb))
    have OW2 := Lib.hid (own_rd (OW1.out) t2 hlt)
    have OP2 := Lib.hid (own_rd (OP1.out) t2 hlt)
    have rc2 := row_cells row2
    have rf2 := fun k => frozen_of_row w2 b k _ _ row2
    have H2 := Lib.hid h2
    have ROW2 := Lib.hid row2
    have BL2 := Lib.hid bl2
    clear h2 t2 row2 bl2 rc1 rf1
    go_wp2_with fail
    refine (G3.out _ _ _ H2.out).mono ?_
    rintro e w3 ⟨rfl, ⟨ad3, c3, h3⟩, t3⟩
    have row3 : w3.heap[b]? = some (.cells (pkC (p) (s)) 28) := by rw [t3.below.block b hb]; exact ROW2.out
    have bl3 : Below b w w3 := (BL2.out).trans (t3.below.mono (Nat.le_of_lt hb))
    have OW3 := Lib.hid (own_rd (OW2.out) t3 hlt)
    have OP3 := Lib.hid (own_rd (OP2.out) t3 hlt)
    have rc3 := row_cells row3
    have rf3 := fun k => frozen_of_row w3 b k _ _ row3
    have H3 := Lib.hid h3
    have ROW3 := Lib.hid row3
    have BL3 := Lib.hid bl3
    clear h3 t3 row3 bl3 rc2 rf2
    go_wp2_with fail
    refine (G4.out _ _ _ ((H3.out).put hB hb (i := 7) (.int .i64 y3))).mono ?_
    rintro e w4 ⟨rfl, ⟨ad4, c4, h4⟩, t4⟩
    have row4 : w4.heap[b]? = some (.cells (pkC ({ p with level := y3 }) (s)) 28) := by rw [t4.below.block b hb]; exact (put_row (p' := { p with level := y3 }) (s' := s) 7 (.int .i64 y3) ROW3.out (by (try rw [← LW.out]); (try rw [← LQ.out]); rfl))
    have bl4 : Below b w w4 := (((BL3.out).setCell (p := ⟨b, 7, none⟩) (Nat.le_refl b) (.int .i64 y3))).trans (t4.below.mono (Nat.le_of_lt hb))
    have OW4 := Lib.hid (own_rd ((own_put (OW3.out) hbw 7 (.int .i64 y3))) t4 hlt)
    have OP4 := Lib.hid (own_rd ((own_put (OP3.out) hbw 7 (.int .i64 y3))) t4 hlt)
    have rc4 := row_cells row4
    have rf4 := fun k => frozen_of_row w4 b k _ _ row4
    have H4 := Lib.hid h4
    have ROW4 := Lib.hid row4
    have BL4 := Lib.hid bl4
    clear h4 t4 row4 bl4 rc3 rf3
    go_wp2_with fail
    refine (G5.out _ _ _ H4.out).mono ?_
    rintro e w5 ⟨rfl, ⟨ad5, c5, h5⟩, t5⟩
    have row5 : w5.heap[b]? = some (.cells (pkC ({ p with level := y3 }) (s)) 28) := by rw [t5.below.block b hb]; exact ROW4.out
    have bl5 : Below b w w5 := (BL4.out).trans (t5.below.mono (Nat.le_of_lt hb))
    have OW5 := Lib.hid (own_rd (OW4.out) t5 hlt)
    have OP5 := Lib.hid (own_rd (OP4.out) t5 hlt)
    have rc5 := row_cells row5
    have rf5 := fun k => frozen_of_row w5 b k _ _ row5
    have H5 := Lib.hid h5
    have ROW5 := Lib.hid row5
    have BL5 := Lib.hid bl5
    clear h5 t5 row5 bl5 rc4 rf4
    go_wp2_with fail
    refine (G6.out _ _ _ ((H5.out).put hB hb (i := 10) (.int .i64 y5))).mono ?_
    rintro e w6 ⟨rfl, ⟨ad6, c6, h6⟩, t6⟩
    have row6 : w6.heap[b]? = some (.cells (pkC ({ p with level := y3, keep := y5 }) (s)) 28) := by rw [t6.below.block b hb]; exact (put_row (p' := { p with level := y3, keep := y5 }) (s' := s) 10 (.int .i64 y5) ROW5.out (by (try rw [← LW.out]); (try rw [← LQ.out]); rfl))
    have bl6 : Below b w w6 := (((BL5.out).setCell (p := ⟨b, 10, none⟩) (Nat.le_refl b) (.int .i64 y5))).trans (t6.below.mono (Nat.le_of_lt hb))
    have OW6 := Lib.hid (own_rd ((own_put (OW5.out) hbw 10 (.int .i64 y5))) t6 hlt)
    have OP6 := Lib.hid (own_rd ((own_put (OP5.out) hbw 10 (.int .i64 y5))) t6 hlt)
    have rc6 := row_cells row6
    have rf6 := fun k => frozen_of_row w6 b k _ _ row6
    have H6 := Lib.hid h6
    have ROW6 := Lib.hid row6
    have BL6 := Lib.hid bl6
    clear h6 t6 row6 bl6 rc5 rf5
    go_wp2_with fail
    refine (G9.out _ _ _ ((((((((((H6.out).put hB hb (i := 8) (.string x6))).put hB hb (i := 9) (.bool cl))).put hB hb (i := 11) (.bool false))).put hB hb (i := 16) (.bool true))).put hB hb (i := 17) (.bool false))).mono ?_
    rintro e w7 ⟨rfl, ⟨ad7, c7, h7⟩, t7⟩
    have row7 : w7.heap[b]? = some (.cells (pkC ({ p with level := y3, keep := y5, cli := x6, clean := cl, hw := false, hu := true, hp := false }) (s)) 28) := by rw [t7.below.block b hb]; exact (put_row (p' := { p with level := y3, keep := y5, cli := x6, clean := cl, hw := false, hu := true, hp := false }) (s' := s) 17 (.bool false) (put_row (p' := { p with level := y3, keep := y5, cli := x6, clean := cl, hw := false, hu := true }) (s' := s) 16 (.bool true) (put_row (p' := { p with level := y3, keep := y5, cli := x6, clean := cl, hw := false }) (s' := s) 11 (.bool false) (put_row (p' := { p with level := y3, keep := y5, cli := x6, clean := cl }) (s' := s) 9 (.bool cl) (put_row (p' := { p with level := y3, keep := y5, cli := x6 }) (s' := s) 8 (.string x6) ROW6.out (by (try rw [← LW.out]); (try rw [← LQ.out]); rfl)) (by (try rw [← LW.out]); (try rw [← LQ.out]); rfl)) (by (try rw [← LW.out]); (try rw [← LQ.out]); rfl)) (by (try rw [← LW.out]); (try rw [← LQ.out]); rfl)) (by (try rw [← LW.out]); (try rw [← LQ.out]); rfl))
    have bl7 : Below b w w7 := (((((((((((BL6.out).setCell (p := ⟨b, 8, none⟩) (Nat.le_refl b) (.string x6))).setCell (p := ⟨b, 9, none⟩) (Nat.le_refl b) (.bool cl))).setCell (p := ⟨b, 11, none⟩) (Nat.le_refl b) (.bool false))).setCell (p := ⟨b, 16, none⟩) (Nat.le_refl b) (.bool true))).setCell (p := ⟨b, 17, none⟩) (Nat.le_refl b) (.bool false))).trans (t7.below.mono (Nat.le_of_lt hb))
    have OW7 := Lib.hid (own_rd ((own_put ((own_put ((own_put ((own_put ((own_put (OW6.out) hbw 8 (.string x6))) hbw 9 (.bool cl))) hbw 11 (.bool false))) hbw 16 (.bool true))) hbw 17 (.bool false))) t7 hlt)
    have OP7 := Lib.hid (own_rd ((own_put ((own_put ((own_put ((own_put ((own_put (OP6.out) hbw 8 (.string x6))) hbw 9 (.bool cl))) hbw 11 (.bool false))) hbw 16 (.bool true))) hbw 17 (.bool false))) t7 hlt)
    have rc7 := row_cells row7
    have rf7 := fun k => frozen_of_row w7 b k _ _ row7
    have H7 := Lib.hid h7
    have ROW7 := Lib.hid row7
    have BL7 := Lib.hid bl7
    clear h7 t7 row7 bl7 rc6 rf6
    go_wp2_with fail
    go_end0
    unfold ConPost
    rw [HQ.out]
    refine ⟨rfl, ((BL7.out).setCell (p := ⟨b, 18, none⟩) (Nat.le_refl b) (.string x9)), s, (put_row (p' := { p with level := y3, keep := y5, cli := x6, clean := cl, hw := false, hu := true, hp := false, user := x9 }) (s' := s) 18 (.string x9) ROW7.out (by (try rw [← LW.out]); (try rw [← LQ.out]); rfl)), ⟨rfl, rfl, rfl, rfl, rfl, rfl⟩, ?_, ?_⟩
    · have q := (own_put (OW7.out) hbw 18 (.string x9))
      exact q
    · have q := (own_put (OP7.out) hbw 18 (.string x9))
      exact q
  · have LW : Hid True := Lib.hid trivial
    have f4 := c4.symm.trans e4
    have f128 := c128.symm.trans e128
    have f64 := c64.symm.trans e64
    obtain ⟨x9, hx9⟩ : ∃ x9, x9 = bytesOfL (gotL R6) := ⟨_, rfl⟩
    obtain ⟨R9, hR9⟩ : ∃ R9, R9 = leftL R6 := ⟨_, rfl⟩
    have G9 := Lib.hid (fun W a1 d1 => TX W a1 d1 R6 x9 R9 hx9 hR9)
    obtain ⟨x10, hx10⟩ : ∃ x10, x10 = gotL R9 := ⟨_, rfl⟩
    obtain ⟨n10, hn10⟩ : ∃ n10, x10.length = n10 := ⟨_, rfl⟩
    obtain ⟨R10, hR10⟩ : ∃ R10, R10 = leftL R9 := ⟨_, rfl⟩
    have G10 := Lib.hid (fun W a1 d1 => LP W a1 d1 R9 x10 n10 R10 hx10 hn10 hR10)
    have LQ := Lib.hid hn10
    have HQ : Hid (conP p l = { p with level := y3, keep := y5, cli := x6, clean := cl, hw := false, hu := true, hp := true, user := x9, pass := x10 }) := Lib.hid (by
      obtain ⟨hR2, hR3, hy3, hR4, hf, hR5, hy5, hR6, hx6⟩ := EQ.out
      obtain ⟨hcl, hwr, hwq⟩ := CL.out
      unfold conP
      simp only [← hR2, ← hR3, ← hy3, ← hR4, ← hf, ← hR5, ← hy5, ← hR6, ← hx6, hcl, hwr, hwq, f4, f128, f64, if_true, Bool.false_eq_true, if_false, ← hx9, ← hR9, ← hx10])
    clear EQ CL TX LP c4 c128 c64 f4 f128 f64 hx9 hR9 hx10 hn10 hR10
    go_enter Try.func85, Try.ntmps85
    go_wp2_with fail
    refine (G1.out _ _ _ h0.out).mono ?_
    rintro e w1 ⟨rfl, ⟨ad1, c1, h1⟩, t1⟩
    have row1 : w1.heap[b]? = some (.cells (pkC (p) (s)) 28) := by rw [t1.below.block b hb]; exact ROW0.out
    have bl1 : Below b w w1 := ((Below.refl b w)).trans (t1.below.mono (Nat.le_of_lt hb))
    have OW1 := Lib.hid (own_rd (OW0.out) t1 hlt)
    have OP1 := Lib.hid (own_rd (OP0.out) t1 hlt)
    have rc1 := row_cells row1
    have rf1 := fun k => frozen_of_row w1 b k _ _ row1
    have H1 := Lib.hid h1
    have ROW1 := Lib.hid row1
    have BL1 := Lib.hid bl1
    clear h1 t1 row1 bl1
    go_wp2_with fail
    refine (G2.out _ _ _ H1.out).mono ?_
    rintro e w2 ⟨rfl, ⟨ad2, c2, h2⟩, _, t2⟩
    have row2 : w2.heap[b]? = some (.cells (pkC (p) (s)) 28) := by rw [t2.below.block b hb]; exact ROW1.out
    have bl2 : Below b w w2 := (BL1.out).trans (t2.below.mono (Nat.le_of_lt hb))
    have OW2 := Lib.hid (own_rd (OW1.out) t2 hlt)
    have OP2 := Lib.hid (own_rd (OP1.out) t2 hlt)
    have rc2 := row_cells row2
    have rf2 := fun k => frozen_of_row w2 b k _ _ row2
    have H2 := Lib.hid h2
    have ROW2 := Lib.hid row2
    have BL2 := Lib.hid bl2
    clear h2 t2 row2 bl2 rc1 rf1
    go_wp2_with fail
    refine (G3.out _ _ _ H2.out).mono ?_
    rintro e w3 ⟨rfl, ⟨ad3, c3, h3⟩, t3⟩
    have row3 : w3.heap[b]? = some (.cells (pkC (p) (s)) 28) := by rw [t3.below.block b hb]; exact ROW2.out
    have bl3 : Below b w w3 := (BL2.out).trans (t3.below.mono (Nat.le_of_lt hb))
    have OW3 := Lib.hid (own_rd (OW2.out) t3 hlt)
    have OP3 := Lib.hid (own_rd (OP2.out) t3 hlt)
    have rc3 := row_cells row3
    have rf3 := fun k => frozen_of_row w3 b k _ _ row3
    have H3 := Lib.hid h3
    have ROW3 := Lib.hid row3
    have BL3 := Lib.hid bl3
    clear h3 t3 row3 bl3 rc2 rf2
    go_wp2_with fail
    refine (G4.out _ _ _ ((H3.out).put hB hb (i := 7) (.int .i64 y3))).mono ?_
    rintro e w4 ⟨rfl, ⟨ad4, c4, h4⟩, t4⟩
    have row4 : w4.heap[b]? = some (.cells (pkC ({ p with level := y3 }) (s)) 28) := by rw [t4.below.block b hb]; exact (put_row (p' := { p with level := y3 }) (s' := s) 7 (.int .i64 y3) ROW3.out (by (try rw [← LW.out]); (try rw [← LQ.out]); rfl))
    have bl4 : Below b w w4 := (((BL3.out).setCell (p := ⟨b, 7, none⟩) (Nat.le_refl b) (.int .i64 y3))).trans (t4.below.mono (Nat.le_of_lt hb))
    have OW4 := Lib.hid (own_rd ((own_put (OW3.out) hbw 7 (.int .i64 y3))) t4 hlt)
    have OP4 := Lib.hid (own_rd ((own_put (OP3.out) hbw 7 (.int .i64 y3))) t4 hlt)
    have rc4 := row_cells row4
    have rf4 := fun k => frozen_of_row w4 b k _ _ row4
    have H4 := Lib.hid h4
    have ROW4 := Lib.hid row4
    have BL4 := Lib.hid bl4
    clear h4 t4 row4 bl4 rc3 rf3
    go_wp2_with fail
    refine (G5.out _ _ _ H4.out).mono ?_
    rintro e w5 ⟨rfl, ⟨ad5, c5, h5⟩, t5⟩
    have row5 : w5.heap[b]? = some (.cells (pkC ({ p with level := y3 }) (s)) 28) := by rw [t5.below.block b hb]; exact ROW4.out
    have bl5 : Below b w w5 := (BL4.out).trans (t5.below.mono (Nat.le_of_lt hb))
    have OW5 := Lib.hid (own_rd (OW4.out) t5 hlt)
    have OP5 := Lib.hid (own_rd (OP4.out) t5 hlt)
    have rc5 := row_cells row5
    have rf5 := fun k => frozen_of_row w5 b k _ _ row5
    have H5 := Lib.hid h5
    have ROW5 := Lib.hid row5
    have BL5 := Lib.hid bl5
    clear h5 t5 row5 bl5 rc4 rf4
    go_wp2_with fail
    refine (G6.out _ _ _ ((H5.out).put hB hb (i := 10) (.int .i64 y5))).mono ?_
    rintro e w6 ⟨rfl, ⟨ad6, c6, h6⟩, t6⟩
    have row6 : w6.heap[b]? = some (.cells (pkC ({ p with level := y3, keep := y5 }) (s)) 28) := by rw [t6.below.block b hb]; exact (put_row (p' := { p with level := y3, keep := y5 }) (s' := s) 10 (.int .i64 y5) ROW5.out (by (try rw [← LW.out]); (try rw [← LQ.out]); rfl))
    have bl6 : Below b w w6 := (((BL5.out).setCell (p := ⟨b, 10, none⟩) (Nat.le_refl b) (.int .i64 y5))).trans (t6.below.mono (Nat.le_of_lt hb))
    have OW6 := Lib.hid (own_rd ((own_put (OW5.out) hbw 10 (.int .i64 y5))) t6 hlt)
    have OP6 := Lib.hid (own_rd ((own_put (OP5.out) hbw 10 (.int .i64 y5))) t6 hlt)
    have rc6 := row_cells row6
    have rf6 := fun k => frozen_of_row w6 b k _ _ row6
    have H6 := Lib.hid h6
    have ROW6 := Lib.hid row6
    have BL6 := Lib.hid bl6
    clear h6 t6 row6 bl6 rc5 rf5
    go_wp2_with fail
    refine (G9.out _ _ _ ((((((((((H6.out).put hB hb (i := 8) (.string x6))).put hB hb (i := 9) (.bool cl))).put hB hb (i := 11) (.bool false))).put hB hb (i := 16) (.bool true))).put hB hb (i := 17) (.bool true))).mono ?_
    rintro e w7 ⟨rfl, ⟨ad7, c7, h7⟩, t7⟩
    have row7 : w7.heap[b]? = some (.cells (pkC ({ p with level := y3, keep := y5, cli := x6, clean := cl, hw := false, hu := true, hp := true }) (s)) 28) := by rw [t7.below.block b hb]; exact (put_row (p' := { p with level := y3, keep := y5, cli := x6, clean := cl, hw := false, hu := true, hp := true }) (s' := s) 17 (.bool true) (put_row (p' := { p with level := y3, keep := y5, cli := x6, clean := cl, hw := false, hu := true }) (s' := s) 16 (.bool true) (put_row (p' := { p with level := y3, keep := y5, cli := x6, clean := cl, hw := false }) (s' := s) 11 (.bool false) (put_row (p' := { p with level := y3, keep := y5, cli := x6, clean := cl }) (s' := s) 9 (.bool cl) (put_row (p' := { p with level := y3, keep := y5, cli := x6 }) (s' := s) 8 (.string x6) ROW6.out (by (try rw [← LW.out]); (try rw [← LQ.out]); rfl)) (by (try rw [← LW.out]); (try rw [← LQ.out]); rfl)) (by (try rw [← LW.out]); (try rw [← LQ.out]); rfl)) (by (try rw [← LW.out]); (try rw [← LQ.out]); rfl)) (by (try rw [← LW.out]); (try rw [← LQ.out]); rfl))
    have bl7 : Below b w w7 := (((((((((((BL6.out).setCell (p := ⟨b, 8, none⟩) (Nat.le_refl b) (.string x6))).setCell (p := ⟨b, 9, none⟩) (Nat.le_refl b) (.bool cl))).setCell (p := ⟨b, 11, none⟩) (Nat.le_refl b) (.bool false))).setCell (p := ⟨b, 16, none⟩) (Nat.le_refl b) (.bool true))).setCell (p := ⟨b, 17, none⟩) (Nat.le_refl b) (.bool true))).trans (t7.below.mono (Nat.le_of_lt hb))
    have OW7 := Lib.hid (own_rd ((own_put ((own_put ((own_put ((own_put ((own_put (OW6.out) hbw 8 (.string x6))) hbw 9 (.bool cl))) hbw 11 (.bool false))) hbw 16 (.bool true))) hbw 17 (.bool true))) t7 hlt)
    have OP7 := Lib.hid (own_rd ((own_put ((own_put ((own_put ((own_put ((own_put (OP6.out) hbw 8 (.string x6))) hbw 9 (.bool cl))) hbw 11 (.bool false))) hbw 16 (.bool true))) hbw 17 (.bool true))) t7 hlt)
    have rc7 := row_cells row7
    have rf7 := fun k => frozen_of_row w7 b k _ _ row7
    have H7 := Lib.hid h7
    have ROW7 := Lib.hid row7
    have BL7 := Lib.hid bl7
    clear h7 t7 row7 bl7 rc6 rf6
    go_wp2_with fail
    refine (G10.out _ _ _ ((H7.out).put hB hb (i := 18) (.string x9))).mono ?_
    rintro e w8 ⟨OPA, OPC, rfl, o8, ⟨ad8, c8, h8⟩, t8⟩
    have row8 : w8.heap[b]? = some (.cells (pkC ({ p with level := y3, keep := y5, cli := x6, clean := cl, hw := false, hu := true, hp := true, user := x9 }) (s)) 28) := by rw [t8.below.block b hb]; exact (put_row (p' := { p with level := y3, keep := y5, cli := x6, clean := cl, hw := false, hu := true, hp := true, user := x9 }) (s' := s) 18 (.string x9) ROW7.out (by (try rw [← LW.out]); (try rw [← LQ.out]); rfl))
    have bl8 : Below b w w8 := (((BL7.out).setCell (p := ⟨b, 18, none⟩) (Nat.le_refl b) (.string x9))).trans (t8.below.mono (Nat.le_of_lt hb))
    have OW8 := Lib.hid (own_rd ((own_put (OW7.out) hbw 18 (.string x9))) t8 hlt)
    have OP8 := Lib.hid (own_mono3 o8 (base' := w.heap.size) (by have := BL7.out.size; simp; omega))
    have rc8 := row_cells row8
    have rf8 := fun k => frozen_of_row w8 b k _ _ row8
    have H8 := Lib.hid h8
    have ROW8 := Lib.hid row8
    have BL8 := Lib.hid bl8
    clear h8 t8 row8 bl8 o8 rc7 rf7
    go_wp2_with fail
    go_end0
    unfold ConPost
    rw [HQ.out]
    refine ⟨rfl, ((BL8.out).setCell (p := ⟨b, 19, none⟩) (Nat.le_refl b) (.slice OPA n10 OPC)), { s with uA := OPA, uC := OPC }, (put_row (p' := { p with level := y3, keep := y5, cli := x6, clean := cl, hw := false, hu := true, hp := true, user := x9, pass := x10 }) (s' := { s with uA := OPA, uC := OPC }) 19 (.slice OPA n10 OPC) ROW8.out (by (try rw [← LW.out]); (try rw [← LQ.out]); rfl)), ⟨rfl, rfl, rfl, rfl, rfl, rfl⟩, ?_, ?_⟩
    · have q := (own_put (OW8.out) hbw 19 (.slice OPA n10 OPC))
      exact q
    · have q := (own_put (OP8.out) hbw 19 (.slice OPA n10 OPC))
      exact own_len LQ.out q
  · skip
    have f4 := c4.symm.trans e4
    have f128 := c128.symm.trans e128
    have f64 := c64.symm.trans e64
    obtain ⟨x7, hx7⟩ : ∃ x7, x7 = bytesOfL (gotL R6) := ⟨_, rfl⟩
    obtain ⟨R7, hR7⟩ : ∃ R7, R7 = leftL R6 := ⟨_, rfl⟩
    obtain ⟨x8, hx8⟩ : ∃ x8, x8 = gotL R7 := ⟨_, rfl⟩
    obtain ⟨n8, hn8⟩ : ∃ n8, x8.length = n8 := ⟨_, rfl⟩
    obtain ⟨R8, hR8⟩ : ∃ R8, R8 = leftL R7 := ⟨_, rfl⟩
    have G7 := Lib.hid (fun W a1 d1 => TX W a1 d1 R6 x7 R7 hx7 hR7)
    have G8 := Lib.hid (fun W a1 d1 => LP W a1 d1 R7 x8 n8 R8 hx8 hn8 hR8)
    have LW := Lib.hid hn8
    have LQ : Hid True := Lib.hid trivial
    have HQ : Hid (conP p l = { p with level := y3, keep := y5, cli := x6, clean := cl, hw := true, hu := false, hp := false, wtop := x7, wpay := x8, wqos := wq, wret := wr }) := Lib.hid (by
      obtain ⟨hR2, hR3, hy3, hR4, hf, hR5, hy5, hR6, hx6⟩ := EQ.out
      obtain ⟨hcl, hwr, hwq⟩ := CL.out
      unfold conP
      simp only [← hR2, ← hR3, ← hy3, ← hR4, ← hf, ← hR5, ← hy5, ← hR6, ← hx6, hcl, hwr, hwq, f4, f128, f64, if_true, Bool.false_eq_true, if_false, ← hx7, ← hR7, ← hx8, ← hR8])
    clear EQ CL TX LP c4 c128 c64 f4 f128 f64 hx7 hR7 hx8 hn8 hR8
    go_enter Try.func85, Try.ntmps85
    go_wp2_with fail
    refine (G1.out _ _ _ h0.out).mono ?_
    rintro e w1 ⟨rfl, ⟨ad1, c1, h1⟩, t1⟩
    have row1 : w1.heap[b]? = some (.cells (pkC (p) (s)) 28) := by rw [t1.below.block b hb]; exact ROW0.out
    have bl1 : Below b w w1 := ((Below.refl b w)).trans (t1.below.mono (Nat.le_of_lt hb))
    have OW1 := Lib.hid (own_rd (OW0.out) t1 hlt)
    have OP1 := Lib.hid (own_rd (OP0.out) t1 hlt)
    have rc1 := row_cells row1
    have rf1 := fun k => frozen_of_row w1 b k _ _ row1
    have H1 := Lib.hid h1
    have ROW1 := Lib.hid row1
    have BL1 := Lib.hid bl1
    clear h1 t1 row1 bl1
    go_wp2_with fail
    refine (G2.out _ _ _ H1.out).mono ?_
    rintro e w2 ⟨rfl, ⟨ad2, c2, h2⟩, _, t2⟩
    have row2 : w2.heap[b]? = some (.cells (pkC (p) (s)) 28) := by rw [t2.below.block b hb]; exact ROW1.out
    have bl2 : Below b w w2 := (BL1.out).trans (t2.below.mono (Nat.le_of_lt hb))
    have OW2 := Lib.hid (own_rd (OW1.out) t2 hlt)
    have OP2 := Lib.hid (own_rd (OP1.out) t2 hlt)
    have rc2 := row_cells row2
    have rf2 := fun k => frozen_of_row w2 b k _ _ row2
    have H2 := Lib.hid h2
    have ROW2 := Lib.hid row2
    have BL2 := Lib.hid bl2
    clear h2 t2 row2 bl2 rc1 rf1
    go_wp2_with fail
    refine (G3.out _ _ _ H2.out).mono ?_
    rintro e w3 ⟨rfl, ⟨ad3, c3, h3⟩, t3⟩
    have row3 : w3.heap[b]? = some (.cells (pkC (p) (s)) 28) := by rw [t3.below.block b hb]; exact ROW2.out
    have bl3 : Below b w w3 := (BL2.out).trans (t3.below.mono (Nat.le_of_lt hb))
    have OW3 := Lib.hid (own_rd (OW2.out) t3 hlt)
    have OP3 := Lib.hid (own_rd (OP2.out) t3 hlt)
    have rc3 := row_cells row3
    have rf3 := fun k => frozen_of_row w3 b k _ _ row3
    have H3 := Lib.hid h3
    have ROW3 := Lib.hid row3
    have BL3 := Lib.hid bl3
    clear h3 t3 row3 bl3 rc2 rf2
    go_wp2_with fail
    refine (G4.out _ _ _ ((H3.out).put hB hb (i := 7) (.int .i64 y3))).mono ?_
    rintro e w4 ⟨rfl, ⟨ad4, c4, h4⟩, t4⟩
    have row4 : w4.heap[b]? = some (.cells (pkC ({ p with level := y3 }) (s)) 28) := by rw [t4.below.block b hb]; exact (put_row (p' := { p with level := y3 }) (s' := s) 7 (.int .i64 y3) ROW3.out (by (try rw [← LW.out]); (try rw [← LQ.out]); rfl))
    have bl4 : Below b w w4 := (((BL3.out).setCell (p := ⟨b, 7, none⟩) (Nat.le_refl b) (.int .i64 y3))).trans (t4.below.mono (Nat.le_of_lt hb))
    have OW4 := Lib.hid (own_rd ((own_put (OW3.out) hbw 7 (.int .i64 y3))) t4 hlt)
    have OP4 := Lib.hid (own_rd ((own_put (OP3.out) hbw 7 (.int .i64 y3))) t4 hlt)
    have rc4 := row_cells row4
    have rf4 := fun k => frozen_of_row w4 b k _ _ row4
    have H4 := Lib.hid h4
    have ROW4 := Lib.hid row4
    have BL4 := Lib.hid bl4
    clear h4 t4 row4 bl4 rc3 rf3
    go_wp2_with fail
    refine (G5.out _ _ _ H4.out).mono ?_
    rintro e w5 ⟨rfl, ⟨ad5, c5, h5⟩, t5⟩
    have row5 : w5.heap[b]? = some (.cells (pkC ({ p with level := y3 }) (s)) 28) := by rw [t5.below.block b hb]; exact ROW4.out
    have bl5 : Below b w w5 := (BL4.out).trans (t5.below.mono (Nat.le_of_lt hb))
    have OW5 := Lib.hid (own_rd (OW4.out) t5 hlt)
    have OP5 := Lib.hid (own_rd (OP4.out) t5 hlt)
    have rc5 := row_cells row5
    have rf5 := fun k => frozen_of_row w5 b k _ _ row5
    have H5 := Lib.hid h5
    have ROW5 := Lib.hid row5
    have BL5 := Lib.hid bl5
    clear h5 t5 row5 bl5 rc4 rf4
    go_wp2_with fail
    refine (G6.out _ _ _ ((H5.out).put hB hb (i := 10) (.int .i64 y5))).mono ?_
    rintro e w6 ⟨rfl, ⟨ad6, c6, h6⟩, t6⟩
    have row6 : w6.heap[b]? = some (.cells (pkC ({ p with level := y3, keep := y5 }) (s)) 28) := by rw [t6.below.block b hb]; exact (put_row (p' := { p with level := y3, keep := y5 }) (s' := s) 10 (.int .i64 y5) ROW5.out (by (try rw [← LW.out]); (try rw [← LQ.out]); rfl))
    have bl6 : Below b w w6 := (((BL5.out).setCell (p := ⟨b, 10, none⟩) (Nat.le_refl b) (.int .i64 y5))).trans (t6.below.mono (Nat.le_of_lt hb))
    have OW6 := Lib.hid (own_rd ((own_put (OW5.out) hbw 10 (.int .i64 y5))) t6 hlt)
    have OP6 := Lib.hid (own_rd ((own_put (OP5.out) hbw 10 (.int .i64 y5))) t6 hlt)
    have rc6 := row_cells row6
    have rf6 := fun k => frozen_of_row w6 b k _ _ row6
    have H6 := Lib.hid h6
    have ROW6 := Lib.hid row6
    have BL6 := Lib.hid bl6
    clear h6 t6 row6 bl6 rc5 rf5
    go_wp2_with fail
    refine (G7.out _ _ _ ((((((((((H6.out).put hB hb (i := 8) (.string x6))).put hB hb (i := 9) (.bool cl))).put hB hb (i := 11) (.bool true))).put hB hb (i := 16) (.bool false))).put hB hb (i := 17) (.bool false))).mono ?_
    rintro e w7 ⟨rfl, ⟨ad7, c7, h7⟩, t7⟩
    have row7 : w7.heap[b]? = some (.cells (pkC ({ p with level := y3, keep := y5, cli := x6, clean := cl, hw := true, hu := false, hp := false }) (s)) 28) := by rw [t7.below.block b hb]; exact (put_row (p' := { p with level := y3, keep := y5, cli := x6, clean := cl, hw := true, hu := false, hp := false }) (s' := s) 17 (.bool false) (put_row (p' := { p with level := y3, keep := y5, cli := x6, clean := cl, hw := true, hu := false }) (s' := s) 16 (.bool false) (put_row (p' := { p with level := y3, keep := y5, cli := x6, clean := cl, hw := true }) (s' := s) 11 (.bool true) (put_row (p' := { p with level := y3, keep := y5, cli := x6, clean := cl }) (s' := s) 9 (.bool cl) (put_row (p' := { p with level := y3, keep := y5, cli := x6 }) (s' := s) 8 (.string x6) ROW6.out (by (try rw [← LW.out]); (try rw [← LQ.out]); rfl)) (by (try rw [← LW.out]); (try rw [← LQ.out]); rfl)) (by (try rw [← LW.out]); (try rw [← LQ.out]); rfl)) (by (try rw [← LW.out]); (try rw [← LQ.out]); rfl)) (by (try rw [← LW.out]); (try rw [← LQ.out]); rfl))
    have bl7 : Below b w w7 := (((((((((((BL6.out).setCell (p := ⟨b, 8, none⟩) (Nat.le_refl b) (.string x6))).setCell (p := ⟨b, 9, none⟩) (Nat.le_refl b) (.bool cl))).setCell (p := ⟨b, 11, none⟩) (Nat.le_refl b) (.bool true))).setCell (p := ⟨b, 16, none⟩) (Nat.le_refl b) (.bool false))).setCell (p := ⟨b, 17, none⟩) (Nat.le_refl b) (.bool false))).trans (t7.below.mono (Nat.le_of_lt hb))
    have OW7 := Lib.hid (own_rd ((own_put ((own_put ((own_put ((own_put ((own_put (OW6.out) hbw 8 (.string x6))) hbw 9 (.bool cl))) hbw 11 (.bool true))) hbw 16 (.bool false))) hbw 17 (.bool false))) t7 hlt)
    have OP7 := Lib.hid (own_rd ((own_put ((own_put ((own_put ((own_put ((own_put (OP6.out) hbw 8 (.string x6))) hbw 9 (.bool cl))) hbw 11 (.bool true))) hbw 16 (.bool false))) hbw 17 (.bool false))) t7 hlt)
    have rc7 := row_cells row7
    have rf7 := fun k => frozen_of_row w7 b k _ _ row7
    have H7 := Lib.hid h7
    have ROW7 := Lib.hid row7
    have BL7 := Lib.hid bl7
    clear h7 t7 row7 bl7 rc6 rf6
    go_wp2_with fail
    refine (G8.out _ _ _ ((H7.out).put hB hb (i := 12) (.string x7))).mono ?_
    rintro e w8 ⟨OWA, OWC, rfl, o8, ⟨ad8, c8, h8⟩, t8⟩
    have row8 : w8.heap[b]? = some (.cells (pkC ({ p with level := y3, keep := y5, cli := x6, clean := cl, hw := true, hu := false, hp := false, wtop := x7 }) (s)) 28) := by rw [t8.below.block b hb]; exact (put_row (p' := { p with level := y3, keep := y5, cli := x6, clean := cl, hw := true, hu := false, hp := false, wtop := x7 }) (s' := s) 12 (.string x7) ROW7.out (by (try rw [← LW.out]); (try rw [← LQ.out]); rfl))
    have bl8 : Below b w w8 := (((BL7.out).setCell (p := ⟨b, 12, none⟩) (Nat.le_refl b) (.string x7))).trans (t8.below.mono (Nat.le_of_lt hb))
    have OW8 := Lib.hid (own_mono3 o8 (base' := w.heap.size) (by have := BL7.out.size; simp; omega))
    have OP8 := Lib.hid (own_rd ((own_put (OP7.out) hbw 12 (.string x7))) t8 hlt)
    have rc8 := row_cells row8
    have rf8 := fun k => frozen_of_row w8 b k _ _ row8
    have H8 := Lib.hid h8
    have ROW8 := Lib.hid row8
    have BL8 := Lib.hid bl8
    clear h8 t8 row8 bl8 o8 rc7 rf7
    go_wp2_with fail
    go_end0
    unfold ConPost
    rw [HQ.out]
    refine ⟨rfl, ((((((BL8.out).setCell (p := ⟨b, 13, none⟩) (Nat.le_refl b) (.slice OWA n8 OWC))).setCell (p := ⟨b, 14, none⟩) (Nat.le_refl b) (.int .i64 wq))).setCell (p := ⟨b, 15, none⟩) (Nat.le_refl b) (.bool wr)), { s with wA := OWA, wC := OWC }, (put_row (p' := { p with level := y3, keep := y5, cli := x6, clean := cl, hw := true, hu := false, hp := false, wtop := x7, wpay := x8, wqos := wq, wret := wr }) (s' := { s with wA := OWA, wC := OWC }) 15 (.bool wr) (put_row (p' := { p with level := y3, keep := y5, cli := x6, clean := cl, hw := true, hu := false, hp := false, wtop := x7, wpay := x8, wqos := wq }) (s' := { s with wA := OWA, wC := OWC }) 14 (.int .i64 wq) (put_row (p' := { p with level := y3, keep := y5, cli := x6, clean := cl, hw := true, hu := false, hp := false, wtop := x7, wpay := x8 }) (s' := { s with wA := OWA, wC := OWC }) 13 (.slice OWA n8 OWC) ROW8.out (by (try rw [← LW.out]); (try rw [← LQ.out]); rfl)) (by (try rw [← LW.out]); (try rw [← LQ.out]); rfl)) (by (try rw [← LW.out]); (try rw [← LQ.out]); rfl)), ⟨rfl, rfl, rfl, rfl, rfl, rfl⟩, ?_, ?_⟩
    · have q := (own_put ((own_put ((own_put (OW8.out) hbw 13 (.slice OWA n8 OWC))) hbw 14 (.int .i64 wq))) hbw 15 (.bool wr))
      exact own_len LW.out q
    · have q := (own_put ((own_put ((own_put (OP8.out) hbw 13 (.slice OWA n8 OWC))) hbw 14 (.int .i64 wq))) hbw 15 (.bool wr))
      exact q
  · skip
    have f4 := c4.symm.trans e4
    have f128 := c128.symm.trans e128
    have f64 := c64.symm.trans e64
    obtain ⟨x7, hx7⟩ : ∃ x7, x7 = bytesOfL (gotL R6) := ⟨_, rfl⟩
    obtain ⟨R7, hR7⟩ : ∃ R7, R7 = leftL R6 := ⟨_, rfl⟩
    obtain ⟨x8, hx8⟩ : ∃ x8, x8 = gotL R7 := ⟨_, rfl⟩
    obtain ⟨n8, hn8⟩ : ∃ n8, x8.length = n8 := ⟨_, rfl⟩
    obtain ⟨R8, hR8⟩ : ∃ R8, R8 = leftL R7 := ⟨_, rfl⟩
    have G7 := Lib.hid (fun W a1 d1 => TX W a1 d1 R6 x7 R7 hx7 hR7)
    have G8 := Lib.hid (fun W a1 d1 => LP W a1 d1 R7 x8 n8 R8 hx8 hn8 hR8)
    have LW := Lib.hid hn8
    obtain ⟨x10, hx10⟩ : ∃ x10, x10 = gotL R8 := ⟨_, rfl⟩
    obtain ⟨n10, hn10⟩ : ∃ n10, x10.length = n10 := ⟨_, rfl⟩
    obtain ⟨R10, hR10⟩ : ∃ R10, R10 = leftL R8 := ⟨_, rfl⟩
    have G10 := Lib.hid (fun W a1 d1 => LP W a1 d1 R8 x10 n10 R10 hx10 hn10 hR10)
    have LQ := Lib.hid hn10
    have HQ : Hid (conP p l = { p with level := y3, keep := y5, cli := x6, clean := cl, hw := true, hu := false, hp := true, wtop := x7, wpay := x8, wqos := wq, wret := wr, pass := x10 }) := Lib.hid (by
      obtain ⟨hR2, hR3, hy3, hR4, hf, hR5, hy5, hR6, hx6⟩ := EQ.out
      obtain ⟨hcl, hwr, hwq⟩ := CL.out
      unfold conP
      simp only [← hR2, ← hR3, ← hy3, ← hR4, ← hf, ← hR5, ← hy5, ← hR6, ← hx6, hcl, hwr, hwq, f4, f128, f64, if_true, Bool.false_eq_true, if_false, ← hx7, ← hR7, ← hx8, ← hR8, ← hx10])
    clear EQ CL TX LP c4 c128 c64 f4 f128 f64 hx7 hR7 hx8 hn8 hR8 hx10 hn10 hR10
    go_enter Try.func85, Try.ntmps85
    go_wp2_with fail
    refine (G1.out _ _ _ h0.out).mono ?_
    rintro e w1 ⟨rfl, ⟨ad1, c1, h1⟩, t1⟩
    have row1 : w1.heap[b]? = some (.cells (pkC (p) (s)) 28) := by rw [t1.below.block b hb]; exact ROW0.out
    have bl1 : Below b w w1 := ((Below.refl b w)).trans (t1.below.mono (Nat.le_of_lt hb))
    have OW1 := Lib.hid (own_rd (OW0.out) t1 hlt)
    have OP1 := Lib.hid (own_rd (OP0.out) t1 hlt)
    have rc1 := row_cells row1
    have rf1 := fun k => frozen_of_row w1 b k _ _ row1
    have H1 := Lib.hid h1
    have ROW1 := Lib.hid row1
    have BL1 := Lib.hid bl1
    clear h1 t1 row1 bl1
    go_wp2_with fail
    refine (G2.out _ _ _ H1.out).mono ?_
    rintro e w2 ⟨rfl, ⟨ad2, c2, h2⟩, _, t2⟩
    have row2 : w2.heap[b]? = some (.cells (pkC (p) (s)) 28) := by rw [t2.below.block b hb]; exact ROW1.out
    have bl2 : Below b w w2 := (BL1.out).trans (t2.below.mono (Nat.le_of_lt hb))
    have OW2 := Lib.hid (own_rd (OW1.out) t2 hlt)
    have OP2 := Lib.hid (own_rd (OP1.out) t2 hlt)
    have rc2 := row_cells row2
    have rf2 := fun k => frozen_of_row w2 b k _ _ row2
    have H2 := Lib.hid h2
    have ROW2 := Lib.hid row2
    have BL2 := Lib.hid bl2
    clear h2 t2 row2 bl2 rc1 rf1
    go_wp2_with fail
    refine (G3.out _ _ _ H2.out).mono ?_
    rintro e w3 ⟨rfl, ⟨ad3, c3, h3⟩, t3⟩
    have row3 : w3.heap[b]? = some (.cells (pkC (p) (s)) 28) := by rw [t3.below.block b hb]; exact ROW2.out
    have bl3 : Below b w w3 := (BL2.out).trans (t3.below.mono (Nat.le_of_lt hb))
    have OW3 := Lib.hid (own_rd (OW2.out) t3 hlt)
    have OP3 := Lib.hid (own_rd (OP2.out) t3 hlt)
    have rc3 := row_cells row3
    have rf3 := fun k => frozen_of_row w3 b k _ _ row3
    have H3 := Lib.hid h3
    have ROW3 := Lib.hid row3
    have BL3 := Lib.hid bl3
    clear h3 t3 row3 bl3 rc2 rf2
    go_wp2_with fail
    refine (G4.out _ _ _ ((H3.out).put hB hb (i := 7) (.int .i64 y3))).mono ?_
    rintro e w4 ⟨rfl, ⟨ad4, c4, h4⟩, t4⟩
    have row4 : w4.heap[b]? = some (.cells (pkC ({ p with level := y3 }) (s)) 28) := by rw [t4.below.block b hb]; exact (put_row (p' := { p with level := y3 }) (s' := s) 7 (.int .i64 y3) ROW3.out (by (try rw [← LW.out]); (try rw [← LQ.out]); rfl))
    have bl4 : Below b w w4 := (((BL3.out).setCell (p := ⟨b, 7, none⟩) (Nat.le_refl b) (.int .i64 y3))).trans (t4.below.mono (Nat.le_of_lt hb))
    have OW4 := Lib.hid (own_rd ((own_put (OW3.out) hbw 7 (.int .i64 y3))) t4 hlt)
    have OP4 := Lib.hid (own_rd ((own_put (OP3.out) hbw 7 (.int .i64 y3))) t4 hlt)
    have rc4 := row_cells row4
    have rf4 := fun k => frozen_of_row w4 b k _ _ row4
    have H4 := Lib.hid h4
    have ROW4 := Lib.hid row4
    have BL4 := Lib.hid bl4
    clear h4 t4 row4 bl4 rc3 rf3
    go_wp2_with fail
    refine (G5.out _ _ _ H4.out).mono ?_
    rintro e w5 ⟨rfl, ⟨ad5, c5, h5⟩, t5⟩
    have row5 : w5.heap[b]? = some (.cells (pkC ({ p with level := y3 }) (s)) 28) := by rw [t5.below.block b hb]; exact ROW4.out
    have bl5 : Below b w w5 := (BL4.out).trans (t5.below.mono (Nat.le_of_lt hb))
    have OW5 := Lib.hid (own_rd (OW4.out) t5 hlt)
    have OP5 := Lib.hid (own_rd (OP4.out) t5 hlt)
    have rc5 := row_cells row5
    have rf5 := fun k => frozen_of_row w5 b k _ _ row5
    have H5 := Lib.hid h5
    have ROW5 := Lib.hid row5
    have BL5 := Lib.hid bl5
    clear h5 t5 row5 bl5 rc4 rf4
    go_wp2_with fail
    refine (G6.out _ _ _ ((H5.out).put hB hb (i := 10) (.int .i64 y5))).mono ?_
    rintro e w6 ⟨rfl, ⟨ad6, c6, h6⟩, t6⟩
    have row6 : w6.heap[b]? = some (.cells (pkC ({ p with level := y3, keep := y5 }) (s)) 28) := by rw [t6.below.block b hb]; exact (put_row (p' := { p with level := y3, keep := y5 }) (s' := s) 10 (.int .i64 y5) ROW5.out (by (try rw [← LW.out]); (try rw [← LQ.out]); rfl))
    have bl6 : Below b w w6 := (((BL5.out).setCell (p := ⟨b, 10, none⟩) (Nat.le_refl b) (.int .i64 y5))).trans (t6.below.mono (Nat.le_of_lt hb))
    have OW6 := Lib.hid (own_rd ((own_put (OW5.out) hbw 10 (.int .i64 y5))) t6 hlt)
    have OP6 := Lib.hid (own_rd ((own_put (OP5.out) hbw 10 (.int .i64 y5))) t6 hlt)
    have rc6 := row_cells row6
    have rf6 := fun k => frozen_of_row w6 b k _ _ row6
    have H6 := Lib.hid h6
    have ROW6 := Lib.hid row6
    have BL6 := Lib.hid bl6
    clear h6 t6 row6 bl6 rc5 rf5
    go_wp2_with fail
    refine (G7.out _ _ _ ((((((((((H6.out).put hB hb (i := 8) (.string x6))).put hB hb (i := 9) (.bool cl))).put hB hb (i := 11) (.bool true))).put hB hb (i := 16) (.bool false))).put hB hb (i := 17) (.bool true))).mono ?_
    rintro e w7 ⟨rfl, ⟨ad7, c7, h7⟩, t7⟩
    have row7 : w7.heap[b]? = some (.cells (pkC ({ p with level := y3, keep := y5, cli := x6, clean := cl, hw := true, hu := false, hp := true }) (s)) 28) := by rw [t7.below.block b hb]; exact (put_row (p' := { p with level := y3, keep := y5, cli := x6, clean := cl, hw := true, hu := false, hp := true }) (s' := s) 17 (.bool true) (put_row (p' := { p with level := y3, keep := y5, cli := x6, clean := cl, hw := true, hu := false }) (s' := s) 16 (.bool false) (put_row (p' := { p with level := y3, keep := y5, cli := x6, clean := cl, hw := true }) (s' := s) 11 (.bool true) (put_row (p' := { p with level := y3, keep := y5, cli := x6, clean := cl }) (s' := s) 9 (.bool cl) (put_row (p' := { p with level := y3, keep := y5, cli := x6 }) (s' := s) 8 (.string x6) ROW6.out (by (try rw [← LW.out]); (try rw [← LQ.out]); rfl)) (by (try rw [← LW.out]); (try rw [← LQ.out]); rfl)) (by (try rw [← LW.out]); (try rw [← LQ.out]); rfl)) (by (try rw [← LW.out]); (try rw [← LQ.out]); rfl)) (by (try rw [← LW.out]); (try rw [← LQ.out]); rfl))
    have bl7 : Below b w w7 := (((((((((((BL6.out).setCell (p := ⟨b, 8, none⟩) (Nat.le_refl b) (.string x6))).setCell (p := ⟨b, 9, none⟩) (Nat.le_refl b) (.bool cl))).setCell (p := ⟨b, 11, none⟩) (Nat.le_refl b) (.bool true))).setCell (p := ⟨b, 16, none⟩) (Nat.le_refl b) (.bool false))).setCell (p := ⟨b, 17, none⟩) (Nat.le_refl b) (.bool true))).trans (t7.below.mono (Nat.le_of_lt hb))
    have OW7 := Lib.hid (own_rd ((own_put ((own_put ((own_put ((own_put ((own_put (OW6.out) hbw 8 (.string x6))) hbw 9 (.bool cl))) hbw 11 (.bool true))) hbw 16 (.bool false))) hbw 17 (.bool true))) t7 hlt)
    have OP7 := Lib.hid (own_rd ((own_put ((own_put ((own_put ((own_put ((own_put (OP6.out) hbw 8 (.string x6))) hbw 9 (.bool cl))) hbw 11 (.bool true))) hbw 16 (.bool false))) hbw 17 (.bool true))) t7 hlt)
    have rc7 := row_cells row7
    have rf7 := fun k => frozen_of_row w7 b k _ _ row7
    have H7 := Lib.hid h7
    have ROW7 := Lib.hid row7
    have BL7 := Lib.hid bl7
    clear h7 t7 row7 bl7 rc6 rf6
    go_wp2_with fail
    refine (G8.out _ _ _ ((H7.out).put hB hb (i := 12) (.string x7))).mono ?_
    rintro e w8 ⟨OWA, OWC, rfl, o8, ⟨ad8, c8, h8⟩, t8⟩
    have row8 : w8.heap[b]? = some (.cells (pkC ({ p with level := y3, keep := y5, cli := x6, clean := cl, hw := true, hu := false, hp := true, wtop := x7 }) (s)) 28) := by rw [t8.below.block b hb]; exact (put_row (p' := { p with level := y3, keep := y5, cli := x6, clean := cl, hw := true, hu := false, hp := true, wtop := x7 }) (s' := s) 12 (.string x7) ROW7.out (by (try rw [← LW.out]); (try rw [← LQ.out]); rfl))
    have bl8 : Below b w w8 := (((BL7.out).setCell (p := ⟨b, 12, none⟩) (Nat.le_refl b) (.string x7))).trans (t8.below.mono (Nat.le_of_lt hb))
    have OW8 := Lib.hid (own_mono3 o8 (base' := w.heap.size) (by have := BL7.out.size; simp; omega))
    have OP8 := Lib.hid (own_rd ((own_put (OP7.out) hbw 12 (.string x7))) t8 hlt)
    have rc8 := row_cells row8
    have rf8 := fun k => frozen_of_row w8 b k _ _ row8
    have H8 := Lib.hid h8
    have ROW8 := Lib.hid row8
    have BL8 := Lib.hid bl8
    clear h8 t8 row8 bl8 o8 rc7 rf7
    go_wp2_with fail
    refine (G10.out _ _ _ ((((((H8.out).put hB hb (i := 13) (.slice OWA n8 OWC))).put hB hb (i := 14) (.int .i64 wq))).put hB hb (i := 15) (.bool wr))).mono ?_
    rintro e w9 ⟨OPA, OPC, rfl, o9, ⟨ad9, c9, h9⟩, t9⟩
    have row9 : w9.heap[b]? = some (.cells (pkC ({ p with level := y3, keep := y5, cli := x6, clean := cl, hw := true, hu := false, hp := true, wtop := x7, wpay := x8, wqos := wq, wret := wr }) ({ s with wA := OWA, wC := OWC })) 28) := by rw [t9.below.block b hb]; exact (put_row (p' := { p with level := y3, keep := y5, cli := x6, clean := cl, hw := true, hu := false, hp := true, wtop := x7, wpay := x8, wqos := wq, wret := wr }) (s' := { s with wA := OWA, wC := OWC }) 15 (.bool wr) (put_row (p' := { p with level := y3, keep := y5, cli := x6, clean := cl, hw := true, hu := false, hp := true, wtop := x7, wpay := x8, wqos := wq }) (s' := { s with wA := OWA, wC := OWC }) 14 (.int .i64 wq) (put_row (p' := { p with level := y3, keep := y5, cli := x6, clean := cl, hw := true, hu := false, hp := true, wtop := x7, wpay := x8 }) (s' := { s with wA := OWA, wC := OWC }) 13 (.slice OWA n8 OWC) ROW8.out (by (try rw [← LW.out]); (try rw [← LQ.out]); rfl)) (by (try rw [← LW.out]); (try rw [← LQ.out]); rfl)) (by (try rw [← LW.out]); (try rw [← LQ.out]); rfl))
    have bl9 : Below b w w9 := (((((((BL8.out).setCell (p := ⟨b, 13, none⟩) (Nat.le_refl b) (.slice OWA n8 OWC))).setCell (p := ⟨b, 14, none⟩) (Nat.le_refl b) (.int .i64 wq))).setCell (p := ⟨b, 15, none⟩) (Nat.le_refl b) (.bool wr))).trans (t9.below.mono (Nat.le_of_lt hb))
    have OW9 := Lib.hid (own_rd ((own_put ((own_put ((own_put (OW8.out) hbw 13 (.slice OWA n8 OWC))) hbw 14 (.int .i64 wq))) hbw 15 (.bool wr))) t9 hlt)
    have OP9 := Lib.hid (own_mono3 o9 (base' := w.heap.size) (by have := BL8.out.size; simp; omega))
    have rc9 := row_cells row9
    have rf9 := fun k => frozen_of_row w9 b k _ _ row9
    have H9 := Lib.hid h9
    have ROW9 := Lib.hid row9
    have BL9 := Lib.hid bl9
    clear h9 t9 row9 bl9 o9 rc8 rf8
    go_wp2_with fail
    go_end0
    unfold ConPost
    rw [HQ.out]
    refine ⟨rfl, ((BL9.out).setCell (p := ⟨b, 19, none⟩) (Nat.le_refl b) (.slice OPA n10 OPC)), { s with wA := OWA, wC := OWC, uA := OPA, uC := OPC }, (put_row (p' := { p with level := y3, keep := y5, cli := x6, clean := cl, hw := true, hu := false, hp := true, wtop := x7, wpay := x8, wqos := wq, wret := wr, pass := x10 }) (s' := { s with wA := OWA, wC := OWC, uA := OPA, uC := OPC }) 19 (.slice OPA n10 OPC) ROW9.out (by (try rw [← LW.out]); (try rw [← LQ.out]); rfl)), ⟨rfl, rfl, rfl, rfl, rfl, rfl⟩, ?_, ?_⟩
    · have q := (own_put (OW9.out) hbw 19 (.slice OPA n10 OPC))
      exact own_len LW.out q
    · have q := (own_put (OP9.out) hbw 19 (.slice OPA n10 OPC))
      exact own_len LQ.out q
  · skip
    have f4 := c4.symm.trans e4
    have f128 := c128.symm.trans e128
    have f64 := c64.symm.trans e64
    obtain ⟨x7, hx7⟩ : ∃ x7, x7 = bytesOfL (gotL R6) := ⟨_, rfl⟩
    obtain ⟨R7, hR7⟩ : ∃ R7, R7 = leftL R6 := ⟨_, rfl⟩
    obtain ⟨x8, hx8⟩ : ∃ x8, x8 = gotL R7 := ⟨_, rfl⟩
    obtain ⟨n8, hn8⟩ : ∃ n8, x8.length = n8 := ⟨_, rfl⟩
    obtain ⟨R8, hR8⟩ : ∃ R8, R8 = leftL R7 := ⟨_, rfl⟩
    have G7 := Lib.hid (fun W a1 d1 => TX W a1 d1 R6 x7 R7 hx7 hR7)
    have G8 := Lib.hid (fun W a1 d1 => LP W a1 d1 R7 x8 n8 R8 hx8 hn8 hR8)
    have LW := Lib.hid hn8
    obtain ⟨x9, hx9⟩ : ∃ x9, x9 = bytesOfL (gotL R8) := ⟨_, rfl⟩
    obtain ⟨R9, hR9⟩ : ∃ R9, R9 = leftL R8 := ⟨_, rfl⟩
    have G9 := Lib.hid (fun W a1 d1 => TX W a1 d1 R8 x9 R9 hx9 hR9)
    have LQ : Hid True := Lib.hid trivial
    have HQ : Hid (conP p l = { p with level := y3, keep := y5, cli := x6, clean := cl, hw := true, hu := true, hp := false, wtop := x7, wpay := x8, wqos := wq, wret := wr, user := x9 }) := Lib.hid (by
      obtain ⟨hR2, hR3, hy3, hR4, hf, hR5, hy5, hR6, hx6⟩ := EQ.out
      obtain ⟨hcl, hwr, hwq⟩ := CL.out
      unfold conP
      simp only [← hR2, ← hR3, ← hy3, ← hR4, ← hf, ← hR5, ← hy5, ← hR6, ← hx6, hcl, hwr, hwq, f4, f128, f64, if_true, Bool.false_eq_true, if_false, ← hx7, ← hR7, ← hx8, ← hR8, ← hx9, ← hR9])
    clear EQ CL TX LP c4 c128 c64 f4 f128 f64 hx7 hR7 hx8 hn8 hR8 hx9 hR9
    go_enter Try.func85, Try.ntmps85
    go_wp2_with fail
    refine (G1.out _ _ _ h0.out).mono ?_
    rintro e w1 ⟨rfl, ⟨ad1, c1, h1⟩, t1⟩
    have row1 : w1.heap[b]? = some (.cells (pkC (p) (s)) 28) := by rw [t1.below.block b hb]; exact ROW0.out
    have bl1 : Below b w w1 := ((Below.refl b w)).trans (t1.below.mono (Nat.le_of_lt hb))
    have OW1 := Lib.hid (own_rd (OW0.out) t1 hlt)
    have OP1 := Lib.hid (own_rd (OP0.out) t1 hlt)
    have rc1 := row_cells row1
    have rf1 := fun k => frozen_of_row w1 b k _ _ row1
    have H1 := Lib.hid h1
    have ROW1 := Lib.hid row1
    have BL1 := Lib.hid bl1
    clear h1 t1 row1 bl1
    go_wp2_with fail
    refine (G2.out _ _ _ H1.out).mono ?_
    rintro e w2 ⟨rfl, ⟨ad2, c2, h2⟩, _, t2⟩
    have row2 : w2.heap[b]? = some (.cells (pkC (p) (s)) 28) := by rw [t2.below.block b hb]; exact ROW1.out
    have bl2 : Below b w w2 := (BL1.out).trans (t2.below.mono (Nat.le_of_lt hb))
    have OW2 := Lib.hid (own_rd (OW1.out) t2 hlt)
    have OP2 := Lib.hid (own_rd (OP1.out) t2 hlt)
    have rc2 := row_cells row2
    have rf2 := fun k => frozen_of_row w2 b k _ _ row2
    have H2 := Lib.hid h2
    have ROW2 := Lib.hid row2
    have BL2 := Lib.hid bl2
    clear h2 t2 row2 bl2 rc1 rf1
    go_wp2_with fail
    refine (G3.out _ _ _ H2.out).mono ?_
    rintro e w3 ⟨rfl, ⟨ad3, c3, h3⟩, t3⟩
    have row3 : w3.heap[b]? = some (.cells (pkC (p) (s)) 28) := by rw [t3.below.block b hb]; exact ROW2.out
    have bl3 : Below b w w3 := (BL2.out).trans (t3.below.mono (Nat.le_of_lt hb))
    have OW3 := Lib.hid (own_rd (OW2.out) t3 hlt)
    have OP3 := Lib.hid (own_rd (OP2.out) t3 hlt)
    have rc3 := row_cells row3
    have rf3 := fun k => frozen_of_row w3 b k _ _ row3
    have H3 := Lib.hid h3
    have ROW3 := Lib.hid row3
    have BL3 := Lib.hid bl3
    clear h3 t3 row3 bl3 rc2 rf2
    go_wp2_with fail
    refine (G4.out _ _ _ ((H3.out).put hB hb (i := 7) (.int .i64 y3))).mono ?_
    rintro e w4 ⟨rfl, ⟨ad4, c4, h4⟩, t4⟩
    have row4 : w4.heap[b]? = some (.cells (pkC ({ p with level := y3 }) (s)) 28) := by rw [t4.below.block b hb]; exact (put_row (p' := { p with level := y3 }) (s' := s) 7 (.int .i64 y3) ROW3.out (by (try rw [← LW.out]); (try rw [← LQ.out]); rfl))
    have bl4 : Below b w w4 := (((BL3.out).setCell (p := ⟨b, 7, none⟩) (Nat.le_refl b) (.int .i64 y3))).trans (t4.below.mono (Nat.le_of_lt hb))
    have OW4 := Lib.hid (own_rd ((own_put (OW3.out) hbw 7 (.int .i64 y3))) t4 hlt)
    have OP4 := Lib.hid (own_rd ((own_put (OP3.out) hbw 7 (.int .i64 y3))) t4 hlt)
    have rc4 := row_cells row4
    have rf4 := fun k => frozen_of_row w4 b k _ _ row4
    have H4 := Lib.hid h4
    have ROW4 := Lib.hid row4
    have BL4 := Lib.hid bl4
    clear h4 t4 row4 bl4 rc3 rf3
    go_wp2_with fail
    refine (G5.out _ _ _ H4.out).mono ?_
    rintro e w5 ⟨rfl, ⟨ad5, c5, h5⟩, t5⟩
    have row5 : w5.heap[b]? = some (.cells (pkC ({ p with level := y3 }) (s)) 28) := by rw [t5.below.block b hb]; exact ROW4.out
    have bl5 : Below b w w5 := (BL4.out).trans (t5.below.mono (Nat.le_of_lt hb))
    have OW5 := Lib.hid (own_rd (OW4.out) t5 hlt)
    have OP5 := Lib.hid (own_rd (OP4.out) t5 hlt)
    have rc5 := row_cells row5
    have rf5 := fun k => frozen_of_row w5 b k _ _ row5
    have H5 := Lib.hid h5
    have ROW5 := Lib.hid row5
    have BL5 := Lib.hid bl5
    clear h5 t5 row5 bl5 rc4 rf4
    go_wp2_with fail
    refine (G6.out _ _ _ ((H5.out).put hB hb (i := 10) (.int .i64 y5))).mono ?_
    rintro e w6 ⟨rfl, ⟨ad6, c6, h6⟩, t6⟩
    have row6 : w6.heap[b]? = some (.cells (pkC ({ p with level := y3, keep := y5 }) (s)) 28) := by rw [t6.below.block b hb]; exact (put_row (p' := { p with level := y3, keep := y5 }) (s' := s) 10 (.int .i64 y5) ROW5.out (by (try rw [← LW.out]); (try rw [← LQ.out]); rfl))
    have bl6 : Below b w w6 := (((BL5.out).setCell (p := ⟨b, 10, none⟩) (Nat.le_refl b) (.int .i64 y5))).trans (t6.below.mono (Nat.le_of_lt hb))
    have OW6 := Lib.hid (own_rd ((own_put (OW5.out) hbw 10 (.int .i64 y5))) t6 hlt)
    have OP6 := Lib.hid (own_rd ((own_put (OP5.out) hbw 10 (.int .i64 y5))) t6 hlt)
    have rc6 := row_cells row6
    have rf6 := fun k => frozen_of_row w6 b k _ _ row6
    have H6 := Lib.hid h6
    have ROW6 := Lib.hid row6
    have BL6 := Lib.hid bl6
    clear h6 t6 row6 bl6 rc5 rf5
    go_wp2_with fail
    refine (G7.out _ _ _ ((((((((((H6.out).put hB hb (i := 8) (.string x6))).put hB hb (i := 9) (.bool cl))).put hB hb (i := 11) (.bool true))).put hB hb (i := 16) (.bool true))).put hB hb (i := 17) (.bool false))).mono ?_
    rintro e w7 ⟨rfl, ⟨ad7, c7, h7⟩, t7⟩
    have row7 : w7.heap[b]? = some (.cells (pkC ({ p with level := y3, keep := y5, cli := x6, clean := cl, hw := true, hu := true, hp := false }) (s)) 28) := by rw [t7.below.block b hb]; exact (put_row (p' := { p with level := y3, keep := y5, cli := x6, clean := cl, hw := true, hu := true, hp := false }) (s' := s) 17 (.bool false) (put_row (p' := { p with level := y3, keep := y5, cli := x6, clean := cl, hw := true, hu := true }) (s' := s) 16 (.bool true) (put_row (p' := { p with level := y3, keep := y5, cli := x6, clean := cl, hw := true }) (s' := s) 11 (.bool true) (put_row (p' := { p with level := y3, keep := y5, cli := x6, clean := cl }) (s' := s) 9 (.bool cl) (put_row (p' := { p with level := y3, keep := y5, cli := x6 }) (s' := s) 8 (.string x6) ROW6.out (by (try rw [← LW.out]); (try rw [← LQ.out]); rfl)) (by (try rw [← LW.out]); (try rw [← LQ.out]); rfl)) (by (try rw [← LW.out]); (try rw [← LQ.out]); rfl)) (by (try rw [← LW.out]); (try rw [← LQ.out]); rfl)) (by (try rw [← LW.out]); (try rw [← LQ.out]); rfl))
    have bl7 : Below b w w7 := (((((((((((BL6.out).setCell (p := ⟨b, 8, none⟩) (Nat.le_refl b) (.string x6))).setCell (p := ⟨b, 9, none⟩) (Nat.le_refl b) (.bool cl))).setCell (p := ⟨b, 11, none⟩) (Nat.le_refl b) (.bool true))).setCell (p := ⟨b, 16, none⟩) (Nat.le_refl b) (.bool true))).setCell (p := ⟨b, 17, none⟩) (Nat.le_refl b) (.bool false))).trans (t7.below.mono (Nat.le_of_lt hb))
    have OW7 := Lib.hid (own_rd ((own_put ((own_put ((own_put ((own_put ((own_put (OW6.out) hbw 8 (.string x6))) hbw 9 (.bool cl))) hbw 11 (.bool true))) hbw 16 (.bool true))) hbw 17 (.bool false))) t7 hlt)
    have OP7 := Lib.hid (own_rd ((own_put ((own_put ((own_put ((own_put ((own_put (OP6.out) hbw 8 (.string x6))) hbw 9 (.bool cl))) hbw 11 (.bool true))) hbw 16 (.bool true))) hbw 17 (.bool false))) t7 hlt)
    have rc7 := row_cells row7
    have rf7 := fun k => frozen_of_row w7 b k _ _ row7
    have H7 := Lib.hid h7
    have ROW7 := Lib.hid row7
    have BL7 := Lib.hid bl7
    clear h7 t7 row7 bl7 rc6 rf6
    go_wp2_with fail
    refine (G8.out _ _ _ ((H7.out).put hB hb (i := 12) (.string x7))).mono ?_
    rintro e w8 ⟨OWA, OWC, rfl, o8, ⟨ad8, c8, h8⟩, t8⟩
    have row8 : w8.heap[b]? = some (.cells (pkC ({ p with level := y3, keep := y5, cli := x6, clean := cl, hw := true, hu := true, hp := false, wtop := x7 }) (s)) 28) := by rw [t8.below.block b hb]; exact (put_row (p' := { p with level := y3, keep := y5, cli := x6, clean := cl, hw := true, hu := true, hp := false, wtop := x7 }) (s' := s) 12 (.string x7) ROW7.out (by (try rw [← LW.out]); (try rw [← LQ.out]); rfl))
    have bl8 : Below b w w8 := (((BL7.out).setCell (p := ⟨b, 12, none⟩) (Nat.le_refl b) (.string x7))).trans (t8.below.mono (Nat.le_of_lt hb))
    have OW8 := Lib.hid (own_mono3 o8 (base' := w.heap.size) (by have := BL7.out.size; simp; omega))
    have OP8 := Lib.hid (own_rd ((own_put (OP7.out) hbw 12 (.string x7))) t8 hlt)
    have rc8 := row_cells row8
    have rf8 := fun k => frozen_of_row w8 b k _ _ row8
    have H8 := Lib.hid h8
    have ROW8 := Lib.hid row8
    have BL8 := Lib.hid bl8
    clear h8 t8 row8 bl8 o8 rc7 rf7
    go_wp2_with fail
    refine (G9.out _ _ _ ((((((H8.out).put hB hb (i := 13) (.slice OWA n8 OWC))).put hB hb (i := 14) (.int .i64 wq))).put hB hb (i := 15) (.bool wr))).mono ?_
    rintro e w9 ⟨rfl, ⟨ad9, c9, h9⟩, t9⟩
    have row9 : w9.heap[b]? = some (.cells (pkC ({ p with level := y3, keep := y5, cli := x6, clean := cl, hw := true, hu := true, hp := false, wtop := x7, wpay := x8, wqos := wq, wret := wr }) ({ s with wA := OWA, wC := OWC })) 28) := by rw [t9.below.block b hb]; exact (put_row (p' := { p with level := y3, keep := y5, cli := x6, clean := cl, hw := true, hu := true, hp := false, wtop := x7, wpay := x8, wqos := wq, wret := wr }) (s' := { s with wA := OWA, wC := OWC }) 15 (.bool wr) (put_row (p' := { p with level := y3, keep := y5, cli := x6, clean := cl, hw := true, hu := true, hp := false, wtop := x7, wpay := x8, wqos := wq }) (s' := { s with wA := OWA, wC := OWC }) 14 (.int .i64 wq) (put_row (p' := { p with level := y3, keep := y5, cli := x6, clean := cl, hw := true, hu := true, hp := false, wtop := x7, wpay := x8 }) (s' := { s with wA := OWA, wC := OWC }) 13 (.slice OWA n8 OWC) ROW8.out (by (try rw [← LW.out]); (try rw [← LQ.out]); rfl)) (by (try rw [← LW.out]); (try rw [← LQ.out]); rfl)) (by (try rw [← LW.out]); (try rw [← LQ.out]); rfl))
    have bl9 : Below b w w9 := (((((((BL8.out).setCell (p := ⟨b, 13, none⟩) (Nat.le_refl b) (.slice OWA n8 OWC))).setCell (p := ⟨b, 14, none⟩) (Nat.le_refl b) (.int .i64 wq))).setCell (p := ⟨b, 15, none⟩) (Nat.le_refl b) (.bool wr))).trans (t9.below.mono (Nat.le_of_lt hb))
    have OW9 := Lib.hid (own_rd ((own_put ((own_put ((own_put (OW8.out) hbw 13 (.slice OWA n8 OWC))) hbw 14 (.int .i64 wq))) hbw 15 (.bool wr))) t9 hlt)
    have OP9 := Lib.hid (own_rd ((own_put ((own_put ((own_put (OP8.out) hbw 13 (.slice OWA n8 OWC))) hbw 14 (.int .i64 wq))) hbw 15 (.bool wr))) t9 hlt)
    have rc9 := row_cells row9
    have rf9 := fun k => frozen_of_row w9 b k _ _ row9
    have H9 := Lib.hid h9
    have ROW9 := Lib.hid row9
    have BL9 := Lib.hid bl9
    clear h9 t9 row9 bl9 rc8 rf8
    go_wp2_with fail
    go_end0
    unfold ConPost
    rw [HQ.out]
    refine ⟨rfl, ((BL9.out).setCell (p := ⟨b, 18, none⟩) (Nat.le_refl b) (.string x9)), { s with wA := OWA, wC := OWC }, (put_row (p' := { p with level := y3, keep := y5, cli := x6, clean := cl, hw := true, hu := true, hp := false, wtop := x7, wpay := x8, wqos := wq, wret := wr, user := x9 }) (s' := { s with wA := OWA, wC := OWC }) 18 (.string x9) ROW9.out (by (try rw [← LW.out]); (try rw [← LQ.out]); rfl)), ⟨rfl, rfl, rfl, rfl, rfl, rfl⟩, ?_, ?_⟩
    · have q := (own_put (OW9.out) hbw 18 (.string x9))
      exact own_len LW.out q
    · have q := (own_put (OP9.out) hbw 18 (.string x9))
      exact q
  · skip
    have f4 := c4.symm.trans e4
    have f128 := c128.symm.trans e128
    have f64 := c64.symm.trans e64
    obtain ⟨x7, hx7⟩ : ∃ x7, x7 = bytesOfL (gotL R6) := ⟨_, rfl⟩
    obtain ⟨R7, hR7⟩ : ∃ R7, R7 = leftL R6 := ⟨_, rfl⟩
    obtain ⟨x8, hx8⟩ : ∃ x8, x8 = gotL R7 := ⟨_, rfl⟩
    obtain ⟨n8, hn8⟩ : ∃ n8, x8.length = n8 := ⟨_, rfl⟩
    obtain ⟨R8, hR8⟩ : ∃ R8, R8 = leftL R7 := ⟨_, rfl⟩
    have G7 := Lib.hid (fun W a1 d1 => TX W a1 d1 R6 x7 R7 hx7 hR7)
    have G8 := Lib.hid (fun W a1 d1 => LP W a1 d1 R7 x8 n8 R8 hx8 hn8 hR8)
    have LW := Lib.hid hn8
    obtain ⟨x9, hx9⟩ : ∃ x9, x9 = bytesOfL (gotL R8) := ⟨_, rfl⟩
    obtain ⟨R9, hR9⟩ : ∃ R9, R9 = leftL R8 := ⟨_, rfl⟩
    have G9 := Lib.hid (fun W a1 d1 => TX W a1 d1 R8 x9 R9 hx9 hR9)
    obtain ⟨x10, hx10⟩ : ∃ x10, x10 = gotL R9 := ⟨_, rfl⟩
    obtain ⟨n10, hn10⟩ : ∃ n10, x10.length = n10 := ⟨_, rfl⟩
    obtain ⟨R10, hR10⟩ : ∃ R10, R10 = leftL R9 := ⟨_, rfl⟩
    have G10 := Lib.hid (fun W a1 d1 => LP W a1 d1 R9 x10 n10 R10 hx10 hn10 hR10)
    have LQ := Lib.hid hn10
    have HQ : Hid (conP p l = { p with level := y3, keep := y5, cli := x6, clean := cl, hw := true, hu := true, hp := true, wtop := x7, wpay := x8, wqos := wq, wret := wr, user := x9, pass := x10 }) := Lib.hid (by
      obtain ⟨hR2, hR3, hy3, hR4, hf, hR5, hy5, hR6, hx6⟩ := EQ.out
      obtain ⟨hcl, hwr, hwq⟩ := CL.out
      unfold conP
      simp only [← hR2, ← hR3, ← hy3, ← hR4, ← hf, ← hR5, ← hy5, ← hR6, ← hx6, hcl, hwr, hwq, f4, f128, f64, if_true, ← hx7, ← hR7, ← hx8, ← hR8, ← hx9, ← hR9, ← hx10])
    clear EQ CL TX LP c4 c128 c64 f4 f128 f64 hx7 hR7 hx8 hn8 hR8 hx9 hR9 hx10 hn10 hR10
    go_enter Try.func85, Try.ntmps85
    go_wp2_with fail
    refine (G1.out _ _ _ h0.out).mono ?_
    rintro e w1 ⟨rfl, ⟨ad1, c1, h1⟩, t1⟩
    have row1 : w1.heap[b]? = some (.cells (pkC (p) (s)) 28) := by rw [t1.below.block b hb]; exact ROW0.out
    have bl1 : Below b w w1 := ((Below.refl b w)).trans (t1.below.mono (Nat.le_of_lt hb))
    have OW1 := Lib.hid (own_rd (OW0.out) t1 hlt)
    have OP1 := Lib.hid (own_rd (OP0.out) t1 hlt)
    have rc1 := row_cells row1
    have rf1 := fun k => frozen_of_row w1 b k _ _ row1
    have H1 := Lib.hid h1
    have ROW1 := Lib.hid row1
    have BL1 := Lib.hid bl1
    clear h1 t1 row1 bl1
    go_wp2_with fail
    refine (G2.out _ _ _ H1.out).mono ?_
    rintro e w2 ⟨rfl, ⟨ad2, c2, h2⟩, _, t2⟩
    have row2 : w2.heap[b]? = some (.cells (pkC (p) (s)) 28) := by rw [t2.below.block b hb]; exact ROW1.out
    have bl2 : Below b w w2 := (BL1.out).trans (t2.below.mono (Nat.le_of_lt hb))
    have OW2 := Lib.hid (own_rd (OW1.out) t2 hlt)
    have OP2 := Lib.hid (own_rd (OP1.out) t2 hlt)
    have rc2 := row_cells row2
    have rf2 := fun k => frozen_of_row w2 b k _ _ row2
    have H2 := Lib.hid h2
    have ROW2 := Lib.hid row2
    have BL2 := Lib.hid bl2
    clear h2 t2 row2 bl2 rc1 rf1
    go_wp2_with fail
    refine (G3.out _ _ _ H2.out).mono ?_
    rintro e w3 ⟨rfl, ⟨ad3, c3, h3⟩, t3⟩
    have row3 : w3.heap[b]? = some (.cells (pkC (p) (s)) 28) := by rw [t3.below.block b hb]; exact ROW2.out
    have bl3 : Below b w w3 := (BL2.out).trans (t3.below.mono (Nat.le_of_lt hb))
    have OW3 := Lib.hid (own_rd (OW2.out) t3 hlt)
    have OP3 := Lib.hid (own_rd (OP2.out) t3 hlt)
    have rc3 := row_cells row3
    have rf3 := fun k => frozen_of_row w3 b k _ _ row3
    have H3 := Lib.hid h3
    have ROW3 := Lib.hid row3
    have BL3 := Lib.hid bl3
    clear h3 t3 row3 bl3 rc2 rf2
    go_wp2_with fail
    refine (G4.out _ _ _ ((H3.out).put hB hb (i := 7) (.int .i64 y3))).mono ?_
    rintro e w4 ⟨rfl, ⟨ad4, c4, h4⟩, t4⟩
    have row4 : w4.heap[b]? = some (.cells (pkC ({ p with level := y3 }) (s)) 28) := by rw [t4.below.block b hb]; exact (put_row (p' := { p with level := y3 }) (s' := s) 7 (.int .i64 y3) ROW3.out (by (try rw [← LW.out]); (try rw [← LQ.out]); rfl))
    have bl4 : Below b w w4 := (((BL3.out).setCell (p := ⟨b, 7, none⟩) (Nat.le_refl b) (.int .i64 y3))).trans (t4.below.mono (Nat.le_of_lt hb))
    have OW4 := Lib.hid (own_rd ((own_put (OW3.out) hbw 7 (.int .i64 y3))) t4 hlt)
    have OP4 := Lib.hid (own_rd ((own_put (OP3.out) hbw 7 (.int .i64 y3))) t4 hlt)
    have rc4 := row_cells row4
    have rf4 := fun k => frozen_of_row w4 b k _ _ row4
    have H4 := Lib.hid h4
    have ROW4 := Lib.hid row4
    have BL4 := Lib.hid bl4
    clear h4 t4 row4 bl4 rc3 rf3
    go_wp2_with fail
    refine (G5.out _ _ _ H4.out).mono ?_
    rintro e w5 ⟨rfl, ⟨ad5, c5, h5⟩, t5⟩
    have row5 : w5.heap[b]? = some (.cells (pkC ({ p with level := y3 }) (s)) 28) := by rw [t5.below.block b hb]; exact ROW4.out
    have bl5 : Below b w w5 := (BL4.out).trans (t5.below.mono (Nat.le_of_lt hb))
    have OW5 := Lib.hid (own_rd (OW4.out) t5 hlt)
    have OP5 := Lib.hid (own_rd (OP4.out) t5 hlt)
    have rc5 := row_cells row5
    have rf5 := fun k => frozen_of_row w5 b k _ _ row5
    have H5 := Lib.hid h5
    have ROW5 := Lib.hid row5
    have BL5 := Lib.hid bl5
    clear h5 t5 row5 bl5 rc4 rf4
    go_wp2_with fail
    refine (G6.out _ _ _ ((H5.out).put hB hb (i := 10) (.int .i64 y5))).mono ?_
    rintro e w6 ⟨rfl, ⟨ad6, c6, h6⟩, t6⟩
    have row6 : w6.heap[b]? = some (.cells (pkC ({ p with level := y3, keep := y5 }) (s)) 28) := by rw [t6.below.block b hb]; exact (put_row (p' := { p with level := y3, keep := y5 }) (s' := s) 10 (.int .i64 y5) ROW5.out (by (try rw [← LW.out]); (try rw [← LQ.out]); rfl))
    have bl6 : Below b w w6 := (((BL5.out).setCell (p := ⟨b, 10, none⟩) (Nat.le_refl b) (.int .i64 y5))).trans (t6.below.mono (Nat.le_of_lt hb))
    have OW6 := Lib.hid (own_rd ((own_put (OW5.out) hbw 10 (.int .i64 y5))) t6 hlt)
    have OP6 := Lib.hid (own_rd ((own_put (OP5.out) hbw 10 (.int .i64 y5))) t6 hlt)
    have rc6 := row_cells row6
    have rf6 := fun k => frozen_of_row w6 b k _ _ row6
    have H6 := Lib.hid h6
    have ROW6 := Lib.hid row6
    have BL6 := Lib.hid bl6
    clear h6 t6 row6 bl6 rc5 rf5
    go_wp2_with fail
    refine (G7.out _ _ _ ((((((((((H6.out).put hB hb (i := 8) (.string x6))).put hB hb (i := 9) (.bool cl))).put hB hb (i := 11) (.bool true))).put hB hb (i := 16) (.bool true))).put hB hb (i := 17) (.bool true))).mono ?_
    rintro e w7 ⟨rfl, ⟨ad7, c7, h7⟩, t7⟩
    have row7 : w7.heap[b]? = some (.cells (pkC ({ p with level := y3, keep := y5, cli := x6, clean := cl, hw := true, hu := true, hp := true }) (s)) 28) := by rw [t7.below.block b hb]; exact (put_row (p' := { p with level := y3, keep := y5, cli := x6, clean := cl, hw := true, hu := true, hp := true }) (s' := s) 17 (.bool true) (put_row (p' := { p with level := y3, keep := y5, cli := x6, clean := cl, hw := true, hu := true }) (s' := s) 16 (.bool true) (put_row (p' := { p with level := y3, keep := y5, cli := x6, clean := cl, hw := true }) (s' := s) 11 (.bool true) (put_row (p' := { p with level := y3, keep := y5, cli := x6, clean := cl }) (s' := s) 9 (.bool cl) (put_row (p' := { p with level := y3, keep := y5, cli := x6 }) (s' := s) 8 (.string x6) ROW6.out (by (try rw [← LW.out]); (try rw [← LQ.out]); rfl)) (by (try rw [← LW.out]); (try rw [← LQ.out]); rfl)) (by (try rw [← LW.out]); (try rw [← LQ.out]); rfl)) (by (try rw [← LW.out]); (try rw [← LQ.out]); rfl)) (by (try rw [← LW.out]); (try rw [← LQ.out]); rfl))
    have bl7 : Below b w w7 := (((((((((((BL6.out).setCell (p := ⟨b, 8, none⟩) (Nat.le_refl b) (.string x6))).setCell (p := ⟨b, 9, none⟩) (Nat.le_refl b) (.bool cl))).setCell (p := ⟨b, 11, none⟩) (Nat.le_refl b) (.bool true))).setCell (p := ⟨b, 16, none⟩) (Nat.le_refl b) (.bool true))).setCell (p := ⟨b, 17, none⟩) (Nat.le_refl b) (.bool true))).trans (t7.below.mono (Nat.le_of_lt hb))
    have OW7 := Lib.hid (own_rd ((own_put ((own_put ((own_put ((own_put ((own_put (OW6.out) hbw 8 (.string x6))) hbw 9 (.bool cl))) hbw 11 (.bool true))) hbw 16 (.bool true))) hbw 17 (.bool true))) t7 hlt)
    have OP7 := Lib.hid (own_rd ((own_put ((own_put ((own_put ((own_put ((own_put (OP6.out) hbw 8 (.string x6))) hbw 9 (.bool cl))) hbw 11 (.bool true))) hbw 16 (.bool true))) hbw 17 (.bool true))) t7 hlt)
    have rc7 := row_cells row7
    have rf7 := fun k => frozen_of_row w7 b k _ _ row7
    have H7 := Lib.hid h7
    have ROW7 := Lib.hid row7
    have BL7 := Lib.hid bl7
    clear h7 t7 row7 bl7 rc6 rf6
    go_wp2_with fail
    refine (G8.out _ _ _ ((H7.out).put hB hb (i := 12) (.string x7))).mono ?_
    rintro e w8 ⟨OWA, OWC, rfl, o8, ⟨ad8, c8, h8⟩, t8⟩
    have row8 : w8.heap[b]? = some (.cells (pkC ({ p with level := y3, keep := y5, cli := x6, clean := cl, hw := true, hu := true, hp := true, wtop := x7 }) (s)) 28) := by rw [t8.below.block b hb]; exact (put_row (p' := { p with level := y3, keep := y5, cli := x6, clean := cl, hw := true, hu := true, hp := true, wtop := x7 }) (s' := s) 12 (.string x7) ROW7.out (by (try rw [← LW.out]); (try rw [← LQ.out]); rfl))
    have bl8 : Below b w w8 := (((BL7.out).setCell (p := ⟨b, 12, none⟩) (Nat.le_refl b) (.string x7))).trans (t8.below.mono (Nat.le_of_lt hb))
    have OW8 := Lib.hid (own_mono3 o8 (base' := w.heap.size) (by have := BL7.out.size; simp; omega))
    have OP8 := Lib.hid (own_rd ((own_put (OP7.out) hbw 12 (.string x7))) t8 hlt)
    have rc8 := row_cells row8
    have rf8 := fun k => frozen_of_row w8 b k _ _ row8
    have H8 := Lib.hid h8
    have ROW8 := Lib.hid row8
    have BL8 := Lib.hid bl8
    clear h8 t8 row8 bl8 o8 rc7 rf7
    go_wp2_with fail
    refine (G9.out _ _ _ ((((((H8.out).put hB hb (i := 13) (.slice OWA n8 OWC))).put hB hb (i := 14) (.int .i64 wq))).put hB hb (i := 15) (.bool wr))).mono ?_
    rintro e w9 ⟨rfl, ⟨ad9, c9, h9⟩, t9⟩
    have row9 : w9.heap[b]? = some (.cells (pkC ({ p with level := y3, keep := y5, cli := x6, clean := cl, hw := true, hu := true, hp := true, wtop := x7, wpay := x8, wqos := wq, wret := wr }) ({ s with wA := OWA, wC := OWC })) 28) := by rw [t9.below.block b hb]; exact (put_row (p' := { p with level := y3, keep := y5, cli := x6, clean := cl, hw := true, hu := true, hp := true, wtop := x7, wpay := x8, wqos := wq, wret := wr }) (s' := { s with wA := OWA, wC := OWC }) 15 (.bool wr) (put_row (p' := { p with level := y3, keep := y5, cli := x6, clean := cl, hw := true, hu := true, hp := true, wtop := x7, wpay := x8, wqos := wq }) (s' := { s with wA := OWA, wC := OWC }) 14 (.int .i64 wq) (put_row (p' := { p with level := y3, keep := y5, cli := x6, clean := cl, hw := true, hu := true, hp := true, wtop := x7, wpay := x8 }) (s' := { s with wA := OWA, wC := OWC }) 13 (.slice OWA n8 OWC) ROW8.out (by (try rw [← LW.out]); (try rw [← LQ.out]); rfl)) (by (try rw [← LW.out]); (try rw [← LQ.out]); rfl)) (by (try rw [← LW.out]); (try rw [← LQ.out]); rfl))
    have bl9 : Below b w w9 := (((((((BL8.out).setCell (p := ⟨b, 13, none⟩) (Nat.le_refl b) (.slice OWA n8 OWC))).setCell (p := ⟨b, 14, none⟩) (Nat.le_refl b) (.int .i64 wq))).setCell (p := ⟨b, 15, none⟩) (Nat.le_refl b) (.bool wr))).trans (t9.below.mono (Nat.le_of_lt hb))
    have OW9 := Lib.hid (own_rd ((own_put ((own_put ((own_put (OW8.out) hbw 13 (.slice OWA n8 OWC))) hbw 14 (.int .i64 wq))) hbw 15 (.bool wr))) t9 hlt)
    have OP9 := Lib.hid (own_rd ((own_put ((own_put ((own_put (OP8.out) hbw 13 (.slice OWA n8 OWC))) hbw 14 (.int .i64 wq))) hbw 15 (.bool wr))) t9 hlt)
    have rc9 := row_cells row9
    have rf9 := fun k => frozen_of_row w9 b k _ _ row9
    have H9 := Lib.hid h9
    have ROW9 := Lib.hid row9
    have BL9 := Lib.hid bl9
    clear h9 t9 row9 bl9 rc8 rf8
    go_wp2_with fail
    refine (G10.out _ _ _ ((H9.out).put hB hb (i := 18) (.string x9))).mono ?_
    rintro e w10 ⟨OPA, OPC, rfl, o10, ⟨ad10, c10, h10⟩, t10⟩
    have row10 : w10.heap[b]? = some (.cells (pkC ({ p with level := y3, keep := y5, cli := x6, clean := cl, hw := true, hu := true, hp := true, wtop := x7, wpay := x8, wqos := wq, wret := wr, user := x9 }) ({ s with wA := OWA, wC := OWC })) 28) := by rw [t10.below.block b hb]; exact (put_row (p' := { p with level := y3, keep := y5, cli := x6, clean := cl, hw := true, hu := true, hp := true, wtop := x7, wpay := x8, wqos := wq, wret := wr, user := x9 }) (s' := { s with wA := OWA, wC := OWC }) 18 (.string x9) ROW9.out (by (try rw [← LW.out]); (try rw [← LQ.out]); rfl))
    have bl10 : Below b w w10 := (((BL9.out).setCell (p := ⟨b, 18, none⟩) (Nat.le_refl b) (.string x9))).trans (t10.below.mono (Nat.le_of_lt hb))
    have OW10 := Lib.hid (own_rd ((own_put (OW9.out) hbw 18 (.string x9))) t10 hlt)
    have OP10 := Lib.hid (own_mono3 o10 (base' := w.heap.size) (by have := BL9.out.size; simp; omega))
    have rc10 := row_cells row10
    have rf10 := fun k => frozen_of_row w10 b k _ _ row10
    have H10 := Lib.hid h10
    have ROW10 := Lib.hid row10
    have BL10 := Lib.hid bl10
    clear h10 t10 row10 bl10 o10 rc9 rf9
    go_wp2_with fail
    go_end0
    unfold ConPost
    rw [HQ.out]
    refine ⟨rfl, ((BL10.out).setCell (p := ⟨b, 19, none⟩) (Nat.le_refl b) (.slice OPA n10 OPC)), { s with wA := OWA, wC := OWC, uA := OPA, uC := OPC }, (put_row (p' := { p with level := y3, keep := y5, cli := x6, clean := cl, hw := true, hu := true, hp := true, wtop := x7, wpay := x8, wqos := wq, wret := wr, user := x9, pass := x10 }) (s' := { s with wA := OWA, wC := OWC, uA := OPA, uC := OPC }) 19 (.slice OPA n10 OPC) ROW10.out (by (try rw [← LW.out]); (try rw [← LQ.out]); rfl)), ⟨rfl, rfl, rfl, rfl, rfl, rfl⟩, ?_, ?_⟩
    · have q := (own_put (OW10.out) hbw 19 (.slice OPA n10 OPC))
      exact own_len LW.out q
    · have q := (own_put (OP10.out) hbw 19 (.slice OPA n10 OPC))
      exact own_len LQ.out q
end Go.Proofs.Ytghcgdjpmgmaaaa

/- Reading a body: what a greeting's bytes make of a new packet. -/
namespace Go.Proofs.Ytghcgdjpmgmaaaa

theorem conR_eq (n : Int) (b : List UInt8) : conP { pk0 with kind := n / 16 } b = conR n b := by
  unfold conP conR
  simp only [List.drop_drop, Nat.reduceAdd]
  rfl
end Go.Proofs.Ytghcgdjpmgmaaaa

/- Reading, plainly: what is read has small fields; where a packet's body is. -/
namespace Go.Proofs.Ytghcgdjpmgmaaaa
open Go.RowKit Go.Lib
set_option linter.unusedVariables false

theorem bytesOfL_size (l : List UInt8) : (bytesOfL l).size = l.length := by unfold bytesOfL; simp [ByteArray.size]
theorem got_le (l : List UInt8) : (gotL l).length ≤ l.length := by unfold gotL; rw [List.length_take, List.length_drop]; omega
theorem left_le (l : List UInt8) : (leftL l).length ≤ l.length := by unfold leftL; rw [List.length_drop, List.length_drop]; omega
theorem num_k (l : List UInt8) (k : Nat) (hk : k ≤ 2) : i64In (numL (l.take k)) := by
  obtain ⟨a, b⟩ := num_bounds l k hk
  unfold i64In; omega
theorem subsR_ok (q : Bool) : ∀ (n : Nat) (l : List UInt8), l.length ≤ n → (subsR q l).length ≤ l.length ∧ ∀ x ∈ subsR q l, x.1.size ≤ 65535 ∧ i64In x.2
  | n, [], _ => by rw [subsR_nil]; exact ⟨Nat.zero_le _, fun x hx => by simp at hx⟩
  | 0, _ :: _, h => by simp at h
  | n + 1, c :: r, h => by
    have hne : c :: r ≠ [] := by simp
    have h1 := left_lt (c :: r) hne
    generalize c :: r = l at *
    rw [subsR_some q l hne]
    have h2 : (if q then (leftL l).drop 1 else leftL l).length < l.length := by
      split
      · rw [List.length_drop]; omega
      · exact h1
    obtain ⟨g1, g2⟩ := subsR_ok q n (if q then (leftL l).drop 1 else leftL l) (by omega)
    refine ⟨by simp only [List.length_cons]; omega, fun x hx => ?_⟩
    rcases List.mem_cons.1 hx with rfl | hx
    · refine ⟨by simp only [bytesOfL_size]; exact got_len l, ?_⟩
      cases q
      · simp only [Bool.false_eq_true, if_false]; exact ⟨by omega, by omega⟩
      · exact num_k _ 1 (by omega)
    · exact g2 x hx

theorem par_ok (c : Int) (h0 : 0 ≤ c) (h1 : c ≤ 255) (l : List UInt8) (hl : l.length ≤ 1000000) : PkOk (parR c l) := by
  have n1 := fun (r : List UInt8) => num_k r 1 (by omega)
  have n2 := fun (r : List UInt8) => num_k r 2 (by omega)
  have z : i64In 0 := ⟨by decide, by decide⟩
  have kk : i64In (c / 16) := by unfold i64In; omega
  have sz : ∀ r, (bytesOfL (gotL r)).size ≤ 1000000 := fun r => by rw [bytesOfL_size]; have := got_len r; omega
  have gl : ∀ r, (gotL r).length ≤ 1000000 := fun r => by have := got_len r; omega
  have e0 : ByteArray.empty.size ≤ 1000000 := by decide
  have hq : i64In (hdP c).qos := by unfold hdP; split; (· show i64In (c / 2 % 4); unfold i64In; omega); · exact z
  have hk : i64In (hdP c).kind := by unfold hdP; split <;> exact kk
  have base : PkOk (hdP c) := by
    unfold hdP at *
    split
    · exact ⟨kk, by unfold i64In; simp only; omega, z, z, z, z, z, e0, Nat.zero_le _, e0, e0, Nat.zero_le _, e0, Nat.zero_le _, Nat.zero_le _, Nat.zero_le _, fun x hx => by simp [pk0] at hx, fun x hx => by simp [pk0] at hx⟩
    · exact ⟨kk, z, z, z, z, z, z, e0, Nat.zero_le _, e0, e0, Nat.zero_le _, e0, Nat.zero_le _, Nat.zero_le _, Nat.zero_le _, fun x hx => by simp [pk0] at hx, fun x hx => by simp [pk0] at hx⟩
  unfold parR
  simp only
  split
  · unfold conR
    simp only
    refine ⟨kk, z, z, n1 _, n2 _, ?_, z, e0, Nat.zero_le _, sz _, ?_, ?_, ?_, ?_, Nat.zero_le _, Nat.zero_le _, fun x hx => by simp [pk0] at hx, fun x hx => by simp [pk0] at hx⟩
    · simp only
      split
      · have := num_bounds (((leftL l).drop 1)) 1 (by omega); unfold i64In; omega
      · exact z
    · simp only; split
      · exact sz _
      · exact e0
    · simp only; split
      · exact gl _
      · exact Nat.zero_le _
    · simp only; split
      · exact sz _
      · exact e0
    · simp only; split
      · exact gl _
      · exact Nat.zero_le _
  · split
    · exact ⟨hk, hq, base.id, base.level, base.keep, base.wqos, n1 _, base.top, base.pay, base.cli, base.wtop, base.wpay, base.user, base.pass, base.subs, base.codes, base.sub, base.cod⟩
    · split
      · refine ⟨hk, hq, ?_, base.level, base.keep, base.wqos, base.code, sz _, ?_, base.cli, base.wtop, base.wpay, base.user, base.pass, base.subs, base.codes, base.sub, base.cod⟩
        · simp only; split
          · exact z
          · exact n2 _
        · have := left_le l
          simp only; split
          · omega
          · rw [List.length_drop]; omega
      · split
        · exact ⟨hk, hq, n2 _, base.level, base.keep, base.wqos, base.code, base.top, base.pay, base.cli, base.wtop, base.wpay, base.user, base.pass, base.subs, base.codes, base.sub, base.cod⟩
        · split
          · obtain ⟨g1, g2⟩ := subsR_ok ((hdP c).kind == 8) _ (l.drop 2) (Nat.le_refl _)
            rw [List.length_drop] at g1
            exact ⟨hk, hq, n2 _, base.level, base.keep, base.wqos, base.code, base.top, base.pay, base.cli, base.wtop, base.wpay, base.user, base.pass, by simp only; omega, base.codes, fun x hx => ⟨by have := (g2 x hx).1; omega, (g2 x hx).2⟩, base.cod⟩
          · split
            · refine ⟨hk, hq, n2 _, base.level, base.keep, base.wqos, base.code, base.top, base.pay, base.cli, base.wtop, base.wpay, base.user, base.pass, base.subs, ?_, base.sub, fun x hx => ?_⟩
              · simp only; unfold codesR; rw [List.length_map, List.length_drop]; omega
              · simp only [codesR, List.mem_map] at hx
                obtain ⟨y, _, rfl⟩ := hx
                have := y.toNat_lt
                unfold i64In; omega
            · exact base

/-- What a length that was read is like. -/
theorem readAt_in : ∀ (i : Nat) (n : Int) (l : List UInt8), i ≤ 3 → 0 ≤ n → 0 ≤ (readAt i n l).1 ∧ 0 ≤ (readAt i n l).2.1 ∧ (readAt i n l).2.1 ≤ 4 ∧ (readAt i n l).2.1 ≤ i + l.length ∧ ((readAt i n l).2.2 = 0 ∨ (readAt i n l).2.2 = 20 ∨ (readAt i n l).2.2 = 21)
  | i, n, [], _, _ => by unfold readAt; simp
  | i, n, c :: r, hi, hn => by
    have hp : (0 : Int) < 128 ^ i := Int.pow_pos (by omega)
    unfold readAt
    split
    · have : 0 ≤ n + (c.toNat : Int) * 128 ^ i := Int.add_nonneg hn (Int.mul_nonneg (by omega) (by omega))
      unfold wholeT
      split
      · simp only [List.length_cons]; refine ⟨this, ?_, ?_, ?_, .inl trivial⟩ <;> omega
      · simp; omega
    · split
      · simp; omega
      · have hm : 0 ≤ n + ((c.toNat : Int) % 128) * 128 ^ i := Int.add_nonneg hn (Int.mul_nonneg (by omega) (by omega))
        obtain ⟨a1, a2, a3, a4, a5⟩ := readAt_in (i + 1) _ r (by omega) hm
        refine ⟨a1, a2, a3, ?_, a5⟩
        simp only [List.length_cons]; omega
theorem readT_in (l : List UInt8) : 0 ≤ (readT l).1 ∧ 0 ≤ (readT l).2.1 ∧ (readT l).2.1 ≤ 4 ∧ (readT l).2.1 ≤ l.length ∧ ((readT l).2.2 = 0 ∨ (readT l).2.2 = 20 ∨ (readT l).2.2 = 21) := by
  have := readAt_in 0 0 l (by omega) (by omega)
  simpa [readT] using this

/-- Where a packet's body is, and why there is none. -/
def bndP : List UInt8 → Int × Int × Int
  | [] => (0, 0, 20)
  | c :: r => if begP c.toNat = false then (0, 0, 21) else if (readT r).2.2 ≠ 0 then (0, 0, (readT r).2.2) else if (readT r).1 > 8192 then (0, 0, 22) else if 1 + (readT r).2.1 + (readT r).1 > (c :: r).length then (0, 0, 20) else (1 + (readT r).2.1, 1 + (readT r).2.1 + (readT r).1, 0)
theorem bnd_ok (c : UInt8) (r : List UInt8) (h : (bndP (c :: r)).2.2 = 0) : begP c.toNat = true ∧ 1 ≤ (bndP (c :: r)).1 ∧ (bndP (c :: r)).1 ≤ 5 ∧ (bndP (c :: r)).1 ≤ (bndP (c :: r)).2.1 ∧ (bndP (c :: r)).2.1 ≤ (c :: r).length ∧ (bndP (c :: r)).2.1 - (bndP (c :: r)).1 ≤ 8192 ∧
    (bndP (c :: r)).1 = 1 + (readT r).2.1 ∧ (bndP (c :: r)).2.1 = 1 + (readT r).2.1 + (readT r).1 ∧ (readT r).2.2 = 0 := by
  obtain ⟨a1, a2, a3, a4, a5⟩ := readT_in r
  by_cases q1 : begP c.toNat = false
  · have e : bndP (c :: r) = (0, 0, 21) := by simp only [bndP]; rw [if_pos q1]
    rw [e] at h; cases h
  by_cases q2 : (readT r).2.2 ≠ 0
  · have e : bndP (c :: r) = (0, 0, (readT r).2.2) := by simp only [bndP]; rw [if_neg q1, if_pos q2]
    rw [e] at h; exact absurd h q2
  by_cases q3 : (readT r).1 > 8192
  · have e : bndP (c :: r) = (0, 0, 22) := by simp only [bndP]; rw [if_neg q1, if_neg q2, if_pos q3]
    rw [e] at h; cases h
  by_cases q4 : 1 + (readT r).2.1 + (readT r).1 > (c :: r).length
  · have e : bndP (c :: r) = (0, 0, 20) := by simp only [bndP]; rw [if_neg q1, if_neg q2, if_neg q3, if_pos q4]
    rw [e] at h; cases h
  have e : bndP (c :: r) = (1 + (readT r).2.1, 1 + (readT r).2.1 + (readT r).1, 0) := by simp only [bndP]; rw [if_neg q1, if_neg q2, if_neg q3, if_neg q4]
  rw [e]
  simp only [ne_eq, Decidable.not_not] at q2
  refine ⟨by simpa using q1, ?_, ?_, ?_, ?_, ?_, rfl, rfl, q2⟩ <;> simp only <;> omega
/-- What is read. -/
def rdP : List UInt8 → Pk × Int × Int
  | [] => (pk0, 0, 20)
  | c :: r => if (bndP (c :: r)).2.2 ≠ 0 then (pk0, 0, (bndP (c :: r)).2.2) else
    if rightP (parR c.toNat (((c :: r).take (bndP (c :: r)).2.1.toNat).drop (bndP (c :: r)).1.toNat)) && decide (encP (parR c.toNat (((c :: r).take (bndP (c :: r)).2.1.toNat).drop (bndP (c :: r)).1.toNat)) = (c :: r).take (bndP (c :: r)).2.1.toNat)
    then (parR c.toNat (((c :: r).take (bndP (c :: r)).2.1.toNat).drop (bndP (c :: r)).1.toNat), (bndP (c :: r)).2.1, 0) else (pk0, 0, 21)
end Go.Proofs.Ytghcgdjpmgmaaaa

/- Reading: wire.bounds. -/
namespace Go.Proofs.Ytghcgdjpmgmaaaa
open Go.RowKit Go.Lib
set_option linter.unusedVariables false

set_option maxRecDepth 100000 in
set_option maxHeartbeats 4000000 in
theorem bounds_any (A : Option Addr) (cap : Nat) (b : List UInt8) (B : Nat) (w : World) (hB : B ≤ w.heap.size) (hv : BytesAt w B (.slice A b.length cap) b) (hm : b.length ≤ 1000000) (x y z : Int) (hT : bndP b = (x, y, z)) :
    Calls Try.prog 53 #[.slice A b.length cap] w fun e w' => e = .returned (.tuple #[.int .i64 x, .int .i64 y, .int .i64 z]) ∧ Below w.heap.size w w' := by
  rcases b with _ | ⟨c, r⟩
  · obtain ⟨rfl, rfl, rfl⟩ : (0 : Int) = x ∧ (0 : Int) = y ∧ (20 : Int) = z := by simpa [bndP] using hT
    clear hv hm hT
    go_enter Try.func53, Try.ntmps53
    go_wp2_with fail
    go_ret3
    exact ⟨rfl, Below.refl _ _⟩
  · rcases A with _ | ad
    · obtain ⟨A', c', hv1, hc, hm', hz, _⟩ := hv
      injection hv1 with v1 v2 v3
      have := hz v1.symm
      cases this
    have z0 : w.cell? ad = some (.int .u8 (c.toNat : Int)) := by have := cell_zero hv; exact this
    obtain ⟨a1, a2, a3, a4, a5⟩ := readT_in r
    have hd := BytesAt.drop hv 1 (by simp)
    have hcap : 1 ≤ cap ∧ cap ≤ 9223372036854775807 ∧ (c :: r).length ≤ cap := by
      obtain ⟨A', c', hv1, hc, hm', hz, _⟩ := hv
      injection hv1 with v1 v2 v3
      subst v3
      unfold maxLen at hm'
      simp at hc ⊢; omega
    have hlen : (c :: r).length = r.length + 1 := by simp
    have hr : r.length ≤ 1000000 := by omega
    have hdl : (c :: r).length - 1 = r.length := by omega
    have hu : (c.toNat : Int) ≤ 255 := by have := c.toNat_lt; omega
    have HBeg := Lib.hid (fun W => wbegins_any (c.toNat : Int) (by omega) hu W)
    rw [hdl] at hd
    have HD := Lib.hid hd
    have e0 : (c :: r).drop 1 = r := rfl
    rw [e0] at HD
    have ea : ad.add 1 = ⟨ad.block, ad.off + 1, none⟩ := rfl
    rw [ea] at HD
    have HR := Lib.hid (fun (W : World) (h : Below w.heap.size w W) (t1 t2 t3 : Int) (ht : readT r = (t1, t2, t3)) => read_any _ r W B (HD.out.below (h.mono hB)) hr t1 t2 t3 ht)
    have HZ := Lib.hid (fun (W : World) (h : r = []) => read_any (.slice (some ad) 0 0) [] W B (BytesAt.void W B ad 0 (by decide)) (by decide) 0 0 20 rfl)
    have hT0 : r = [] → readT r = (0, 0, 20) := fun e => by rw [e]; rfl
    have hnil : cap = 1 → r = [] := fun e => List.eq_nil_of_length_eq_zero (by omega)
    have HN := Lib.hid hnil
    clear hnil
    have hbn : bndP (c :: r) = if begP c.toNat = false then (0, 0, 21) else if (readT r).2.2 ≠ 0 then (0, 0, (readT r).2.2) else if (readT r).1 > 8192 then (0, 0, 22) else if 1 + (readT r).2.1 + (readT r).1 > (c :: r).length then (0, 0, 20) else (1 + (readT r).2.1, 1 + (readT r).2.1 + (readT r).1, 0) := rfl
    rw [hbn] at hT
    rw [hlen] at hT ⊢
    rw [hlen] at hcap
    clear hv hd e0 hbn hdl hlen ea
    generalize begP c.toNat = bg at *
    have HT0 := Lib.hid hT0
    clear hT0
    generalize hR : readT r = T at *
    obtain ⟨t1, t2, t3⟩ := T
    simp only at a1 a2 a3 a4 a5 hT
    have HR2 := Lib.hid (fun W h => HR.out W h t1 t2 t3 rfl)
    have HC : Hid (cap = 1 → t3 = 20) := Lib.hid (fun e => by have := HT0.out (HN.out e); injection this with _ q; injection q)
    clear HR hR HT0
    generalize r.length = L at *
    cases bg with
    | false =>
      obtain ⟨rfl, rfl, rfl⟩ : (0 : Int) = x ∧ (0 : Int) = y ∧ (21 : Int) = z := by simpa using hT
      go_enter Try.func53, Try.ntmps53
      go_wp2_with fail
      refine (HBeg.out _).mono ?_
      rintro e w1 ⟨rfl, hb1⟩
      go_wp2_with fail
      go_ret3
      exact ⟨rfl, hb1⟩
    | true =>
      simp only [Bool.true_eq_false, if_false] at hT
      by_cases q2 : t3 ≠ 0
      · obtain ⟨rfl, rfl, rfl⟩ : (0 : Int) = x ∧ (0 : Int) = y ∧ t3 = z := by simpa [q2] using hT
        have q2b : (t3 != 0) = true := by simpa using q2
        clear hT q2 a5
        by_cases hc1 : cap = 1
        · subst hc1
          have HZ2 := Lib.hid (fun W => HZ.out W (HN.out rfl))
          have e3 := HC.out rfl
          subst e3
          clear HZ HR2 HN HC
          have hL : L = 0 := by omega
          subst hL
          go_enter Try.func53, Try.ntmps53
          go_wp2_with fail
          refine (HBeg.out _).mono ?_
          rintro e w1 ⟨rfl, hb1⟩
          go_wp2_with fail
          refine (HZ2.out _).mono ?_
          rintro e w2 ⟨rfl, rfl⟩
          go_wp2_with fail
          go_ret3
          exact ⟨rfl, hb1⟩
        clear HZ HN HC
        go_enter Try.func53, Try.ntmps53
        go_wp2_with fail
        refine (HBeg.out _).mono ?_
        rintro e w1 ⟨rfl, hb1⟩
        go_wp2_with fail
        refine (HR2.out _ hb1).mono ?_
        rintro e w2 ⟨rfl, rfl⟩
        go_wp2_with fail
        go_ret3
        exact ⟨rfl, hb1⟩
      · simp only [ne_eq, Decidable.not_not] at q2
        subst q2
        simp only [ne_eq, not_true_eq_false, if_false] at hT
        clear a5
        have hc1 : cap ≠ 1 := fun e => by have := HC.out e; omega
        clear HZ HN HC
        by_cases q3 : t1 > 8192
        · obtain ⟨rfl, rfl, rfl⟩ : (0 : Int) = x ∧ (0 : Int) = y ∧ (22 : Int) = z := by simpa [q3] using hT
          clear hT
          go_enter Try.func53, Try.ntmps53
          go_wp2_with fail
          refine (HBeg.out _).mono ?_
          rintro e w1 ⟨rfl, hb1⟩
          go_wp2_with fail
          refine (HR2.out _ hb1).mono ?_
          rintro e w2 ⟨rfl, rfl⟩
          go_wp2_with fail
          go_ret3
          exact ⟨rfl, hb1⟩
        · by_cases q4 : 1 + t2 + t1 > ((L + 1 : Nat) : Int)
          · obtain ⟨rfl, rfl, rfl⟩ : (0 : Int) = x ∧ (0 : Int) = y ∧ (20 : Int) = z := by rw [if_neg q3, if_pos q4] at hT; simpa using hT
            clear hT
            go_enter Try.func53, Try.ntmps53
            go_wp2_with fail
            refine (HBeg.out _).mono ?_
            rintro e w1 ⟨rfl, hb1⟩
            go_wp2_with fail
            refine (HR2.out _ hb1).mono ?_
            rintro e w2 ⟨rfl, rfl⟩
            go_wp2_with fail
            go_ret3
            exact ⟨rfl, hb1⟩
          · obtain ⟨rfl, rfl, rfl⟩ : 1 + t2 = x ∧ 1 + t2 + t1 = y ∧ (0 : Int) = z := by rw [if_neg q3, if_neg q4] at hT; simpa using hT
            clear hT
            go_enter Try.func53, Try.ntmps53
            go_wp2_with fail
            refine (HBeg.out _).mono ?_
            rintro e w1 ⟨rfl, hb1⟩
            go_wp2_with fail
            refine (HR2.out _ hb1).mono ?_
            rintro e w2 ⟨rfl, rfl⟩
            go_wp2_with fail
            go_ret3
            exact ⟨rfl, hb1⟩
end Go.Proofs.Ytghcgdjpmgmaaaa

/- Reading: the packet that a body's bytes are read as: wire.parse of a greeting. -/
namespace Go.Proofs.Ytghcgdjpmgmaaaa
open Go.RowKit Go.Lib
set_option linter.unusedVariables false

theorem ownsInts {w : World} {base : Nat} {v : Value} {l : List Int} (h : w.ownsRow base 3 1 v l.length (intCells l)) : IntsAt w w.heap.size v l := by
  rcases h.2 with ⟨rfl, h0⟩ | ⟨g, cap, cur, rfl, _, hg, hc, hm, _, _⟩
  · have : l = [] := List.eq_nil_of_length_eq_zero h0
    subst this
    exact ⟨none, 0, rfl, by simp, by decide, fun _ => rfl, by simp, by simp⟩
  · refine ⟨_, cap, rfl, hc, hm, by simp, fun ad had _ => ?_, fun ad had j x hj => ?_⟩
    · injection had with had; subst had
      exact (h.lt g rfl).2
    · injection had with had; subst had
      exact h.cells rfl j _ (by unfold intCells; rw [List.getElem?_map, hj]; rfl)
theorem own_nz {w : World} {base n size c : Nat} {E : TypeId} {A : Option Addr} {xs : List Value} (h : w.ownsRow base E size (.slice A n c) n xs) : A = none → c = 0 := by
  rcases h.2 with ⟨e, _⟩ | ⟨g, cap, cur, e, _⟩
  · injection e with e1 e2 e3
    exact fun _ => e3
  · injection e with e1 e2 e3
    intro q
    rw [q] at e1
    cases e1
/-- Rows of the call's own lie behind it. -/
theorem own_bytes {w : World} {base n c : Nat} {A : Option Addr} {l : List UInt8} (hn : n = l.length) (h : w.ownsRow base 5 1 (.slice A n c) n (Lib.byteCells l)) : BytesAt w w.heap.size (.slice A n c) l := by
  subst hn
  exact ownsBytes h

/-- Rows of the call's own behind a packet, in blocks from base on. -/
structure PkOwn (w : World) (base : Nat) (q : Pk) (s : Sv) : Prop where
  pay : w.ownsRow base 5 1 (.slice s.pA q.pay.length s.pC) q.pay.length (Lib.byteCells q.pay)
  wpay : w.ownsRow base 5 1 (.slice s.wA q.wpay.length s.wC) q.wpay.length (Lib.byteCells q.wpay)
  pass : w.ownsRow base 5 1 (.slice s.uA q.pass.length s.uC) q.pass.length (Lib.byteCells q.pass)
  subs : w.ownsRow base 70 2 (.slice s.sA q.subs.length s.sC) q.subs.length (subCells q.subs)
  codes : w.ownsRow base 3 1 (.slice s.cA q.codes.length s.cC) q.codes.length (intCells q.codes)
theorem PkOwn.at_ {w : World} {base : Nat} {q : Pk} {s : Sv} (h : PkOwn w base q s) : PkAt w w.heap.size q s := ⟨ownsBytes h.pay, ownsBytes h.wpay, ownsBytes h.pass, ownsSubs h.subs, ownsInts h.codes⟩
theorem PkOwn.nil {w : World} {base : Nat} {q : Pk} {s : Sv} (h : PkOwn w base q s) : NilOk s := ⟨own_nz h.pay, own_nz h.wpay, own_nz h.pass⟩
theorem PkOwn.to {w w' : World} {base : Nat} {q : Pk} {s : Sv} (h : PkOwn w base q s) (hk : ∀ g, base ≤ g → g < w.heap.size → w'.heap[g]? = w.heap[g]?) : PkOwn w' base q s := ⟨own_to h.pay hk, own_to h.wpay hk, own_to h.pass hk, own_to h.subs hk, own_to h.codes hk⟩
theorem PkOwn.on {w w' : World} {base : Nat} {q : Pk} {s : Sv} (h : PkOwn w base q s) (hb : Below w.heap.size w w') : PkOwn w' base q s := h.to fun g _ hg => hb.block g hg
theorem PkOwn.mono {w : World} {base base' : Nat} {q : Pk} {s : Sv} (h : PkOwn w base q s) (hb : base' ≤ base) : PkOwn w base' q s := ⟨own_mono3 h.pay hb, own_mono3 h.wpay hb, own_mono3 h.pass hb, own_mono3 h.subs hb, own_mono3 h.codes hb⟩
theorem PkOwn.set {w : World} {base g : Nat} {q : Pk} {s : Sv} (h : PkOwn w base q s) (hg : g < base) (cs : Array Value) : PkOwn (w.setRow g cs) base q s := h.to fun b hb _ => by
  simp only [World.setRow]
  rw [Array.getElem?_modify, if_neg (by omega)]
theorem pk0_own (w : World) (base : Nat) : PkOwn w base pk0 sv0 := ⟨World.ownsRow_nil _ _ _ _, World.ownsRow_nil _ _ _ _, World.ownsRow_nil _ _ _ _, World.ownsRow_nil _ _ _ _, World.ownsRow_nil _ _ _ _⟩

/-- What a reading of a packet hands back. -/
def ParPost (w : World) (q : Pk) (e : Ending) (w' : World) : Prop :=
  ∃ s, e = .returned (pkV q s) ∧ PkOwn w' w.heap.size q s ∧ Below w.heap.size w w'
theorem own_set {w : World} {base n size g : Nat} {E : TypeId} {v : Value} {xs : List Value} (h : w.ownsRow base E size v n xs) (hg : g < base) (cs : Array Value) : (w.setRow g cs).ownsRow base E size v n xs :=
  own_to h fun b hb _ => by
    simp only [World.setRow]
    rw [Array.getElem?_modify, if_neg (by omega)]
theorem setRow_size (w : World) (g : Nat) (cs : Array Value) : (w.setRow g cs).heap.size = w.heap.size := by simp [World.setRow]

theorem par_fin {w w2 : World} {q : Pk} {s : Sv} (base : Nat) (hb : w.heap.size < base) (o1 : w2.ownsRow base 5 1 (.slice s.pA q.pay.length s.pC) q.pay.length (Lib.byteCells q.pay)) (o2 : w2.ownsRow base 5 1 (.slice s.wA q.wpay.length s.wC) q.wpay.length (Lib.byteCells q.wpay))
    (o3 : w2.ownsRow base 5 1 (.slice s.uA q.pass.length s.uC) q.pass.length (Lib.byteCells q.pass)) (o4 : w2.ownsRow base 70 2 (.slice s.sA q.subs.length s.sC) q.subs.length (subCells q.subs)) (o5 : w2.ownsRow base 3 1 (.slice s.cA q.codes.length s.cC) q.codes.length (intCells q.codes))
    (bl : Below w.heap.size w w2) (cs : Array Value) : PkOwn (w2.setRow w.heap.size cs) w.heap.size q s ∧ Below w.heap.size w (w2.setRow w.heap.size cs) :=
  ⟨((PkOwn.mk o1 o2 o3 o4 o5).set hb cs).mono (by omega), below_setRow bl (Nat.le_refl _) _⟩
theorem nil_row {w : World} {base size : Nat} {E : TypeId} {A : Option Addr} {c n : Nat} {xs : List Value} (hA : A = none) (hc : c = 0) (hn : n = 0) (hx : xs = []) : w.ownsRow base E size (.slice A n c) n xs := by
  subst hA hc hn hx
  exact World.ownsRow_nil _ _ _ _

set_option maxRecDepth 100000 in
set_option maxHeartbeats 8000000 in
theorem parse_1 (c : Int) (h0 : 0 ≤ c) (h1 : c ≤ 255) (hj : c / 16 = 1) (l : List UInt8) (ad : Addr) (cap : Nat) (w : World) (hv : BytesAt w w.heap.size (.slice (some ad) l.length cap) l) :
    Calls Try.prog 54 #[.int .u8 c, .slice (some ad) l.length cap] w (ParPost w (parR c l)) := by
  have HH := Lib.hid (fun W => headOf_any c h0 h1 W)
  have e : hdP c = { pk0 with kind := c / 16 } := by unfold hdP; rw [hj]; rfl
  have EQ : parR c l = conP (hdP c) l := by rw [e, conR_eq]; unfold parR; simp only [e, hj]; rfl
  have k1 : ((hdP c).kind == 1) = true := by rw [e]; simp [hj]
  have K : Hid ((hdP c).pay = [] ∧ (hdP c).wpay = [] ∧ (hdP c).pass = [] ∧ (hdP c).subs = [] ∧ (hdP c).codes = []) := Lib.hid (by rw [e]; exact ⟨rfl, rfl, rfl, rfl, rfl⟩)
  rw [EQ]
  clear EQ e
  generalize hdP c = P at *
  have HV := Lib.hid hv
  clear hv
  go_enter Try.func54, Try.ntmps54
  go_wp2_with fail
  refine (HH.out _).mono ?_
  rintro e w1 ⟨rfl, hb1⟩
  have r0 := heap_below hb1 (heap_alloc_last _ _)
  have R0 := Lib.hid r0
  have z1 : w.heap.size < w1.heap.size := by have := hb1.size; simp at this; omega
  have B1 := Lib.hid hb1
  clear r0 hb1 HH
  go_wp2_with ((with_reducible show wpList _ _ _ ({ dst := _, op := Op.store 28 (Operand.tmp 5) _, type := _, pos := _, after := _, guard := _ } :: _) _ _); refine stLst (w1.heap.size) (by rfl) _ (pkC P sv0) (by rfl) (by rfl) (by rfl) (by rfl) (pkc_one _ _) ?_)
  refine (con_any w.heap.size w1.heap.size (w1.heap.size + 1) ad cap l P sv0 _ ⟨heap_last2 _ _ _, ?_, ?_⟩ (by omega) (by omega) (heap_keep (heap_alloc_last _ _)) ?_ ?_).mono ?_
  · have bl := thn ((Below.refl w.heap.size w).alloc (Nat.le_refl _) _) B1.out
    exact HV.out.below ((bl.alloc (by omega) _).alloc (by simp; omega) _)
  · omega
  · rw [K.out.2.1]; exact World.ownsRow_nil _ _ _ _
  · rw [K.out.2.2.1]; exact World.ownsRow_nil _ _ _ _
  rintro e w2 ⟨rfl, hb2, s', row2, hs, ow2, op2⟩
  have q0 : w2.heap[w.heap.size]? = _ := (hb2.block _ (by omega)).trans (heap_keep (heap_keep R0.out))
  have W2 := Lib.hid (And.intro row2 (And.intro hs (And.intro ow2 op2)))
  have Q0 := Lib.hid q0
  have HB2 := Lib.hid hb2
  clear row2 hs ow2 op2 q0 hb2
  go_wp2_with (first
    | ((with_reducible show wpList _ _ _ ({ dst := _, op := Op.load 28 (Operand.tmp 5), type := _, pos := _, after := _, guard := _ } :: _) _ _); refine ld_pk (w1.heap.size) (by rfl) (by rfl) (pkC (conP P l) s') _ _ (by exact W2.out.1) (by rfl) ?_)
    | ((with_reducible show wpList _ _ _ ({ dst := _, op := Op.store 28 (Operand.tmp 4) _, type := _, pos := _, after := _, guard := _ } :: _) _ _); refine stR (w.heap.size) _ (pkC (conP P l) s') (by rfl) (by rfl) (by exact Q0.out) (by rfl) (by rfl) (pkc_one _ _) ?_))
  refine bodyPost_ret (v := .agg _) (results_cell_row (by rfl) _ _ (w.heap.size) 28 _ (0, 0) _ (by rfl) (setRow_heap _ _ _ _ _ _ (by exact Q0.out)) Try.underlying28 (by rfl) (by exact pk_sz)) (by rfl) ⟨s', rfl, ?_⟩
  obtain ⟨_, ⟨g1, g2, g3, g4, g5, g6⟩, ow2, op2⟩ := W2.out
  refine par_fin (w1.heap.size + 1) (by omega) (nil_row g1 g2 ?_ ?_) (own_mono3 ow2 (by simp)) (own_mono3 op2 (by simp)) (nil_row g3 g4 ?_ ?_) (nil_row g5 g6 ?_ ?_) ?_ _
  · show P.pay.length = 0
    rw [K.out.1]; rfl
  · show Lib.byteCells P.pay = []
    rw [K.out.1]; rfl
  · show P.subs.length = 0
    rw [K.out.2.2.2.1]; rfl
  · show subCells P.subs = []
    rw [K.out.2.2.2.1]; rfl
  · show P.codes.length = 0
    rw [K.out.2.2.2.2]; rfl
  · show intCells P.codes = []
    rw [K.out.2.2.2.2]; rfl
  · have bl := thn ((Below.refl w.heap.size w).alloc (Nat.le_refl _) _) B1.out
    exact ((bl.alloc (by omega) _).alloc (by simp; omega) _).trans (HB2.out.mono (by omega))
end Go.Proofs.Ytghcgdjpmgmaaaa

/- Reading, plainly: a right packet's bytes, with whatever behind them, are read as that packet. -/
namespace Go.Proofs.Ytghcgdjpmgmaaaa
open Go.RowKit Go.Lib
set_option linter.unusedVariables false

theorem beg_right (p : Pk) (f : RF p) (hd : p.qos = 0 → p.dup = false) (h3 : (p.kind == 3) = true) : begP (headP p) = true := by
  have hk : p.kind = 3 := by simpa using h3
  have e : headP p = 48 + (flagI p.dup 8 + p.qos * 2 + flagI p.ret 1) := by unfold headP; rw [if_pos h3, hk]; omega
  obtain ⟨q0, q1⟩ := f.qos
  have e1 : headP p / 16 = 3 := by
    rw [e]
    obtain ⟨a1, b1⟩ := flagI_in p.dup 8 (by omega)
    obtain ⟨a2, b2⟩ := flagI_in p.ret 1 (by omega)
    omega
  have e2 : headP p / 2 % 4 = p.qos := by rw [e]; cases p.dup <;> cases p.ret <;> simp [flagI] <;> omega
  have e3 : headP p / 8 % 2 = if p.dup then 1 else 0 := by rw [e]; cases p.dup <;> cases p.ret <;> simp [flagI] <;> omega
  unfold begP
  rw [e1, e2, e3]
  simp only [beq_self_eq_true, if_true, Bool.and_eq_true, inI_iff]
  refine ⟨⟨q0, q1⟩, ?_⟩
  by_cases q : p.qos = 0
  · rw [hd q]; simp
  · simp; left; omega
theorem beg_other (p : Pk) (f : RF p) (h3 : (p.kind == 3) = false) : begP (headP p) = true := by
  have e1 := hd_kind p f
  unfold begP
  rw [e1, h3]
  simp only [Bool.false_eq_true, if_false, Bool.and_eq_true, inI_iff]
  refine ⟨f.kind, ?_⟩
  unfold headP
  simp only [h3, Bool.false_eq_true, if_false, beq_self_eq_true]
theorem right_dup (p : Pk) (h : rightP p = true) (h3 : (p.kind == 3) = true) (hq : p.qos = 0) : p.dup = false := by
  have hk : p.kind = 3 := by simpa using h3
  simp only [rightP, Bool.and_eq_true, decide_eq_true_iff] at h
  obtain ⟨_, h⟩ := h
  have k1 : (p.kind == 1) = false := by simp [hk]
  have k2 : (p.kind == 2) = false := by simp [hk]
  simp [fitsP, k1, k2, h3, pfitsP, hq] at h
  exact h.2
theorem beg_of (p : Pk) (h : rightP p = true) : begP (headP p) = true := by
  have f := right_f p h
  rcases h3 : (p.kind == 3) with _ | _
  · exact beg_other p f h3
  · exact beg_right p f (right_dup p h h3) h3
theorem par_right (p : Pk) (h : rightP p = true) : parR (headP p) (bodyL p) = p := by
  rcases k1 : (p.kind == 1) with _ | _
  · exact par_enc p h k1
  · exact par_enc1 p h k1

theorem bnd_enc (p : Pk) (h : rightP p = true) (r : List UInt8) : bndP (encP p ++ r) = (1 + ((putL (lenP p)).length : Int), 1 + ((putL (lenP p)).length : Int) + lenP p, 0) := by
  have f := right_f p h
  obtain ⟨g1, g2⟩ := f.len
  obtain ⟨g3, g4⟩ := head_in p f
  have e : encP p ++ r = UInt8.ofNat (headP p).toNat :: (putL (lenP p) ++ (bodyL p ++ r)) := by unfold encP; simp [List.append_assoc]
  have hc : ((UInt8.ofNat (headP p).toNat).toNat : Int) = headP p := byte_of _ g3 g4
  have hb := body_len p
  rw [e]
  simp only [bndP]
  rw [hc, beg_of p h, back_T (lenP p) g1 (by omega)]
  simp only [Bool.true_eq_false, if_false, ne_eq, not_true_eq_false]
  rw [if_neg (by omega), if_neg]
  simp only [List.length_cons, List.length_append]
  omega
theorem enc_len (p : Pk) : ((encP p).length : Int) = 1 + (putL (lenP p)).length + lenP p := by
  have hb := body_len p
  unfold encP
  simp only [List.length_append, List.length_cons, List.length_nil]
  omega
theorem rd_enc (p : Pk) (h : rightP p = true) (r : List UInt8) : rdP (encP p ++ r) = (p, ((encP p).length : Int), 0) := by
  have f := right_f p h
  obtain ⟨g1, g2⟩ := f.len
  obtain ⟨g3, g4⟩ := head_in p f
  have hbn := bnd_enc p h r
  have hl := enc_len p
  have e : encP p ++ r = UInt8.ofNat (headP p).toNat :: (putL (lenP p) ++ (bodyL p ++ r)) := by unfold encP; simp [List.append_assoc]
  have hc : ((UInt8.ofNat (headP p).toNat).toNat : Int) = headP p := byte_of _ g3 g4
  have ht : (encP p ++ r).take (1 + ((putL (lenP p)).length : Int) + lenP p).toNat = encP p := by
    rw [← hl, Int.toNat_natCast]; exact List.take_left
  have hd : (encP p).drop (1 + ((putL (lenP p)).length : Int)).toNat = bodyL p := by
    have e1 : encP p = (UInt8.ofNat (headP p).toNat :: putL (lenP p)) ++ bodyL p := by unfold encP; simp
    rw [e1]
    have e2 : (1 + ((putL (lenP p)).length : Int)).toNat = (UInt8.ofNat (headP p).toNat :: putL (lenP p)).length := by simp only [List.length_cons]; omega
    rw [e2]; exact List.drop_left
  rw [e] at hbn ht ⊢
  simp only [rdP]
  rw [hbn, ht, hd, hc, par_right p h, h]
  simp only [ne_eq, not_true_eq_false, if_false, decide_true, Bool.and_self, if_true, ← hl]
theorem enc_inj (p q : Pk) (hp : rightP p = true) (hq : rightP q = true) (h : encP p = encP q) : p = q := by
  have h1 := rd_enc p hp []
  have h2 := rd_enc q hq []
  rw [h] at h1
  rw [h1] at h2
  injection h2
end Go.Proofs.Ytghcgdjpmgmaaaa
