/- StreamDies' drawn region: a call and six literal rows in whatever order. Written by gen_dl.py. -/
import Derived.Test.YtnhpacaoobpkhaaStm5
import Derived.Test.YtnhpacaoobpkhaaStm6
namespace Go.Proofs.Ytnhpacaoobpkhaa
open Go.RowKit Go.Lib
set_option linter.unusedVariables false
set_option linter.unusedSimpArgs false

abbrev dOps : Array Oper := #[{ dst := some 27, op := Go.Op.move (Go.Operand.tmp 0), type := 22, pos := "more.go:18", after := #[], guard := none },
      { dst := some 28, op := Go.Op.call { callee := Go.Callee.value (Go.Operand.func 27), args := #[Go.Operand.tmp 27, Go.Operand.const (Go.Value.slice none 0 0), Go.Operand.const (Go.Value.int Go.IntKind.u8 0)], argTypes := #[22, 22, 5] }, type := 22, pos := "more.go:18", after := #[{ on := 0, ground := Go.Ground.data }], guard := none },
      { dst := some 29, op := Go.Op.buildSlice 22 2 #[(0, Go.Operand.const (Go.Value.int Go.IntKind.u8 240)), (1, Go.Operand.const (Go.Value.int Go.IntKind.u8 0))], type := 22, pos := "more.go:18", after := #[], guard := none },
      { dst := some 30, op := Go.Op.buildSlice 22 1 #[(0, Go.Operand.const (Go.Value.int Go.IntKind.u8 0))], type := 22, pos := "more.go:18", after := #[], guard := none },
      { dst := some 31, op := Go.Op.buildSlice 22 2 #[(0, Go.Operand.const (Go.Value.int Go.IntKind.u8 54)), (1, Go.Operand.const (Go.Value.int Go.IntKind.u8 0))], type := 22, pos := "more.go:18", after := #[], guard := none },
      { dst := some 32, op := Go.Op.buildSlice 22 3 #[(0, Go.Operand.const (Go.Value.int Go.IntKind.u8 192)), (1, Go.Operand.const (Go.Value.int Go.IntKind.u8 1)), (2, Go.Operand.const (Go.Value.int Go.IntKind.u8 0))], type := 22, pos := "more.go:18", after := #[], guard := none },
      { dst := some 33, op := Go.Op.buildSlice 22 5 #[(0, Go.Operand.const (Go.Value.int Go.IntKind.u8 48)), (1, Go.Operand.const (Go.Value.int Go.IntKind.u8 255)), (2, Go.Operand.const (Go.Value.int Go.IntKind.u8 255)), (3, Go.Operand.const (Go.Value.int Go.IntKind.u8 255)), (4, Go.Operand.const (Go.Value.int Go.IntKind.u8 255))], type := 22, pos := "more.go:18", after := #[], guard := none },
      { dst := some 34, op := Go.Op.buildSlice 22 3 #[(0, Go.Operand.const (Go.Value.int Go.IntKind.u8 48)), (1, Go.Operand.const (Go.Value.int Go.IntKind.u8 255)), (2, Go.Operand.const (Go.Value.int Go.IntKind.u8 127))], type := 22, pos := "more.go:18", after := #[], guard := none },
      { dst := some 35, op := Go.Op.buildSlice 45 6 #[(0, Go.Operand.tmp 29), (1, Go.Operand.tmp 30), (2, Go.Operand.tmp 31), (3, Go.Operand.tmp 32), (4, Go.Operand.tmp 33), (5, Go.Operand.tmp 34)], type := 45, pos := "more.go:18", after := #[{ on := 2, ground := Go.Ground.data }, { on := 3, ground := Go.Ground.data }, { on := 4, ground := Go.Ground.data }, { on := 5, ground := Go.Ground.data }, { on := 6, ground := Go.Ground.data }, { on := 7, ground := Go.Ground.data }], guard := none },
      { dst := some 36, op := Go.Op.move (Go.Operand.tmp 1), type := 5, pos := "more.go:18", after := #[], guard := none },
      { dst := some 37, op := Go.Op.binOp Go.BinOp.rem 5 (Go.Operand.tmp 36) (Go.Operand.const (Go.Value.int Go.IntKind.u8 6)) 5, type := 5, pos := "more.go:18", after := #[{ on := 9, ground := Go.Ground.data }], guard := none },
      { dst := some 38, op := Go.Op.indexAddr 45 (Go.Operand.tmp 35) (Go.Operand.tmp 37), type := 0, pos := "more.go:18", after := #[{ on := 8, ground := Go.Ground.data }, { on := 10, ground := Go.Ground.data }], guard := none },
      { dst := some 39, op := Go.Op.load 22 (Go.Operand.tmp 38), type := 22, pos := "more.go:18", after := #[{ on := 11, ground := Go.Ground.data }], guard := none },
      { dst := some 40, op := Go.Op.call { callee := Go.Callee.builtin Go.Builtin.append, args := #[Go.Operand.tmp 28, Go.Operand.tmp 39], argTypes := #[22, 22] }, type := 22, pos := "more.go:18", after := #[{ on := 1, ground := Go.Ground.data }, { on := 12, ground := Go.Ground.data }, { on := 1, ground := Go.Ground.chain }], guard := none },
      { dst := some 8, op := Go.Op.assign (Go.Operand.tmp 40), type := 22, pos := "more.go:18", after := #[{ on := 13, ground := Go.Ground.data }, { on := 13, ground := Go.Ground.chain }, { on := 0, ground := Go.Ground.phase }, { on := 1, ground := Go.Ground.phase }, { on := 2, ground := Go.Ground.phase }, { on := 3, ground := Go.Ground.phase }, { on := 4, ground := Go.Ground.phase }, { on := 5, ground := Go.Ground.phase }, { on := 6, ground := Go.Ground.phase }, { on := 7, ground := Go.Ground.phase }, { on := 8, ground := Go.Ground.phase }, { on := 9, ground := Go.Ground.phase }, { on := 10, ground := Go.Ground.phase }, { on := 11, ground := Go.Ground.phase }, { on := 12, ground := Go.Ground.phase }, { on := 13, ground := Go.Ground.phase }], guard := none }]
def F1 (w0 W : World) (N : Nat) (t : Value) : Prop := ∃ (A : Option Addr) (C : Nat) (T : List UInt8), t = .slice A T.length C ∧ W.ownsRow w0.heap.size 5 1 (.slice A T.length C) T.length (Lib.byteCells T) ∧ SomeP N [] T
theorem F1.on {w0 W W' : World} {N : Nat} {t : Value} (h : F1 w0 W N t) (hb : Below W.heap.size W W') : F1 w0 W' N t := by
  obtain ⟨A, C, T, e, o, p⟩ := h
  exact ⟨A, C, T, e, own_below o hb, p⟩
theorem bytes_nil0 (W : World) : BytesAt W W.heap.size (.slice none (([] : List UInt8)).length 0) [] := ⟨none, 0, rfl, Nat.le_refl _, by unfold maxLen; simp, fun _ => rfl, fun _ h => (by cases h), fun _ h => (by cases h)⟩
theorem d_ready (b1 b2 b3 b4 b5 b6 b7 : Bool) (h : (b2 && b3 && b4 && b5 && b6 && b7) = false) : Region.ready .any dOps #[true, b1, b2, b3, b4, b5, b6, b7, false, true, true, false, false, false, false] = (if b1 then [] else [1]) ++ (if b2 then [] else [2]) ++ (if b3 then [] else [3]) ++ (if b4 then [] else [4]) ++ (if b5 then [] else [5]) ++ (if b6 then [] else [6]) ++ (if b7 then [] else [7]) := by
  cases b2 <;> cases b3 <;> cases b4 <;> cases b5 <;> cases b6 <;> cases b7 <;> first | (cases h; done) | (cases b1 <;> kernel_rfl)

set_option maxRecDepth 100000 in
set_option maxHeartbeats 8000000 in
theorem dies_lits {Q : Exit → Act → World → Prop} (HS : SeatAny6) (KA : Option Addr) (kc : Nat) (K : List UInt8) (N : Nat) (k : Int) (w0 : World) (hK0 : Hid (BytesAt w0 w0.heap.size (.slice KA N kc) K)) (HN : Hid (K.length = N)) (hN : N ≤ 10)
    (x1 x2 x3 x4 x5 x6 x7 x8 x9 x10 x11 x12 x13 x14 x15 x16 x17 x18 x19 x20 x21 x22 x23 x24 x25 x26 x35 x38 x39 x40 x41 x42 x43 x44 x45 x46 x47 x48 x49 x50 x51 x52 x53 x54 x55 x56 x57 x58 x59 x60 x61 x62 x63 x64 x65 x66 x67 x68 x69 x70 x71 x72 x73 x74 x75 x76 x77 x78 x79 x80 x81 x82 x83 x84 x85 x86 x87 x88 x89 x90 x91 x92 x93 x94 x95 x96 x97 x98 x99 : Value)
    (fin : ∀ (t28 t29 t30 t31 t32 t33 t34 : Value) (W : World), Below w0.heap.size w0 W → F1 w0 W N t28 → BytesAt W W.heap.size t29 [240, 0] → BytesAt W W.heap.size t30 [0] → BytesAt W W.heap.size t31 [54, 0] → BytesAt W W.heap.size t32 [192, 1, 0] → BytesAt W W.heap.size t33 [48, 255, 255, 255, 255] → BytesAt W W.heap.size t34 [48, 255, 127] → wpAnyH Try.prog .any (dOps) Q (fun W => Below w0.heap.size w0 W) 5 #[true, true, true, true, true, true, true, true, false, true, true, false, false, false, false] { tmps := #[.slice KA N kc, x1, x2, x3, x4, x5, x6, x7, x8, x9, x10, x11, x12, x13, x14, x15, x16, x17, x18, x19, x20, x21, x22, x23, x24, x25, x26, .slice KA N kc, t28, t29, t30, t31, t32, t33, t34, x35, .int .u8 k, .int .u8 (k % 6), x38, x39, x40, x41, x42, x43, x44, x45, x46, x47, x48, x49, x50, x51, x52, x53, x54, x55, x56, x57, x58, x59, x60, x61, x62, x63, x64, x65, x66, x67, x68, x69, x70, x71, x72, x73, x74, x75, x76, x77, x78, x79, x80, x81, x82, x83, x84, x85, x86, x87, x88, x89, x90, x91, x92, x93, x94, x95, x96, x97, x98, x99], defers := [] } W)
    (fin2 : ∀ (t28 t29 t30 t31 t32 t33 t34 : Value) (W : World), Below w0.heap.size w0 W → BytesAt W W.heap.size t29 [240, 0] → BytesAt W W.heap.size t30 [0] → BytesAt W W.heap.size t31 [54, 0] → BytesAt W W.heap.size t32 [192, 1, 0] → BytesAt W W.heap.size t33 [48, 255, 255, 255, 255] → BytesAt W W.heap.size t34 [48, 255, 127] → wpAnyH Try.prog .any (dOps) Q (fun W => Below w0.heap.size w0 W) 6 #[true, false, true, true, true, true, true, true, false, true, true, false, false, false, false] { tmps := #[.slice KA N kc, x1, x2, x3, x4, x5, x6, x7, x8, x9, x10, x11, x12, x13, x14, x15, x16, x17, x18, x19, x20, x21, x22, x23, x24, x25, x26, .slice KA N kc, t28, t29, t30, t31, t32, t33, t34, x35, .int .u8 k, .int .u8 (k % 6), x38, x39, x40, x41, x42, x43, x44, x45, x46, x47, x48, x49, x50, x51, x52, x53, x54, x55, x56, x57, x58, x59, x60, x61, x62, x63, x64, x65, x66, x67, x68, x69, x70, x71, x72, x73, x74, x75, x76, x77, x78, x79, x80, x81, x82, x83, x84, x85, x86, x87, x88, x89, x90, x91, x92, x93, x94, x95, x96, x97, x98, x99], defers := [] } W) :
    ∀ (n : Nat) (b1 b2 b3 b4 b5 b6 b7 : Bool) (t28 t29 t30 t31 t32 t33 t34 : Value) (W : World), (!b1).toNat + (!b2).toNat + (!b3).toNat + (!b4).toNat + (!b5).toNat + (!b6).toNat + (!b7).toNat = n → Below w0.heap.size w0 W → (b1 = true → F1 w0 W N t28) → (b2 = true → BytesAt W W.heap.size t29 [240, 0]) → (b3 = true → BytesAt W W.heap.size t30 [0]) → (b4 = true → BytesAt W W.heap.size t31 [54, 0]) → (b5 = true → BytesAt W W.heap.size t32 [192, 1, 0]) → (b6 = true → BytesAt W W.heap.size t33 [48, 255, 255, 255, 255]) → (b7 = true → BytesAt W W.heap.size t34 [48, 255, 127]) → wpAnyH Try.prog .any (dOps) Q (fun W => Below w0.heap.size w0 W) (n + 5) #[true, b1, b2, b3, b4, b5, b6, b7, false, true, true, false, false, false, false] { tmps := #[.slice KA N kc, x1, x2, x3, x4, x5, x6, x7, x8, x9, x10, x11, x12, x13, x14, x15, x16, x17, x18, x19, x20, x21, x22, x23, x24, x25, x26, .slice KA N kc, t28, t29, t30, t31, t32, t33, t34, x35, .int .u8 k, .int .u8 (k % 6), x38, x39, x40, x41, x42, x43, x44, x45, x46, x47, x48, x49, x50, x51, x52, x53, x54, x55, x56, x57, x58, x59, x60, x61, x62, x63, x64, x65, x66, x67, x68, x69, x70, x71, x72, x73, x74, x75, x76, x77, x78, x79, x80, x81, x82, x83, x84, x85, x86, x87, x88, x89, x90, x91, x92, x93, x94, x95, x96, x97, x98, x99], defers := [] } W := by
  intro n
  induction n with
  | zero =>
    intro b1 b2 b3 b4 b5 b6 b7 t28 t29 t30 t31 t32 t33 t34 W hn hS h1 h2 h3 h4 h5 h6 h7
    have e1 : b1 = true := by cases b1 <;> simp at hn ⊢ <;> omega
    have e2 : b2 = true := by cases b2 <;> simp at hn ⊢ <;> omega
    have e3 : b3 = true := by cases b3 <;> simp at hn ⊢ <;> omega
    have e4 : b4 = true := by cases b4 <;> simp at hn ⊢ <;> omega
    have e5 : b5 = true := by cases b5 <;> simp at hn ⊢ <;> omega
    have e6 : b6 = true := by cases b6 <;> simp at hn ⊢ <;> omega
    have e7 : b7 = true := by cases b7 <;> simp at hn ⊢ <;> omega
    subst e1 e2 e3 e4 e5 e6 e7
    exact fin _ _ _ _ _ _ _ W hS (h1 rfl) (h2 rfl) (h3 rfl) (h4 rfl) (h5 rfl) (h6 rfl) (h7 rfl)
  | succ n ih =>
    intro b1 b2 b3 b4 b5 b6 b7 t28 t29 t30 t31 t32 t33 t34 W hn hS h1 h2 h3 h4 h5 h6 h7
    by_cases hall : (b2 && b3 && b4 && b5 && b6 && b7) = true
    · simp only [Bool.and_eq_true] at hall
      obtain ⟨⟨⟨⟨⟨e2, e3⟩, e4⟩, e5⟩, e6⟩, e7⟩ := hall
      subst e2 e3 e4 e5 e6 e7
      have e1 : b1 = false := by cases b1 <;> simp at hn ⊢
      subst e1
      obtain rfl : n = 0 := by simp at hn; exact hn
      exact fin2 _ _ _ _ _ _ _ W hS (h2 rfl) (h3 rfl) (h4 rfl) (h5 rfl) (h6 rfl) (h7 rfl)
    have hr := d_ready b1 b2 b3 b4 b5 b6 b7 (by simpa using hall)
    have hcase : ∀ i ∈ Region.ready .any dOps #[true, b1, b2, b3, b4, b5, b6, b7, false, true, true, false, false, false, false], (i = 1 ∧ b1 = false) ∨ (i = 2 ∧ b2 = false) ∨ (i = 3 ∧ b3 = false) ∨ (i = 4 ∧ b4 = false) ∨ (i = 5 ∧ b5 = false) ∨ (i = 6 ∧ b6 = false) ∨ (i = 7 ∧ b7 = false) := by
      rw [hr]
      clear h1 h2 h3 h4 h5 h6 h7 hr hall hn ih fin fin2
      intro i hi
      cases b1 <;> cases b2 <;> cases b3 <;> cases b4 <;> cases b5 <;> cases b6 <;> cases b7 <;> simp at hi ⊢ <;> omega
    refine ⟨fun h0 => ?_, fun i hi => ?_⟩
    · rw [hr] at h0
      exfalso
      apply hall
      clear h1 h2 h3 h4 h5 h6 h7 hr hall hn ih fin fin2 hcase
      cases b2 <;> cases b3 <;> cases b4 <;> cases b5 <;> cases b6 <;> cases b7 <;> simp at h0 ⊢
    rcases hcase i hi with ⟨rfl, e⟩ | ⟨rfl, e⟩ | ⟨rfl, e⟩ | ⟨rfl, e⟩ | ⟨rfl, e⟩ | ⟨rfl, e⟩ | ⟨rfl, e⟩ <;> clear hcase hr hall hi
    · subst e
      refine (AllReadyH.cons (o := { dst := some 28, op := Go.Op.call { callee := Go.Callee.value (Go.Operand.func 27), args := #[Go.Operand.tmp 27, Go.Operand.const (Go.Value.slice none 0 0), Go.Operand.const (Go.Value.int Go.IntKind.u8 0)], argTypes := #[22, 22, 5] }, type := 22, pos := "more.go:18", after := #[{ on := 0, ground := Go.Ground.data }], guard := none }) rfl (fun K' hK => ?_) AllReadyH.nil : AllReadyH Try.prog .any dOps Q _ _ _ _ _ [1]) 1 (by simp)
      rw [if_pos (by kernel_rfl)]
      go_wp2_with fail
      have SA := some_any HS KA kc K none 0 [] 0 W (by rw [HN.out]; exact hK0.out.on hS) (by rw [HN.out]; omega) (bytes_nil0 W) (fun _ => rfl) (by simp) (by omega)
      rw [HN.out, List.length_nil] at SA
      refine SA.mono ?_
      rintro e w1 ⟨A1, C1, T1, rfl, ⟨o1, hb1⟩, hp1⟩
      go_wp2_with fail
      refine hK.out _ _ (hS.trans (hb1.mono hS.size)) (fun hS' => ?_)
      simp only [List.setIfInBounds_toArray, List.set_cons_zero, List.set_cons_succ]
      have hc : (!true).toNat + (!b2).toNat + (!b3).toNat + (!b4).toNat + (!b5).toNat + (!b6).toNat + (!b7).toNat = n := by
        clear ih fin fin2 h1 h2 h3 h4 h5 h6 h7
        simp only [Bool.not_false, Bool.not_true, Bool.toNat_true, Bool.toNat_false] at hn ⊢
        omega
      exact ih true b2 b3 b4 b5 b6 b7 (.slice A1 T1.length C1) t29 t30 t31 t32 t33 t34 w1 hc hS' (fun _ => ⟨A1, C1, T1, rfl, own_mono3 o1 hS.size, hp1⟩) (fun q => (h2 q).on hb1) (fun q => (h3 q).on hb1) (fun q => (h4 q).on hb1) (fun q => (h5 q).on hb1) (fun q => (h6 q).on hb1) (fun q => (h7 q).on hb1)
    · subst e
      refine (AllReadyH.cons (o := { dst := some 29, op := Go.Op.buildSlice 22 2 #[(0, Go.Operand.const (Go.Value.int Go.IntKind.u8 240)), (1, Go.Operand.const (Go.Value.int Go.IntKind.u8 0))], type := 22, pos := "more.go:18", after := #[], guard := none }) rfl (fun K' hK => ?_) AllReadyH.nil : AllReadyH Try.prog .any dOps Q _ _ _ _ _ [2]) 2 (by simp)
      rw [if_pos (by kernel_rfl)]
      go_wp2_with fail
      have hb1 : Below W.heap.size W (W.alloc (.cells #[.int .u8 240, .int .u8 0] 5)) := alB (Below.refl _ _) _
      have hnew : BytesAt (W.alloc (.cells #[.int .u8 240, .int .u8 0] 5)) (W.alloc (.cells #[.int .u8 240, .int .u8 0] 5)).heap.size (.slice (some ⟨W.heap.size, 0, none⟩) 2 2) [240, 0] := by
        rw [size1 W (.cells #[.int .u8 240, .int .u8 0] 5)]
        exact bytesAt_new W [240, 0] #[.int .u8 240, .int .u8 0] (0, 0) rfl (by unfold maxLen; simp)
      refine hK.out _ _ (hS.trans (hb1.mono hS.size)) (fun hS' => ?_)
      simp only [List.setIfInBounds_toArray, List.set_cons_zero, List.set_cons_succ]
      have hc : (!b1).toNat + (!true).toNat + (!b3).toNat + (!b4).toNat + (!b5).toNat + (!b6).toNat + (!b7).toNat = n := by
        clear ih fin fin2 h1 h2 h3 h4 h5 h6 h7
        simp only [Bool.not_false, Bool.not_true, Bool.toNat_true, Bool.toNat_false] at hn ⊢
        omega
      exact ih b1 true b3 b4 b5 b6 b7 t28 (.slice (some ⟨W.heap.size, 0, none⟩) 2 2) t30 t31 t32 t33 t34 _ hc hS' (fun q => (h1 q).on hb1) (fun _ => hnew) (fun q => (h3 q).on hb1) (fun q => (h4 q).on hb1) (fun q => (h5 q).on hb1) (fun q => (h6 q).on hb1) (fun q => (h7 q).on hb1)
    · subst e
      refine (AllReadyH.cons (o := { dst := some 30, op := Go.Op.buildSlice 22 1 #[(0, Go.Operand.const (Go.Value.int Go.IntKind.u8 0))], type := 22, pos := "more.go:18", after := #[], guard := none }) rfl (fun K' hK => ?_) AllReadyH.nil : AllReadyH Try.prog .any dOps Q _ _ _ _ _ [3]) 3 (by simp)
      rw [if_pos (by kernel_rfl)]
      go_wp2_with fail
      have hb1 : Below W.heap.size W (W.alloc (.cells #[.int .u8 0] 5)) := alB (Below.refl _ _) _
      have hnew : BytesAt (W.alloc (.cells #[.int .u8 0] 5)) (W.alloc (.cells #[.int .u8 0] 5)).heap.size (.slice (some ⟨W.heap.size, 0, none⟩) 1 1) [0] := by
        rw [size1 W (.cells #[.int .u8 0] 5)]
        exact bytesAt_new W [0] #[.int .u8 0] (0, 0) rfl (by unfold maxLen; simp)
      refine hK.out _ _ (hS.trans (hb1.mono hS.size)) (fun hS' => ?_)
      simp only [List.setIfInBounds_toArray, List.set_cons_zero, List.set_cons_succ]
      have hc : (!b1).toNat + (!b2).toNat + (!true).toNat + (!b4).toNat + (!b5).toNat + (!b6).toNat + (!b7).toNat = n := by
        clear ih fin fin2 h1 h2 h3 h4 h5 h6 h7
        simp only [Bool.not_false, Bool.not_true, Bool.toNat_true, Bool.toNat_false] at hn ⊢
        omega
      exact ih b1 b2 true b4 b5 b6 b7 t28 t29 (.slice (some ⟨W.heap.size, 0, none⟩) 1 1) t31 t32 t33 t34 _ hc hS' (fun q => (h1 q).on hb1) (fun q => (h2 q).on hb1) (fun _ => hnew) (fun q => (h4 q).on hb1) (fun q => (h5 q).on hb1) (fun q => (h6 q).on hb1) (fun q => (h7 q).on hb1)
    · subst e
      refine (AllReadyH.cons (o := { dst := some 31, op := Go.Op.buildSlice 22 2 #[(0, Go.Operand.const (Go.Value.int Go.IntKind.u8 54)), (1, Go.Operand.const (Go.Value.int Go.IntKind.u8 0))], type := 22, pos := "more.go:18", after := #[], guard := none }) rfl (fun K' hK => ?_) AllReadyH.nil : AllReadyH Try.prog .any dOps Q _ _ _ _ _ [4]) 4 (by simp)
      rw [if_pos (by kernel_rfl)]
      go_wp2_with fail
      have hb1 : Below W.heap.size W (W.alloc (.cells #[.int .u8 54, .int .u8 0] 5)) := alB (Below.refl _ _) _
      have hnew : BytesAt (W.alloc (.cells #[.int .u8 54, .int .u8 0] 5)) (W.alloc (.cells #[.int .u8 54, .int .u8 0] 5)).heap.size (.slice (some ⟨W.heap.size, 0, none⟩) 2 2) [54, 0] := by
        rw [size1 W (.cells #[.int .u8 54, .int .u8 0] 5)]
        exact bytesAt_new W [54, 0] #[.int .u8 54, .int .u8 0] (0, 0) rfl (by unfold maxLen; simp)
      refine hK.out _ _ (hS.trans (hb1.mono hS.size)) (fun hS' => ?_)
      simp only [List.setIfInBounds_toArray, List.set_cons_zero, List.set_cons_succ]
      have hc : (!b1).toNat + (!b2).toNat + (!b3).toNat + (!true).toNat + (!b5).toNat + (!b6).toNat + (!b7).toNat = n := by
        clear ih fin fin2 h1 h2 h3 h4 h5 h6 h7
        simp only [Bool.not_false, Bool.not_true, Bool.toNat_true, Bool.toNat_false] at hn ⊢
        omega
      exact ih b1 b2 b3 true b5 b6 b7 t28 t29 t30 (.slice (some ⟨W.heap.size, 0, none⟩) 2 2) t32 t33 t34 _ hc hS' (fun q => (h1 q).on hb1) (fun q => (h2 q).on hb1) (fun q => (h3 q).on hb1) (fun _ => hnew) (fun q => (h5 q).on hb1) (fun q => (h6 q).on hb1) (fun q => (h7 q).on hb1)
    · subst e
      refine (AllReadyH.cons (o := { dst := some 32, op := Go.Op.buildSlice 22 3 #[(0, Go.Operand.const (Go.Value.int Go.IntKind.u8 192)), (1, Go.Operand.const (Go.Value.int Go.IntKind.u8 1)), (2, Go.Operand.const (Go.Value.int Go.IntKind.u8 0))], type := 22, pos := "more.go:18", after := #[], guard := none }) rfl (fun K' hK => ?_) AllReadyH.nil : AllReadyH Try.prog .any dOps Q _ _ _ _ _ [5]) 5 (by simp)
      rw [if_pos (by kernel_rfl)]
      go_wp2_with fail
      have hb1 : Below W.heap.size W (W.alloc (.cells #[.int .u8 192, .int .u8 1, .int .u8 0] 5)) := alB (Below.refl _ _) _
      have hnew : BytesAt (W.alloc (.cells #[.int .u8 192, .int .u8 1, .int .u8 0] 5)) (W.alloc (.cells #[.int .u8 192, .int .u8 1, .int .u8 0] 5)).heap.size (.slice (some ⟨W.heap.size, 0, none⟩) 3 3) [192, 1, 0] := by
        rw [size1 W (.cells #[.int .u8 192, .int .u8 1, .int .u8 0] 5)]
        exact bytesAt_new W [192, 1, 0] #[.int .u8 192, .int .u8 1, .int .u8 0] (0, 0) rfl (by unfold maxLen; simp)
      refine hK.out _ _ (hS.trans (hb1.mono hS.size)) (fun hS' => ?_)
      simp only [List.setIfInBounds_toArray, List.set_cons_zero, List.set_cons_succ]
      have hc : (!b1).toNat + (!b2).toNat + (!b3).toNat + (!b4).toNat + (!true).toNat + (!b6).toNat + (!b7).toNat = n := by
        clear ih fin fin2 h1 h2 h3 h4 h5 h6 h7
        simp only [Bool.not_false, Bool.not_true, Bool.toNat_true, Bool.toNat_false] at hn ⊢
        omega
      exact ih b1 b2 b3 b4 true b6 b7 t28 t29 t30 t31 (.slice (some ⟨W.heap.size, 0, none⟩) 3 3) t33 t34 _ hc hS' (fun q => (h1 q).on hb1) (fun q => (h2 q).on hb1) (fun q => (h3 q).on hb1) (fun q => (h4 q).on hb1) (fun _ => hnew) (fun q => (h6 q).on hb1) (fun q => (h7 q).on hb1)
    · subst e
      refine (AllReadyH.cons (o := { dst := some 33, op := Go.Op.buildSlice 22 5 #[(0, Go.Operand.const (Go.Value.int Go.IntKind.u8 48)), (1, Go.Operand.const (Go.Value.int Go.IntKind.u8 255)), (2, Go.Operand.const (Go.Value.int Go.IntKind.u8 255)), (3, Go.Operand.const (Go.Value.int Go.IntKind.u8 255)), (4, Go.Operand.const (Go.Value.int Go.IntKind.u8 255))], type := 22, pos := "more.go:18", after := #[], guard := none }) rfl (fun K' hK => ?_) AllReadyH.nil : AllReadyH Try.prog .any dOps Q _ _ _ _ _ [6]) 6 (by simp)
      rw [if_pos (by kernel_rfl)]
      go_wp2_with fail
      have hb1 : Below W.heap.size W (W.alloc (.cells #[.int .u8 48, .int .u8 255, .int .u8 255, .int .u8 255, .int .u8 255] 5)) := alB (Below.refl _ _) _
      have hnew : BytesAt (W.alloc (.cells #[.int .u8 48, .int .u8 255, .int .u8 255, .int .u8 255, .int .u8 255] 5)) (W.alloc (.cells #[.int .u8 48, .int .u8 255, .int .u8 255, .int .u8 255, .int .u8 255] 5)).heap.size (.slice (some ⟨W.heap.size, 0, none⟩) 5 5) [48, 255, 255, 255, 255] := by
        rw [size1 W (.cells #[.int .u8 48, .int .u8 255, .int .u8 255, .int .u8 255, .int .u8 255] 5)]
        exact bytesAt_new W [48, 255, 255, 255, 255] #[.int .u8 48, .int .u8 255, .int .u8 255, .int .u8 255, .int .u8 255] (0, 0) rfl (by unfold maxLen; simp)
      refine hK.out _ _ (hS.trans (hb1.mono hS.size)) (fun hS' => ?_)
      simp only [List.setIfInBounds_toArray, List.set_cons_zero, List.set_cons_succ]
      have hc : (!b1).toNat + (!b2).toNat + (!b3).toNat + (!b4).toNat + (!b5).toNat + (!true).toNat + (!b7).toNat = n := by
        clear ih fin fin2 h1 h2 h3 h4 h5 h6 h7
        simp only [Bool.not_false, Bool.not_true, Bool.toNat_true, Bool.toNat_false] at hn ⊢
        omega
      exact ih b1 b2 b3 b4 b5 true b7 t28 t29 t30 t31 t32 (.slice (some ⟨W.heap.size, 0, none⟩) 5 5) t34 _ hc hS' (fun q => (h1 q).on hb1) (fun q => (h2 q).on hb1) (fun q => (h3 q).on hb1) (fun q => (h4 q).on hb1) (fun q => (h5 q).on hb1) (fun _ => hnew) (fun q => (h7 q).on hb1)
    · subst e
      refine (AllReadyH.cons (o := { dst := some 34, op := Go.Op.buildSlice 22 3 #[(0, Go.Operand.const (Go.Value.int Go.IntKind.u8 48)), (1, Go.Operand.const (Go.Value.int Go.IntKind.u8 255)), (2, Go.Operand.const (Go.Value.int Go.IntKind.u8 127))], type := 22, pos := "more.go:18", after := #[], guard := none }) rfl (fun K' hK => ?_) AllReadyH.nil : AllReadyH Try.prog .any dOps Q _ _ _ _ _ [7]) 7 (by simp)
      rw [if_pos (by kernel_rfl)]
      go_wp2_with fail
      have hb1 : Below W.heap.size W (W.alloc (.cells #[.int .u8 48, .int .u8 255, .int .u8 127] 5)) := alB (Below.refl _ _) _
      have hnew : BytesAt (W.alloc (.cells #[.int .u8 48, .int .u8 255, .int .u8 127] 5)) (W.alloc (.cells #[.int .u8 48, .int .u8 255, .int .u8 127] 5)).heap.size (.slice (some ⟨W.heap.size, 0, none⟩) 3 3) [48, 255, 127] := by
        rw [size1 W (.cells #[.int .u8 48, .int .u8 255, .int .u8 127] 5)]
        exact bytesAt_new W [48, 255, 127] #[.int .u8 48, .int .u8 255, .int .u8 127] (0, 0) rfl (by unfold maxLen; simp)
      refine hK.out _ _ (hS.trans (hb1.mono hS.size)) (fun hS' => ?_)
      simp only [List.setIfInBounds_toArray, List.set_cons_zero, List.set_cons_succ]
      have hc : (!b1).toNat + (!b2).toNat + (!b3).toNat + (!b4).toNat + (!b5).toNat + (!b6).toNat + (!true).toNat = n := by
        clear ih fin fin2 h1 h2 h3 h4 h5 h6 h7
        simp only [Bool.not_false, Bool.not_true, Bool.toNat_true, Bool.toNat_false] at hn ⊢
        omega
      exact ih b1 b2 b3 b4 b5 b6 true t28 t29 t30 t31 t32 t33 (.slice (some ⟨W.heap.size, 0, none⟩) 3 3) _ hc hS' (fun q => (h1 q).on hb1) (fun q => (h2 q).on hb1) (fun q => (h3 q).on hb1) (fun q => (h4 q).on hb1) (fun q => (h5 q).on hb1) (fun q => (h6 q).on hb1) (fun _ => hnew)
end Go.Proofs.Ytnhpacaoobpkhaa
