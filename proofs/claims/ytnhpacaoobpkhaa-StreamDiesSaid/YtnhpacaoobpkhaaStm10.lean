/- StreamDies' drawn region, behind the literals. Written by gen_df.py. -/
import Derived.Test.YtnhpacaoobpkhaaStm9
namespace Go.Proofs.Ytnhpacaoobpkhaa
open Go.RowKit Go.Lib
set_option linter.unusedVariables false
set_option linter.unusedSimpArgs false

def dlit (j : Int) : List UInt8 := if j = 0 then [240, 0] else if j = 1 then [0] else if j = 2 then [54, 0] else if j = 3 then [192, 1, 0] else if j = 4 then [48, 255, 255, 255, 255] else [48, 255, 127]
set_option maxRecDepth 100000 in
set_option maxHeartbeats 8000000 in
theorem dies_fin {Q : Exit → Act → World → Prop} (KA : Option Addr) (kc : Nat) (N : Nat) (k : Int) (w0 : World) (hN : N ≤ 10) (hk : 0 ≤ k)
    (x1 x2 x3 x4 x5 x6 x7 x8 x9 x10 x11 x12 x13 x14 x15 x16 x17 x18 x19 x20 x21 x22 x23 x24 x25 x26 x35 x38 x39 x40 x41 x42 x43 x44 x45 x46 x47 x48 x49 x50 x51 x52 x53 x54 x55 x56 x57 x58 x59 x60 x61 x62 x63 x64 x65 x66 x67 x68 x69 x70 x71 x72 x73 x74 x75 x76 x77 x78 x79 x80 x81 x82 x83 x84 x85 x86 x87 x88 x89 x90 x91 x92 x93 x94 x95 x96 x97 x98 x99 : Value)
    (hQ : ∀ (t29 t30 t31 t32 t33 t34 t38 t39 : Value) (g n : Nat) (A1 A4 : Option Addr) (C1 C4 : Nat) (T : List UInt8) (W : World), Below w0.heap.size w0 W → SomeP N [] T → T.length = n → W.ownsRow w0.heap.size 5 1 (.slice A4 (n + (dlit (k % 6)).length) C4) (n + (dlit (k % 6)).length) (Lib.byteCells (T ++ dlit (k % 6))) →
      Q .normal { tmps := #[.slice KA N kc, x1, x2, x3, x4, x5, x6, x7, .slice A4 (n + (dlit (k % 6)).length) C4, x9, x10, x11, x12, x13, x14, x15, x16, x17, x18, x19, x20, x21, x22, x23, x24, x25, x26, .slice KA N kc, .slice A1 n C1, t29, t30, t31, t32, t33, t34, .slice (some ⟨g, 0, none⟩) 6 6, .int .u8 k, .int .u8 (k % 6), t38, t39, .slice A4 (n + (dlit (k % 6)).length) C4, x41, x42, x43, x44, x45, x46, x47, x48, x49, x50, x51, x52, x53, x54, x55, x56, x57, x58, x59, x60, x61, x62, x63, x64, x65, x66, x67, x68, x69, x70, x71, x72, x73, x74, x75, x76, x77, x78, x79, x80, x81, x82, x83, x84, x85, x86, x87, x88, x89, x90, x91, x92, x93, x94, x95, x96, x97, x98, x99], defers := [] } W) :
    ∀ (t28 t29 t30 t31 t32 t33 t34 : Value) (W : World), Below w0.heap.size w0 W → F1 w0 W N t28 → BytesAt W W.heap.size t29 [240, 0] → BytesAt W W.heap.size t30 [0] → BytesAt W W.heap.size t31 [54, 0] → BytesAt W W.heap.size t32 [192, 1, 0] → BytesAt W W.heap.size t33 [48, 255, 255, 255, 255] → BytesAt W W.heap.size t34 [48, 255, 127] → wpAnyH Try.prog .any (dOps) Q (fun W => Below w0.heap.size w0 W) 5 #[true, true, true, true, true, true, true, true, false, true, true, false, false, false, false] { tmps := #[.slice KA N kc, x1, x2, x3, x4, x5, x6, x7, x8, x9, x10, x11, x12, x13, x14, x15, x16, x17, x18, x19, x20, x21, x22, x23, x24, x25, x26, .slice KA N kc, t28, t29, t30, t31, t32, t33, t34, x35, .int .u8 k, .int .u8 (k % 6), x38, x39, x40, x41, x42, x43, x44, x45, x46, x47, x48, x49, x50, x51, x52, x53, x54, x55, x56, x57, x58, x59, x60, x61, x62, x63, x64, x65, x66, x67, x68, x69, x70, x71, x72, x73, x74, x75, x76, x77, x78, x79, x80, x81, x82, x83, x84, x85, x86, x87, x88, x89, x90, x91, x92, x93, x94, x95, x96, x97, x98, x99], defers := [] } W := by
  intro t28 t29 t30 t31 t32 t33 t34 W hS h1 h2 h3 h4 h5 h6 h7
  obtain ⟨A1, C1, T, rfl, o1, p1⟩ := h1
  obtain ⟨n, hn⟩ : ∃ n, T.length = n := ⟨_, rfl⟩
  rw [hn] at o1 ⊢
  have hn2 : n ≤ 100000 := by have := p1.1; omega
  obtain ⟨A29, c29, e29, L29, z29⟩ : ∃ (A : Option Addr) (c : Nat), t29 = .slice A 2 c ∧ Hid (BytesAt W W.heap.size (.slice A 2 c) [240, 0]) ∧ Hid (A = none → c = 0) := by
    obtain ⟨A, c, e, q⟩ := h2
    exact ⟨A, c, e, Lib.hid ⟨A, c, rfl, q⟩, Lib.hid (BytesAt.nz (l := [240, 0]) ⟨A, c, rfl, q⟩ (by simp))⟩
  subst e29
  obtain ⟨A30, c30, e30, L30, z30⟩ : ∃ (A : Option Addr) (c : Nat), t30 = .slice A 1 c ∧ Hid (BytesAt W W.heap.size (.slice A 1 c) [0]) ∧ Hid (A = none → c = 0) := by
    obtain ⟨A, c, e, q⟩ := h3
    exact ⟨A, c, e, Lib.hid ⟨A, c, rfl, q⟩, Lib.hid (BytesAt.nz (l := [0]) ⟨A, c, rfl, q⟩ (by simp))⟩
  subst e30
  obtain ⟨A31, c31, e31, L31, z31⟩ : ∃ (A : Option Addr) (c : Nat), t31 = .slice A 2 c ∧ Hid (BytesAt W W.heap.size (.slice A 2 c) [54, 0]) ∧ Hid (A = none → c = 0) := by
    obtain ⟨A, c, e, q⟩ := h4
    exact ⟨A, c, e, Lib.hid ⟨A, c, rfl, q⟩, Lib.hid (BytesAt.nz (l := [54, 0]) ⟨A, c, rfl, q⟩ (by simp))⟩
  subst e31
  obtain ⟨A32, c32, e32, L32, z32⟩ : ∃ (A : Option Addr) (c : Nat), t32 = .slice A 3 c ∧ Hid (BytesAt W W.heap.size (.slice A 3 c) [192, 1, 0]) ∧ Hid (A = none → c = 0) := by
    obtain ⟨A, c, e, q⟩ := h5
    exact ⟨A, c, e, Lib.hid ⟨A, c, rfl, q⟩, Lib.hid (BytesAt.nz (l := [192, 1, 0]) ⟨A, c, rfl, q⟩ (by simp))⟩
  subst e32
  obtain ⟨A33, c33, e33, L33, z33⟩ : ∃ (A : Option Addr) (c : Nat), t33 = .slice A 5 c ∧ Hid (BytesAt W W.heap.size (.slice A 5 c) [48, 255, 255, 255, 255]) ∧ Hid (A = none → c = 0) := by
    obtain ⟨A, c, e, q⟩ := h6
    exact ⟨A, c, e, Lib.hid ⟨A, c, rfl, q⟩, Lib.hid (BytesAt.nz (l := [48, 255, 255, 255, 255]) ⟨A, c, rfl, q⟩ (by simp))⟩
  subst e33
  obtain ⟨A34, c34, e34, L34, z34⟩ : ∃ (A : Option Addr) (c : Nat), t34 = .slice A 3 c ∧ Hid (BytesAt W W.heap.size (.slice A 3 c) [48, 255, 127]) ∧ Hid (A = none → c = 0) := by
    obtain ⟨A, c, e, q⟩ := h7
    exact ⟨A, c, e, Lib.hid ⟨A, c, rfl, q⟩, Lib.hid (BytesAt.nz (l := [48, 255, 127]) ⟨A, c, rfl, q⟩ (by simp))⟩
  subst e34
  clear h2 h3 h4 h5 h6 h7
  have OH := Lib.hid o1
  have PH := Lib.hid p1
  have NH := Lib.hid hn
  have QH := Lib.hid hQ
  clear o1 p1 hn hQ
  have hj : k % 6 = 0 ∨ k % 6 = 1 ∨ k % 6 = 2 ∨ k % 6 = 3 ∨ k % 6 = 4 ∨ k % 6 = 5 := by omega
  rcases hj with hj | hj | hj | hj | hj | hj
  · have QJ := QH.out
    rw [hj] at QJ ⊢
    have QJH := Lib.hid QJ
    clear QJ QH hj
    refine wpAnyH_ready (rs := [8]) (by kernel_rfl) (by simp) ?_
    refine AllReadyH.cons (o := { dst := some 35, op := Go.Op.buildSlice 45 6 #[(0, Go.Operand.tmp 29), (1, Go.Operand.tmp 30), (2, Go.Operand.tmp 31), (3, Go.Operand.tmp 32), (4, Go.Operand.tmp 33), (5, Go.Operand.tmp 34)], type := 45, pos := "more.go:18", after := #[{ on := 2, ground := Go.Ground.data }, { on := 3, ground := Go.Ground.data }, { on := 4, ground := Go.Ground.data }, { on := 5, ground := Go.Ground.data }, { on := 6, ground := Go.Ground.data }, { on := 7, ground := Go.Ground.data }], guard := none }) rfl (fun K' hK => ?_) (AllReadyH.nil)
    rw [if_pos (by kernel_rfl)]
    go_wp2_with fail
    have hb1 : Below W.heap.size W (W.alloc (.cells #[.slice A29 2 c29, .slice A30 1 c30, .slice A31 2 c31, .slice A32 3 c32, .slice A33 5 c33, .slice A34 3 c34] 22)) := alB (Below.refl _ _) _
    refine hK.out _ _ (hS.trans (hb1.mono hS.size)) (fun hS2 => ?_)
    clear hK
    simp only [List.setIfInBounds_toArray, List.set_cons_zero, List.set_cons_succ]
    refine wpAnyH_ready (rs := [11]) (by kernel_rfl) (by simp) ?_
    refine AllReadyH.cons (o := { dst := some 38, op := Go.Op.indexAddr 45 (Go.Operand.tmp 35) (Go.Operand.tmp 37), type := 0, pos := "more.go:18", after := #[{ on := 8, ground := Go.Ground.data }, { on := 10, ground := Go.Ground.data }], guard := none }) rfl (fun K' hK => ?_) (AllReadyH.nil)
    rw [if_pos (by kernel_rfl)]
    go_wp2_with fail
    refine hK.out _ _ hS2 (fun _ => ?_)
    clear hK
    simp only [List.setIfInBounds_toArray, List.set_cons_zero, List.set_cons_succ]
    refine wpAnyH_ready (rs := [12]) (by kernel_rfl) (by simp) ?_
    refine AllReadyH.cons (o := { dst := some 39, op := Go.Op.load 22 (Go.Operand.tmp 38), type := 22, pos := "more.go:18", after := #[{ on := 11, ground := Go.Ground.data }], guard := none }) rfl (fun K' hK => ?_) (AllReadyH.nil)
    rw [if_pos (by kernel_rfl)]
    go_wp2_with fail
    refine hK.out _ _ hS2 (fun _ => ?_)
    clear hK
    simp only [List.setIfInBounds_toArray, List.set_cons_zero, List.set_cons_succ]
    refine wpAnyH_ready (rs := [13]) (by kernel_rfl) (by simp) ?_
    refine AllReadyH.cons (o := { dst := some 40, op := Go.Op.call { callee := Go.Callee.builtin Go.Builtin.append, args := #[Go.Operand.tmp 28, Go.Operand.tmp 39], argTypes := #[22, 22] }, type := 22, pos := "more.go:18", after := #[{ on := 1, ground := Go.Ground.data }, { on := 12, ground := Go.Ground.data }, { on := 1, ground := Go.Ground.chain }], guard := none }) rfl (fun K' hK => ?_) (AllReadyH.nil)
    rw [if_pos (by kernel_rfl)]
    refine ap_bytes_wp w0.heap.size A1 C1 n T _ A29 c29 2 [240, 0] (by rfl) (by rfl) (own_below OH.out hb1) (L29.out.on hb1) z29.out (by omega) hS2.size ?_
    intro A4 C4 w4 o4 ap4
    have hS4 := hS2.trans (ap4.below w0.heap.size hS2.size fun q hq => ((own_below OH.out hb1).lt q hq).1)
    refine hK.out _ _ hS4 (fun _ => ?_)
    clear hK
    simp only [List.setIfInBounds_toArray, List.set_cons_zero, List.set_cons_succ]
    refine wpAnyH_ready (rs := [14]) (by kernel_rfl) (by simp) ?_
    refine AllReadyH.cons (o := { dst := some 8, op := Go.Op.assign (Go.Operand.tmp 40), type := 22, pos := "more.go:18", after := #[{ on := 13, ground := Go.Ground.data }, { on := 13, ground := Go.Ground.chain }, { on := 0, ground := Go.Ground.phase }, { on := 1, ground := Go.Ground.phase }, { on := 2, ground := Go.Ground.phase }, { on := 3, ground := Go.Ground.phase }, { on := 4, ground := Go.Ground.phase }, { on := 5, ground := Go.Ground.phase }, { on := 6, ground := Go.Ground.phase }, { on := 7, ground := Go.Ground.phase }, { on := 8, ground := Go.Ground.phase }, { on := 9, ground := Go.Ground.phase }, { on := 10, ground := Go.Ground.phase }, { on := 11, ground := Go.Ground.phase }, { on := 12, ground := Go.Ground.phase }, { on := 13, ground := Go.Ground.phase }], guard := none }) rfl (fun K' hK => ?_) (AllReadyH.nil)
    rw [if_pos (by kernel_rfl)]
    go_wp2_with fail
    refine hK.out _ _ hS4 (fun _ => ?_)
    clear hK
    simp only [List.setIfInBounds_toArray, List.set_cons_zero, List.set_cons_succ]
    refine wpAnyH_done (by kernel_rfl) ?_ _
    exact QJH.out _ _ _ _ _ _ _ _ W.heap.size n A1 A4 C1 C4 T w4 hS4 PH.out NH.out o4
  · have QJ := QH.out
    rw [hj] at QJ ⊢
    have QJH := Lib.hid QJ
    clear QJ QH hj
    refine wpAnyH_ready (rs := [8]) (by kernel_rfl) (by simp) ?_
    refine AllReadyH.cons (o := { dst := some 35, op := Go.Op.buildSlice 45 6 #[(0, Go.Operand.tmp 29), (1, Go.Operand.tmp 30), (2, Go.Operand.tmp 31), (3, Go.Operand.tmp 32), (4, Go.Operand.tmp 33), (5, Go.Operand.tmp 34)], type := 45, pos := "more.go:18", after := #[{ on := 2, ground := Go.Ground.data }, { on := 3, ground := Go.Ground.data }, { on := 4, ground := Go.Ground.data }, { on := 5, ground := Go.Ground.data }, { on := 6, ground := Go.Ground.data }, { on := 7, ground := Go.Ground.data }], guard := none }) rfl (fun K' hK => ?_) (AllReadyH.nil)
    rw [if_pos (by kernel_rfl)]
    go_wp2_with fail
    have hb1 : Below W.heap.size W (W.alloc (.cells #[.slice A29 2 c29, .slice A30 1 c30, .slice A31 2 c31, .slice A32 3 c32, .slice A33 5 c33, .slice A34 3 c34] 22)) := alB (Below.refl _ _) _
    refine hK.out _ _ (hS.trans (hb1.mono hS.size)) (fun hS2 => ?_)
    clear hK
    simp only [List.setIfInBounds_toArray, List.set_cons_zero, List.set_cons_succ]
    refine wpAnyH_ready (rs := [11]) (by kernel_rfl) (by simp) ?_
    refine AllReadyH.cons (o := { dst := some 38, op := Go.Op.indexAddr 45 (Go.Operand.tmp 35) (Go.Operand.tmp 37), type := 0, pos := "more.go:18", after := #[{ on := 8, ground := Go.Ground.data }, { on := 10, ground := Go.Ground.data }], guard := none }) rfl (fun K' hK => ?_) (AllReadyH.nil)
    rw [if_pos (by kernel_rfl)]
    go_wp2_with fail
    refine hK.out _ _ hS2 (fun _ => ?_)
    clear hK
    simp only [List.setIfInBounds_toArray, List.set_cons_zero, List.set_cons_succ]
    refine wpAnyH_ready (rs := [12]) (by kernel_rfl) (by simp) ?_
    refine AllReadyH.cons (o := { dst := some 39, op := Go.Op.load 22 (Go.Operand.tmp 38), type := 22, pos := "more.go:18", after := #[{ on := 11, ground := Go.Ground.data }], guard := none }) rfl (fun K' hK => ?_) (AllReadyH.nil)
    rw [if_pos (by kernel_rfl)]
    go_wp2_with fail
    refine hK.out _ _ hS2 (fun _ => ?_)
    clear hK
    simp only [List.setIfInBounds_toArray, List.set_cons_zero, List.set_cons_succ]
    refine wpAnyH_ready (rs := [13]) (by kernel_rfl) (by simp) ?_
    refine AllReadyH.cons (o := { dst := some 40, op := Go.Op.call { callee := Go.Callee.builtin Go.Builtin.append, args := #[Go.Operand.tmp 28, Go.Operand.tmp 39], argTypes := #[22, 22] }, type := 22, pos := "more.go:18", after := #[{ on := 1, ground := Go.Ground.data }, { on := 12, ground := Go.Ground.data }, { on := 1, ground := Go.Ground.chain }], guard := none }) rfl (fun K' hK => ?_) (AllReadyH.nil)
    rw [if_pos (by kernel_rfl)]
    refine ap_bytes_wp w0.heap.size A1 C1 n T _ A30 c30 1 [0] (by rfl) (by rfl) (own_below OH.out hb1) (L30.out.on hb1) z30.out (by omega) hS2.size ?_
    intro A4 C4 w4 o4 ap4
    have hS4 := hS2.trans (ap4.below w0.heap.size hS2.size fun q hq => ((own_below OH.out hb1).lt q hq).1)
    refine hK.out _ _ hS4 (fun _ => ?_)
    clear hK
    simp only [List.setIfInBounds_toArray, List.set_cons_zero, List.set_cons_succ]
    refine wpAnyH_ready (rs := [14]) (by kernel_rfl) (by simp) ?_
    refine AllReadyH.cons (o := { dst := some 8, op := Go.Op.assign (Go.Operand.tmp 40), type := 22, pos := "more.go:18", after := #[{ on := 13, ground := Go.Ground.data }, { on := 13, ground := Go.Ground.chain }, { on := 0, ground := Go.Ground.phase }, { on := 1, ground := Go.Ground.phase }, { on := 2, ground := Go.Ground.phase }, { on := 3, ground := Go.Ground.phase }, { on := 4, ground := Go.Ground.phase }, { on := 5, ground := Go.Ground.phase }, { on := 6, ground := Go.Ground.phase }, { on := 7, ground := Go.Ground.phase }, { on := 8, ground := Go.Ground.phase }, { on := 9, ground := Go.Ground.phase }, { on := 10, ground := Go.Ground.phase }, { on := 11, ground := Go.Ground.phase }, { on := 12, ground := Go.Ground.phase }, { on := 13, ground := Go.Ground.phase }], guard := none }) rfl (fun K' hK => ?_) (AllReadyH.nil)
    rw [if_pos (by kernel_rfl)]
    go_wp2_with fail
    refine hK.out _ _ hS4 (fun _ => ?_)
    clear hK
    simp only [List.setIfInBounds_toArray, List.set_cons_zero, List.set_cons_succ]
    refine wpAnyH_done (by kernel_rfl) ?_ _
    exact QJH.out _ _ _ _ _ _ _ _ W.heap.size n A1 A4 C1 C4 T w4 hS4 PH.out NH.out o4
  · have QJ := QH.out
    rw [hj] at QJ ⊢
    have QJH := Lib.hid QJ
    clear QJ QH hj
    refine wpAnyH_ready (rs := [8]) (by kernel_rfl) (by simp) ?_
    refine AllReadyH.cons (o := { dst := some 35, op := Go.Op.buildSlice 45 6 #[(0, Go.Operand.tmp 29), (1, Go.Operand.tmp 30), (2, Go.Operand.tmp 31), (3, Go.Operand.tmp 32), (4, Go.Operand.tmp 33), (5, Go.Operand.tmp 34)], type := 45, pos := "more.go:18", after := #[{ on := 2, ground := Go.Ground.data }, { on := 3, ground := Go.Ground.data }, { on := 4, ground := Go.Ground.data }, { on := 5, ground := Go.Ground.data }, { on := 6, ground := Go.Ground.data }, { on := 7, ground := Go.Ground.data }], guard := none }) rfl (fun K' hK => ?_) (AllReadyH.nil)
    rw [if_pos (by kernel_rfl)]
    go_wp2_with fail
    have hb1 : Below W.heap.size W (W.alloc (.cells #[.slice A29 2 c29, .slice A30 1 c30, .slice A31 2 c31, .slice A32 3 c32, .slice A33 5 c33, .slice A34 3 c34] 22)) := alB (Below.refl _ _) _
    refine hK.out _ _ (hS.trans (hb1.mono hS.size)) (fun hS2 => ?_)
    clear hK
    simp only [List.setIfInBounds_toArray, List.set_cons_zero, List.set_cons_succ]
    refine wpAnyH_ready (rs := [11]) (by kernel_rfl) (by simp) ?_
    refine AllReadyH.cons (o := { dst := some 38, op := Go.Op.indexAddr 45 (Go.Operand.tmp 35) (Go.Operand.tmp 37), type := 0, pos := "more.go:18", after := #[{ on := 8, ground := Go.Ground.data }, { on := 10, ground := Go.Ground.data }], guard := none }) rfl (fun K' hK => ?_) (AllReadyH.nil)
    rw [if_pos (by kernel_rfl)]
    go_wp2_with fail
    refine hK.out _ _ hS2 (fun _ => ?_)
    clear hK
    simp only [List.setIfInBounds_toArray, List.set_cons_zero, List.set_cons_succ]
    refine wpAnyH_ready (rs := [12]) (by kernel_rfl) (by simp) ?_
    refine AllReadyH.cons (o := { dst := some 39, op := Go.Op.load 22 (Go.Operand.tmp 38), type := 22, pos := "more.go:18", after := #[{ on := 11, ground := Go.Ground.data }], guard := none }) rfl (fun K' hK => ?_) (AllReadyH.nil)
    rw [if_pos (by kernel_rfl)]
    go_wp2_with fail
    refine hK.out _ _ hS2 (fun _ => ?_)
    clear hK
    simp only [List.setIfInBounds_toArray, List.set_cons_zero, List.set_cons_succ]
    refine wpAnyH_ready (rs := [13]) (by kernel_rfl) (by simp) ?_
    refine AllReadyH.cons (o := { dst := some 40, op := Go.Op.call { callee := Go.Callee.builtin Go.Builtin.append, args := #[Go.Operand.tmp 28, Go.Operand.tmp 39], argTypes := #[22, 22] }, type := 22, pos := "more.go:18", after := #[{ on := 1, ground := Go.Ground.data }, { on := 12, ground := Go.Ground.data }, { on := 1, ground := Go.Ground.chain }], guard := none }) rfl (fun K' hK => ?_) (AllReadyH.nil)
    rw [if_pos (by kernel_rfl)]
    refine ap_bytes_wp w0.heap.size A1 C1 n T _ A31 c31 2 [54, 0] (by rfl) (by rfl) (own_below OH.out hb1) (L31.out.on hb1) z31.out (by omega) hS2.size ?_
    intro A4 C4 w4 o4 ap4
    have hS4 := hS2.trans (ap4.below w0.heap.size hS2.size fun q hq => ((own_below OH.out hb1).lt q hq).1)
    refine hK.out _ _ hS4 (fun _ => ?_)
    clear hK
    simp only [List.setIfInBounds_toArray, List.set_cons_zero, List.set_cons_succ]
    refine wpAnyH_ready (rs := [14]) (by kernel_rfl) (by simp) ?_
    refine AllReadyH.cons (o := { dst := some 8, op := Go.Op.assign (Go.Operand.tmp 40), type := 22, pos := "more.go:18", after := #[{ on := 13, ground := Go.Ground.data }, { on := 13, ground := Go.Ground.chain }, { on := 0, ground := Go.Ground.phase }, { on := 1, ground := Go.Ground.phase }, { on := 2, ground := Go.Ground.phase }, { on := 3, ground := Go.Ground.phase }, { on := 4, ground := Go.Ground.phase }, { on := 5, ground := Go.Ground.phase }, { on := 6, ground := Go.Ground.phase }, { on := 7, ground := Go.Ground.phase }, { on := 8, ground := Go.Ground.phase }, { on := 9, ground := Go.Ground.phase }, { on := 10, ground := Go.Ground.phase }, { on := 11, ground := Go.Ground.phase }, { on := 12, ground := Go.Ground.phase }, { on := 13, ground := Go.Ground.phase }], guard := none }) rfl (fun K' hK => ?_) (AllReadyH.nil)
    rw [if_pos (by kernel_rfl)]
    go_wp2_with fail
    refine hK.out _ _ hS4 (fun _ => ?_)
    clear hK
    simp only [List.setIfInBounds_toArray, List.set_cons_zero, List.set_cons_succ]
    refine wpAnyH_done (by kernel_rfl) ?_ _
    exact QJH.out _ _ _ _ _ _ _ _ W.heap.size n A1 A4 C1 C4 T w4 hS4 PH.out NH.out o4
  · have QJ := QH.out
    rw [hj] at QJ ⊢
    have QJH := Lib.hid QJ
    clear QJ QH hj
    refine wpAnyH_ready (rs := [8]) (by kernel_rfl) (by simp) ?_
    refine AllReadyH.cons (o := { dst := some 35, op := Go.Op.buildSlice 45 6 #[(0, Go.Operand.tmp 29), (1, Go.Operand.tmp 30), (2, Go.Operand.tmp 31), (3, Go.Operand.tmp 32), (4, Go.Operand.tmp 33), (5, Go.Operand.tmp 34)], type := 45, pos := "more.go:18", after := #[{ on := 2, ground := Go.Ground.data }, { on := 3, ground := Go.Ground.data }, { on := 4, ground := Go.Ground.data }, { on := 5, ground := Go.Ground.data }, { on := 6, ground := Go.Ground.data }, { on := 7, ground := Go.Ground.data }], guard := none }) rfl (fun K' hK => ?_) (AllReadyH.nil)
    rw [if_pos (by kernel_rfl)]
    go_wp2_with fail
    have hb1 : Below W.heap.size W (W.alloc (.cells #[.slice A29 2 c29, .slice A30 1 c30, .slice A31 2 c31, .slice A32 3 c32, .slice A33 5 c33, .slice A34 3 c34] 22)) := alB (Below.refl _ _) _
    refine hK.out _ _ (hS.trans (hb1.mono hS.size)) (fun hS2 => ?_)
    clear hK
    simp only [List.setIfInBounds_toArray, List.set_cons_zero, List.set_cons_succ]
    refine wpAnyH_ready (rs := [11]) (by kernel_rfl) (by simp) ?_
    refine AllReadyH.cons (o := { dst := some 38, op := Go.Op.indexAddr 45 (Go.Operand.tmp 35) (Go.Operand.tmp 37), type := 0, pos := "more.go:18", after := #[{ on := 8, ground := Go.Ground.data }, { on := 10, ground := Go.Ground.data }], guard := none }) rfl (fun K' hK => ?_) (AllReadyH.nil)
    rw [if_pos (by kernel_rfl)]
    go_wp2_with fail
    refine hK.out _ _ hS2 (fun _ => ?_)
    clear hK
    simp only [List.setIfInBounds_toArray, List.set_cons_zero, List.set_cons_succ]
    refine wpAnyH_ready (rs := [12]) (by kernel_rfl) (by simp) ?_
    refine AllReadyH.cons (o := { dst := some 39, op := Go.Op.load 22 (Go.Operand.tmp 38), type := 22, pos := "more.go:18", after := #[{ on := 11, ground := Go.Ground.data }], guard := none }) rfl (fun K' hK => ?_) (AllReadyH.nil)
    rw [if_pos (by kernel_rfl)]
    go_wp2_with fail
    refine hK.out _ _ hS2 (fun _ => ?_)
    clear hK
    simp only [List.setIfInBounds_toArray, List.set_cons_zero, List.set_cons_succ]
    refine wpAnyH_ready (rs := [13]) (by kernel_rfl) (by simp) ?_
    refine AllReadyH.cons (o := { dst := some 40, op := Go.Op.call { callee := Go.Callee.builtin Go.Builtin.append, args := #[Go.Operand.tmp 28, Go.Operand.tmp 39], argTypes := #[22, 22] }, type := 22, pos := "more.go:18", after := #[{ on := 1, ground := Go.Ground.data }, { on := 12, ground := Go.Ground.data }, { on := 1, ground := Go.Ground.chain }], guard := none }) rfl (fun K' hK => ?_) (AllReadyH.nil)
    rw [if_pos (by kernel_rfl)]
    refine ap_bytes_wp w0.heap.size A1 C1 n T _ A32 c32 3 [192, 1, 0] (by rfl) (by rfl) (own_below OH.out hb1) (L32.out.on hb1) z32.out (by omega) hS2.size ?_
    intro A4 C4 w4 o4 ap4
    have hS4 := hS2.trans (ap4.below w0.heap.size hS2.size fun q hq => ((own_below OH.out hb1).lt q hq).1)
    refine hK.out _ _ hS4 (fun _ => ?_)
    clear hK
    simp only [List.setIfInBounds_toArray, List.set_cons_zero, List.set_cons_succ]
    refine wpAnyH_ready (rs := [14]) (by kernel_rfl) (by simp) ?_
    refine AllReadyH.cons (o := { dst := some 8, op := Go.Op.assign (Go.Operand.tmp 40), type := 22, pos := "more.go:18", after := #[{ on := 13, ground := Go.Ground.data }, { on := 13, ground := Go.Ground.chain }, { on := 0, ground := Go.Ground.phase }, { on := 1, ground := Go.Ground.phase }, { on := 2, ground := Go.Ground.phase }, { on := 3, ground := Go.Ground.phase }, { on := 4, ground := Go.Ground.phase }, { on := 5, ground := Go.Ground.phase }, { on := 6, ground := Go.Ground.phase }, { on := 7, ground := Go.Ground.phase }, { on := 8, ground := Go.Ground.phase }, { on := 9, ground := Go.Ground.phase }, { on := 10, ground := Go.Ground.phase }, { on := 11, ground := Go.Ground.phase }, { on := 12, ground := Go.Ground.phase }, { on := 13, ground := Go.Ground.phase }], guard := none }) rfl (fun K' hK => ?_) (AllReadyH.nil)
    rw [if_pos (by kernel_rfl)]
    go_wp2_with fail
    refine hK.out _ _ hS4 (fun _ => ?_)
    clear hK
    simp only [List.setIfInBounds_toArray, List.set_cons_zero, List.set_cons_succ]
    refine wpAnyH_done (by kernel_rfl) ?_ _
    exact QJH.out _ _ _ _ _ _ _ _ W.heap.size n A1 A4 C1 C4 T w4 hS4 PH.out NH.out o4
  · have QJ := QH.out
    rw [hj] at QJ ⊢
    have QJH := Lib.hid QJ
    clear QJ QH hj
    refine wpAnyH_ready (rs := [8]) (by kernel_rfl) (by simp) ?_
    refine AllReadyH.cons (o := { dst := some 35, op := Go.Op.buildSlice 45 6 #[(0, Go.Operand.tmp 29), (1, Go.Operand.tmp 30), (2, Go.Operand.tmp 31), (3, Go.Operand.tmp 32), (4, Go.Operand.tmp 33), (5, Go.Operand.tmp 34)], type := 45, pos := "more.go:18", after := #[{ on := 2, ground := Go.Ground.data }, { on := 3, ground := Go.Ground.data }, { on := 4, ground := Go.Ground.data }, { on := 5, ground := Go.Ground.data }, { on := 6, ground := Go.Ground.data }, { on := 7, ground := Go.Ground.data }], guard := none }) rfl (fun K' hK => ?_) (AllReadyH.nil)
    rw [if_pos (by kernel_rfl)]
    go_wp2_with fail
    have hb1 : Below W.heap.size W (W.alloc (.cells #[.slice A29 2 c29, .slice A30 1 c30, .slice A31 2 c31, .slice A32 3 c32, .slice A33 5 c33, .slice A34 3 c34] 22)) := alB (Below.refl _ _) _
    refine hK.out _ _ (hS.trans (hb1.mono hS.size)) (fun hS2 => ?_)
    clear hK
    simp only [List.setIfInBounds_toArray, List.set_cons_zero, List.set_cons_succ]
    refine wpAnyH_ready (rs := [11]) (by kernel_rfl) (by simp) ?_
    refine AllReadyH.cons (o := { dst := some 38, op := Go.Op.indexAddr 45 (Go.Operand.tmp 35) (Go.Operand.tmp 37), type := 0, pos := "more.go:18", after := #[{ on := 8, ground := Go.Ground.data }, { on := 10, ground := Go.Ground.data }], guard := none }) rfl (fun K' hK => ?_) (AllReadyH.nil)
    rw [if_pos (by kernel_rfl)]
    go_wp2_with fail
    refine hK.out _ _ hS2 (fun _ => ?_)
    clear hK
    simp only [List.setIfInBounds_toArray, List.set_cons_zero, List.set_cons_succ]
    refine wpAnyH_ready (rs := [12]) (by kernel_rfl) (by simp) ?_
    refine AllReadyH.cons (o := { dst := some 39, op := Go.Op.load 22 (Go.Operand.tmp 38), type := 22, pos := "more.go:18", after := #[{ on := 11, ground := Go.Ground.data }], guard := none }) rfl (fun K' hK => ?_) (AllReadyH.nil)
    rw [if_pos (by kernel_rfl)]
    go_wp2_with fail
    refine hK.out _ _ hS2 (fun _ => ?_)
    clear hK
    simp only [List.setIfInBounds_toArray, List.set_cons_zero, List.set_cons_succ]
    refine wpAnyH_ready (rs := [13]) (by kernel_rfl) (by simp) ?_
    refine AllReadyH.cons (o := { dst := some 40, op := Go.Op.call { callee := Go.Callee.builtin Go.Builtin.append, args := #[Go.Operand.tmp 28, Go.Operand.tmp 39], argTypes := #[22, 22] }, type := 22, pos := "more.go:18", after := #[{ on := 1, ground := Go.Ground.data }, { on := 12, ground := Go.Ground.data }, { on := 1, ground := Go.Ground.chain }], guard := none }) rfl (fun K' hK => ?_) (AllReadyH.nil)
    rw [if_pos (by kernel_rfl)]
    refine ap_bytes_wp w0.heap.size A1 C1 n T _ A33 c33 5 [48, 255, 255, 255, 255] (by rfl) (by rfl) (own_below OH.out hb1) (L33.out.on hb1) z33.out (by omega) hS2.size ?_
    intro A4 C4 w4 o4 ap4
    have hS4 := hS2.trans (ap4.below w0.heap.size hS2.size fun q hq => ((own_below OH.out hb1).lt q hq).1)
    refine hK.out _ _ hS4 (fun _ => ?_)
    clear hK
    simp only [List.setIfInBounds_toArray, List.set_cons_zero, List.set_cons_succ]
    refine wpAnyH_ready (rs := [14]) (by kernel_rfl) (by simp) ?_
    refine AllReadyH.cons (o := { dst := some 8, op := Go.Op.assign (Go.Operand.tmp 40), type := 22, pos := "more.go:18", after := #[{ on := 13, ground := Go.Ground.data }, { on := 13, ground := Go.Ground.chain }, { on := 0, ground := Go.Ground.phase }, { on := 1, ground := Go.Ground.phase }, { on := 2, ground := Go.Ground.phase }, { on := 3, ground := Go.Ground.phase }, { on := 4, ground := Go.Ground.phase }, { on := 5, ground := Go.Ground.phase }, { on := 6, ground := Go.Ground.phase }, { on := 7, ground := Go.Ground.phase }, { on := 8, ground := Go.Ground.phase }, { on := 9, ground := Go.Ground.phase }, { on := 10, ground := Go.Ground.phase }, { on := 11, ground := Go.Ground.phase }, { on := 12, ground := Go.Ground.phase }, { on := 13, ground := Go.Ground.phase }], guard := none }) rfl (fun K' hK => ?_) (AllReadyH.nil)
    rw [if_pos (by kernel_rfl)]
    go_wp2_with fail
    refine hK.out _ _ hS4 (fun _ => ?_)
    clear hK
    simp only [List.setIfInBounds_toArray, List.set_cons_zero, List.set_cons_succ]
    refine wpAnyH_done (by kernel_rfl) ?_ _
    exact QJH.out _ _ _ _ _ _ _ _ W.heap.size n A1 A4 C1 C4 T w4 hS4 PH.out NH.out o4
  · have QJ := QH.out
    rw [hj] at QJ ⊢
    have QJH := Lib.hid QJ
    clear QJ QH hj
    refine wpAnyH_ready (rs := [8]) (by kernel_rfl) (by simp) ?_
    refine AllReadyH.cons (o := { dst := some 35, op := Go.Op.buildSlice 45 6 #[(0, Go.Operand.tmp 29), (1, Go.Operand.tmp 30), (2, Go.Operand.tmp 31), (3, Go.Operand.tmp 32), (4, Go.Operand.tmp 33), (5, Go.Operand.tmp 34)], type := 45, pos := "more.go:18", after := #[{ on := 2, ground := Go.Ground.data }, { on := 3, ground := Go.Ground.data }, { on := 4, ground := Go.Ground.data }, { on := 5, ground := Go.Ground.data }, { on := 6, ground := Go.Ground.data }, { on := 7, ground := Go.Ground.data }], guard := none }) rfl (fun K' hK => ?_) (AllReadyH.nil)
    rw [if_pos (by kernel_rfl)]
    go_wp2_with fail
    have hb1 : Below W.heap.size W (W.alloc (.cells #[.slice A29 2 c29, .slice A30 1 c30, .slice A31 2 c31, .slice A32 3 c32, .slice A33 5 c33, .slice A34 3 c34] 22)) := alB (Below.refl _ _) _
    refine hK.out _ _ (hS.trans (hb1.mono hS.size)) (fun hS2 => ?_)
    clear hK
    simp only [List.setIfInBounds_toArray, List.set_cons_zero, List.set_cons_succ]
    refine wpAnyH_ready (rs := [11]) (by kernel_rfl) (by simp) ?_
    refine AllReadyH.cons (o := { dst := some 38, op := Go.Op.indexAddr 45 (Go.Operand.tmp 35) (Go.Operand.tmp 37), type := 0, pos := "more.go:18", after := #[{ on := 8, ground := Go.Ground.data }, { on := 10, ground := Go.Ground.data }], guard := none }) rfl (fun K' hK => ?_) (AllReadyH.nil)
    rw [if_pos (by kernel_rfl)]
    go_wp2_with fail
    refine hK.out _ _ hS2 (fun _ => ?_)
    clear hK
    simp only [List.setIfInBounds_toArray, List.set_cons_zero, List.set_cons_succ]
    refine wpAnyH_ready (rs := [12]) (by kernel_rfl) (by simp) ?_
    refine AllReadyH.cons (o := { dst := some 39, op := Go.Op.load 22 (Go.Operand.tmp 38), type := 22, pos := "more.go:18", after := #[{ on := 11, ground := Go.Ground.data }], guard := none }) rfl (fun K' hK => ?_) (AllReadyH.nil)
    rw [if_pos (by kernel_rfl)]
    go_wp2_with fail
    refine hK.out _ _ hS2 (fun _ => ?_)
    clear hK
    simp only [List.setIfInBounds_toArray, List.set_cons_zero, List.set_cons_succ]
    refine wpAnyH_ready (rs := [13]) (by kernel_rfl) (by simp) ?_
    refine AllReadyH.cons (o := { dst := some 40, op := Go.Op.call { callee := Go.Callee.builtin Go.Builtin.append, args := #[Go.Operand.tmp 28, Go.Operand.tmp 39], argTypes := #[22, 22] }, type := 22, pos := "more.go:18", after := #[{ on := 1, ground := Go.Ground.data }, { on := 12, ground := Go.Ground.data }, { on := 1, ground := Go.Ground.chain }], guard := none }) rfl (fun K' hK => ?_) (AllReadyH.nil)
    rw [if_pos (by kernel_rfl)]
    refine ap_bytes_wp w0.heap.size A1 C1 n T _ A34 c34 3 [48, 255, 127] (by rfl) (by rfl) (own_below OH.out hb1) (L34.out.on hb1) z34.out (by omega) hS2.size ?_
    intro A4 C4 w4 o4 ap4
    have hS4 := hS2.trans (ap4.below w0.heap.size hS2.size fun q hq => ((own_below OH.out hb1).lt q hq).1)
    refine hK.out _ _ hS4 (fun _ => ?_)
    clear hK
    simp only [List.setIfInBounds_toArray, List.set_cons_zero, List.set_cons_succ]
    refine wpAnyH_ready (rs := [14]) (by kernel_rfl) (by simp) ?_
    refine AllReadyH.cons (o := { dst := some 8, op := Go.Op.assign (Go.Operand.tmp 40), type := 22, pos := "more.go:18", after := #[{ on := 13, ground := Go.Ground.data }, { on := 13, ground := Go.Ground.chain }, { on := 0, ground := Go.Ground.phase }, { on := 1, ground := Go.Ground.phase }, { on := 2, ground := Go.Ground.phase }, { on := 3, ground := Go.Ground.phase }, { on := 4, ground := Go.Ground.phase }, { on := 5, ground := Go.Ground.phase }, { on := 6, ground := Go.Ground.phase }, { on := 7, ground := Go.Ground.phase }, { on := 8, ground := Go.Ground.phase }, { on := 9, ground := Go.Ground.phase }, { on := 10, ground := Go.Ground.phase }, { on := 11, ground := Go.Ground.phase }, { on := 12, ground := Go.Ground.phase }, { on := 13, ground := Go.Ground.phase }], guard := none }) rfl (fun K' hK => ?_) (AllReadyH.nil)
    rw [if_pos (by kernel_rfl)]
    go_wp2_with fail
    refine hK.out _ _ hS4 (fun _ => ?_)
    clear hK
    simp only [List.setIfInBounds_toArray, List.set_cons_zero, List.set_cons_succ]
    refine wpAnyH_done (by kernel_rfl) ?_ _
    exact QJH.out _ _ _ _ _ _ _ _ W.heap.size n A1 A4 C1 C4 T w4 hS4 PH.out NH.out o4
end Go.Proofs.Ytnhpacaoobpkhaa
