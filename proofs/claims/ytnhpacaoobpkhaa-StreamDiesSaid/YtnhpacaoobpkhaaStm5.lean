/- hubbublaw5.some: packets' bytes behind one another. Written by gen_so.py. -/
import Derived.Test.YtnhpacaoobpkhaaStm3
import Derived.Test.YtnhpacaoobpkhaaSBytes
namespace Go.Proofs.Ytnhpacaoobpkhaa
open Go.RowKit Go.Lib
set_option linter.unusedVariables false
set_option linter.unusedSimpArgs false

def SeatAny6 : Prop := ∀ (k a b c : Int) (A : Option Addr) (n cx : Nat) (l : List UInt8) (w : World), 0 ≤ k → k ≤ 255 → 0 ≤ a → a ≤ 255 → 0 ≤ b → b ≤ 255 → 0 ≤ c → c ≤ 255 → BytesAt w w.heap.size (.slice A n cx) l → n = l.length → l.length ≤ 60 → (A = none → cx = 0) →
    Calls Try.prog 15 #[.int .u8 k, .int .u8 a, .int .u8 b, .int .u8 c, .slice A n cx] w (SeatPost w)
theorem ix_exec {a : Act} {o : Oper} {x y : Operand} {ad : Addr} {n c i : Nat} {W : World} (ho : o.op = .indexAddr 22 x y) (hx : a.eval x = .slice (some ad) n c) (hy : a.eval y = .int .i64 (i : Int)) (h : i < n) :
    (execOp a.eval o).run Try.prog W = .ok (.value (.pointer (some (ad.add i)))) W := by
  have h' : (i : Int) < (n : Int) := by omega
  have h0 : ¬ (i : Int) < 0 := by omega
  unfold execOp
  simp only [ho, hx, hy]
  simp [go_sem, h, h', h0]
theorem ld_u8 {a : Act} {o : Oper} {x : Operand} {p : Addr} {v : Int} {W : World} (ho : o.op = .load 5 x) (hx : a.eval x = .pointer (some p)) (h : W.cell? p = some (.int .u8 v)) :
    (execOp a.eval o).run Try.prog W = .ok (.value (.int .u8 v)) W := by
  unfold execOp
  simp only [ho, hx]
  simp [go_sem, h]
theorem quo_u8 {a : Act} {o : Oper} {x : Operand} {v d : Int} {W : World} {y : Operand} (ho : o.op = .binOp .quo 5 x y 5) (hx : a.eval x = .int .u8 v) (hy : a.eval y = .int .u8 d) (h0 : 0 ≤ v) (h1 : v ≤ 255) (d0 : 0 < d) (d1 : d ≤ 255) :
    (execOp a.eval o).run Try.prog W = .ok (.value (.int .u8 (v / d))) W := by
  have hd : ¬ d = 0 := by omega
  have e : v.tdiv d = v / d := Int.tdiv_eq_ediv_of_nonneg h0
  have q0 : 0 ≤ v / d := Int.ediv_nonneg h0 (by omega)
  have q1 : v / d ≤ 255 := Int.le_trans (Int.ediv_le_self d h0) h1
  unfold execOp
  simp only [ho, hx, hy]
  simp [go_sem, hd, e]
  exact IntWalk.u8_in _ (by omega)
theorem to_u8 {a : Act} {o : Oper} {x : Operand} {z : Nat} {W : World} (ho : o.op = .convert 3 5 x) (hx : a.eval x = .int .i64 (z : Int)) (h : z ≤ 255) :
    (execOp a.eval o).run Try.prog W = .ok (.value (.int .u8 (z : Int))) W := by
  unfold execOp
  simp only [ho, hx]
  simp [go_sem]
  exact IntWalk.u8_in _ (by omega)
/-- What z kinds come to. -/
def SomeP (z : Nat) (raw T : List UInt8) : Prop :=
  T.length ≤ 9060 * z ∧ (raw = [] → ∃ ps : List Pk, ps.length = z ∧ (∀ p ∈ ps, rightP p = true) ∧ T = ps.flatMap encP)
theorem SomeP.more {z : Nat} {raw T : List UInt8} (h : SomeP z raw T) (hr : raw.length ≤ 60) (T1 : List UInt8) (h1 : T1 = T ∨ T1 = T ++ raw) (p : Pk) (hp : rightP p = true) : SomeP (z + 1) raw (T1 ++ encP p) := by
  have e := enc_small p hp
  have e1 : T1.length ≤ T.length + raw.length := by rcases h1 with rfl | rfl <;> simp
  refine ⟨by rw [List.length_append]; have := h.1; omega, fun er => ?_⟩
  obtain ⟨ps, a, b, c⟩ := h.2 er
  have e2 : T1 = T := by rcases h1 with h1 | h1; exact h1; rw [h1, er, List.append_nil]
  refine ⟨ps ++ [p], by simp [a], fun q hq => ?_, by rw [e2, c]; simp⟩
  rcases List.mem_append.1 hq with hq | hq
  · exact b q hq
  · obtain rfl : q = p := by simpa using hq
    exact hp
theorem BytesAt.none_nil {w : World} {B n c : Nat} {l : List UInt8} (h : BytesAt w B (.slice none n c) l) : l = [] := by
  obtain ⟨A, c', hv, _, _, hn, _⟩ := h
  injection hv with e1 e2 e3
  exact hn e1.symm
theorem BytesAt.cellz {w : World} {B n c : Nat} {ad : Addr} {l : List UInt8} (h : BytesAt w B (.slice (some ad) n c) l) {z : Nat} {x : UInt8} (hx : l[z]? = some x) : w.cell? (ad.add z) = some (.int .u8 (x.toNat : Int)) := by
  obtain ⟨A, c', hv, _, _, _, _, k⟩ := h
  injection hv with e1 e2 e3
  exact k ad e1.symm z x hx
def SomeSt (w W : World) (A : Option Addr) (C : Nat) (T : List UInt8) : Prop :=
  W.ownsRow w.heap.size 5 1 (.slice A T.length C) T.length (Lib.byteCells T) ∧ Below w.heap.size w W
def SomePost (w : World) (n : Nat) (raw : List UInt8) (e : Ending) (w' : World) : Prop :=
  ∃ (A : Option Addr) (C : Nat) (T : List UInt8), e = .returned (.slice A T.length C) ∧ SomeSt w w' A C T ∧ SomeP n raw T

set_option maxRecDepth 100000 in
set_option maxHeartbeats 8000000 in
theorem some_any (HS : SeatAny6) (KA : Option Addr) (kc : Nat) (K : List UInt8) (rA : Option Addr) (rc : Nat) (raw : List UInt8) (at_ : Int) (w : World) (hk : BytesAt w w.heap.size (.slice KA K.length kc) K) (hkl : K.length ≤ 20)
    (hr : BytesAt w w.heap.size (.slice rA raw.length rc) raw) (hrz : rA = none → rc = 0) (hrl : raw.length ≤ 60) (ha : 0 ≤ at_ ∧ at_ ≤ 255) :
    Calls Try.prog 27 #[.slice KA K.length kc, .slice rA raw.length rc, .int .u8 at_] w (SomePost w K.length raw) := by
  have RZ := Lib.hid hrz
  obtain ⟨N, hN⟩ : ∃ N, K.length = N := ⟨_, rfl⟩
  have HN := Lib.hid hN
  obtain ⟨R, hR⟩ : ∃ R, raw.length = R := ⟨_, rfl⟩
  have HR := Lib.hid hR
  rw [hN, hR]
  rw [hN] at hkl hk
  rw [hR] at hrl hr
  have RW := Lib.hid hr
  have KW := Lib.hid hk
  have hat : at_.tmod 8 = at_ % 8 := Int.tmod_eq_emod_of_nonneg ha.1
  have st : SomeSt w w none 0 [] ∧ SomeP 0 raw [] := ⟨⟨World.ownsRow_nil _ _ _ _, Below.refl _ _⟩, by simp, fun _ => ⟨[], rfl, (fun _ h => by cases h), rfl⟩⟩
  have ST := Lib.hid st
  clear hk hr hrz st hN hR
  go_enter Try.func27, Try.ntmps27
  go_wp2_with fail
  go_loopw [7, 8] (fun b i wr => ∃ (A : Option Addr) (C : Nat) (T : List UInt8) (z : Nat), b = .slice A T.length C ∧ i = .int .i64 z ∧ z ≤ N ∧ SomeSt w wr A C T ∧ SomeP z raw T) (fun _ i _ => N + 1 - (intOf i).toNat)
  case atStart => exact ⟨none, 0, [], 0, rfl, rfl, by omega, ST.out⟩
  case round =>
    obtain ⟨A0, C0, T0, z, rfl, rfl, hz, hR0, hP0⟩ := hrel
    have H0 := Lib.hid hR0
    have P0 := Lib.hid hP0
    obtain ⟨m0, hm0⟩ : ∃ m0, T0.length = m0 := ⟨_, rfl⟩
    have M0 := Lib.hid hm0
    have hm0b : m0 ≤ 9060 * z := by have := hP0.1; omega
    rw [hm0]
    clear hR0 hP0 ST hm0
    by_cases hzN : z < N
    · obtain ⟨kz, hkz⟩ : ∃ kz, K[z]? = some kz := ⟨_, List.getElem?_eq_getElem (by rw [HN.out]; exact hzN)⟩
      obtain ⟨ka, rfl⟩ : ∃ ka, KA = some ka := by
        rcases KA with _ | ka
        · have := KW.out.none_nil; rw [this] at hkz; simp at hkz
        · exact ⟨ka, rfl⟩
      obtain ⟨kv, hkv⟩ : ∃ kv : Int, (kz.toNat : Int) = kv := ⟨_, rfl⟩
      have k0 : 0 ≤ kv := by omega
      have k1 : kv ≤ 255 := by have := kz.toNat_lt; omega
      have KZ : Hid (∀ W, Below w.heap.size w W → W.cell? (ka.add z) = some (.int .u8 kv)) := Lib.hid fun W hW => by rw [← hkv]; exact (KW.out.below hW).cellz hkz
      have hz255 : z ≤ 255 := by omega
      have hlt : (z : Int) < (N : Int) := by omega
      clear hkz hkv
      by_cases hz8 : at_ % 8 = (z : Int)
      · go_wp2_with (at_builtin; refine ap_bytes w.heap.size A0 C0 m0 T0 w.heap.size rA rc R raw (by rfl) (by rfl) (by have := H0.out.1; rwa [M0.out] at this) (RW.out.below H0.out.2) RZ.out (by omega) H0.out.2.size ?_; intro A1 C1 w1 o1 ap1; have AP1 := Lib.hid ap1; have O1 := Lib.hid o1; clear o1 ap1)
        have H1 : Hid (w1.ownsRow w.heap.size 5 1 (.slice A1 (m0 + R) C1) (m0 + R) (Lib.byteCells (T0 ++ raw)) ∧ Below w.heap.size w w1) := Lib.hid ⟨O1.out, H0.out.2.trans (AP1.out.below w.heap.size H0.out.2.size fun k hk => (H0.out.1.lt k (by rw [M0.out]; exact hk)).1)⟩
        clear AP1 O1
        refine wp_region_held_drew (S := (fun W => Below w.heap.size w W)) (by rfl) H1.out.2.drew ?_
        intro hS
        refine wpAnyH_take (i := 0) (oi := { dst := some 23, op := Go.Op.move (Go.Operand.tmp 7), type := 22, pos := "law.go:31", after := #[], guard := none }) (v := .slice A1 (m0 + R) C1) rfl (by kernel_rfl) (by kernel_rfl) (by kernel_rfl) (fun _ _ _ h => h) (.inl ⟨by kernel_rfl, fun W hW => by go_simp⟩) hS ?_
        simp only [Act.put, List.setIfInBounds_toArray, List.set_cons_zero, List.set_cons_succ]
        refine wpAnyH_take (i := 1) (oi := { dst := some 24, op := Go.Op.move (Go.Operand.tmp 0), type := 22, pos := "law.go:31", after := #[], guard := none }) (v := .slice (some ka) N kc) rfl (by kernel_rfl) (by kernel_rfl) (by kernel_rfl) (fun _ _ _ h => h) (.inl ⟨by kernel_rfl, fun W hW => by go_simp⟩) hS ?_
        simp only [Act.put, List.setIfInBounds_toArray, List.set_cons_zero, List.set_cons_succ]
        refine wpAnyH_take (i := 2) (oi := { dst := some 25, op := Go.Op.move (Go.Operand.tmp 8), type := 3, pos := "law.go:31", after := #[], guard := none }) (v := .int .i64 (z : Int)) rfl (by kernel_rfl) (by kernel_rfl) (by kernel_rfl) (fun _ _ _ h => h) (.inl ⟨by kernel_rfl, fun W hW => by go_simp⟩) hS ?_
        simp only [Act.put, List.setIfInBounds_toArray, List.set_cons_zero, List.set_cons_succ]
        refine wpAnyH_take (i := 3) (oi := { dst := some 26, op := Go.Op.indexAddr 22 (Go.Operand.tmp 24) (Go.Operand.tmp 25), type := 0, pos := "law.go:31", after := #[{ on := 1, ground := Go.Ground.data }, { on := 2, ground := Go.Ground.data }], guard := none }) (v := .pointer (some (ka.add z))) rfl (by kernel_rfl) (by kernel_rfl) (by kernel_rfl) (fun _ _ _ h => h) (.inl ⟨by kernel_rfl, fun W hW => ix_exec rfl rfl rfl hzN⟩) hS ?_
        simp only [Act.put, List.setIfInBounds_toArray, List.set_cons_zero, List.set_cons_succ]
        refine wpAnyH_take (i := 4) (oi := { dst := some 27, op := Go.Op.load 5 (Go.Operand.tmp 26), type := 5, pos := "law.go:31", after := #[{ on := 3, ground := Go.Ground.data }], guard := none }) (v := .int .u8 kv) rfl (by kernel_rfl) (by kernel_rfl) (by kernel_rfl) (fun _ _ _ h => h) (.inl ⟨by kernel_rfl, fun W hW => ld_u8 rfl rfl (KZ.out W hW)⟩) hS ?_
        simp only [Act.put, List.setIfInBounds_toArray, List.set_cons_zero, List.set_cons_succ]
        refine wpAnyH_take (i := 5) (oi := { dst := some 28, op := Go.Op.move (Go.Operand.tmp 0), type := 22, pos := "law.go:31", after := #[], guard := none }) (v := .slice (some ka) N kc) rfl (by kernel_rfl) (by kernel_rfl) (by kernel_rfl) (fun _ _ _ h => h) (.inl ⟨by kernel_rfl, fun W hW => by go_simp⟩) hS ?_
        simp only [Act.put, List.setIfInBounds_toArray, List.set_cons_zero, List.set_cons_succ]
        refine wpAnyH_take (i := 6) (oi := { dst := some 29, op := Go.Op.move (Go.Operand.tmp 8), type := 3, pos := "law.go:31", after := #[], guard := none }) (v := .int .i64 (z : Int)) rfl (by kernel_rfl) (by kernel_rfl) (by kernel_rfl) (fun _ _ _ h => h) (.inl ⟨by kernel_rfl, fun W hW => by go_simp⟩) hS ?_
        simp only [Act.put, List.setIfInBounds_toArray, List.set_cons_zero, List.set_cons_succ]
        refine wpAnyH_take (i := 7) (oi := { dst := some 30, op := Go.Op.indexAddr 22 (Go.Operand.tmp 28) (Go.Operand.tmp 29), type := 0, pos := "law.go:31", after := #[{ on := 5, ground := Go.Ground.data }, { on := 6, ground := Go.Ground.data }], guard := none }) (v := .pointer (some (ka.add z))) rfl (by kernel_rfl) (by kernel_rfl) (by kernel_rfl) (fun _ _ _ h => h) (.inl ⟨by kernel_rfl, fun W hW => ix_exec rfl rfl rfl hzN⟩) hS ?_
        simp only [Act.put, List.setIfInBounds_toArray, List.set_cons_zero, List.set_cons_succ]
        refine wpAnyH_take (i := 8) (oi := { dst := some 31, op := Go.Op.load 5 (Go.Operand.tmp 30), type := 5, pos := "law.go:31", after := #[{ on := 7, ground := Go.Ground.data }], guard := none }) (v := .int .u8 kv) rfl (by kernel_rfl) (by kernel_rfl) (by kernel_rfl) (fun _ _ _ h => h) (.inl ⟨by kernel_rfl, fun W hW => ld_u8 rfl rfl (KZ.out W hW)⟩) hS ?_
        simp only [Act.put, List.setIfInBounds_toArray, List.set_cons_zero, List.set_cons_succ]
        refine wpAnyH_take (i := 9) (oi := { dst := some 32, op := Go.Op.binOp Go.BinOp.quo 5 (Go.Operand.tmp 31) (Go.Operand.const (Go.Value.int Go.IntKind.u8 3)) 5, type := 5, pos := "law.go:31", after := #[{ on := 8, ground := Go.Ground.data }], guard := none }) (v := .int .u8 (kv / 3)) rfl (by kernel_rfl) (by kernel_rfl) (by kernel_rfl) (fun _ _ _ h => h) (.inl ⟨by kernel_rfl, fun W hW => quo_u8 rfl rfl rfl k0 k1 (by decide) (by decide)⟩) hS ?_
        simp only [Act.put, List.setIfInBounds_toArray, List.set_cons_zero, List.set_cons_succ]
        refine wpAnyH_take (i := 10) (oi := { dst := some 33, op := Go.Op.move (Go.Operand.tmp 8), type := 3, pos := "law.go:31", after := #[], guard := none }) (v := .int .i64 (z : Int)) rfl (by kernel_rfl) (by kernel_rfl) (by kernel_rfl) (fun _ _ _ h => h) (.inl ⟨by kernel_rfl, fun W hW => by go_simp⟩) hS ?_
        simp only [Act.put, List.setIfInBounds_toArray, List.set_cons_zero, List.set_cons_succ]
        refine wpAnyH_take (i := 11) (oi := { dst := some 34, op := Go.Op.convert 3 5 (Go.Operand.tmp 33), type := 5, pos := "law.go:31", after := #[{ on := 10, ground := Go.Ground.data }], guard := none }) (v := .int .u8 (z : Int)) rfl (by kernel_rfl) (by kernel_rfl) (by kernel_rfl) (fun _ _ _ h => h) (.inl ⟨by kernel_rfl, fun W hW => to_u8 rfl rfl hz255⟩) hS ?_
        simp only [Act.put, List.setIfInBounds_toArray, List.set_cons_zero, List.set_cons_succ]
        refine wpAnyH_take (i := 12) (oi := { dst := some 35, op := Go.Op.move (Go.Operand.tmp 0), type := 22, pos := "law.go:31", after := #[], guard := none }) (v := .slice (some ka) N kc) rfl (by kernel_rfl) (by kernel_rfl) (by kernel_rfl) (fun _ _ _ h => h) (.inl ⟨by kernel_rfl, fun W hW => by go_simp⟩) hS ?_
        simp only [Act.put, List.setIfInBounds_toArray, List.set_cons_zero, List.set_cons_succ]
        refine wpAnyH_take (i := 13) (oi := { dst := some 36, op := Go.Op.move (Go.Operand.tmp 8), type := 3, pos := "law.go:31", after := #[], guard := none }) (v := .int .i64 (z : Int)) rfl (by kernel_rfl) (by kernel_rfl) (by kernel_rfl) (fun _ _ _ h => h) (.inl ⟨by kernel_rfl, fun W hW => by go_simp⟩) hS ?_
        simp only [Act.put, List.setIfInBounds_toArray, List.set_cons_zero, List.set_cons_succ]
        refine wpAnyH_take (i := 14) (oi := { dst := some 37, op := Go.Op.indexAddr 22 (Go.Operand.tmp 35) (Go.Operand.tmp 36), type := 0, pos := "law.go:31", after := #[{ on := 12, ground := Go.Ground.data }, { on := 13, ground := Go.Ground.data }], guard := none }) (v := .pointer (some (ka.add z))) rfl (by kernel_rfl) (by kernel_rfl) (by kernel_rfl) (fun _ _ _ h => h) (.inl ⟨by kernel_rfl, fun W hW => ix_exec rfl rfl rfl hzN⟩) hS ?_
        simp only [Act.put, List.setIfInBounds_toArray, List.set_cons_zero, List.set_cons_succ]
        refine wpAnyH_take (i := 15) (oi := { dst := some 38, op := Go.Op.load 5 (Go.Operand.tmp 37), type := 5, pos := "law.go:31", after := #[{ on := 14, ground := Go.Ground.data }], guard := none }) (v := .int .u8 kv) rfl (by kernel_rfl) (by kernel_rfl) (by kernel_rfl) (fun _ _ _ h => h) (.inl ⟨by kernel_rfl, fun W hW => ld_u8 rfl rfl (KZ.out W hW)⟩) hS ?_
        simp only [Act.put, List.setIfInBounds_toArray, List.set_cons_zero, List.set_cons_succ]
        refine wpAnyH_take (i := 16) (oi := { dst := some 39, op := Go.Op.binOp Go.BinOp.quo 5 (Go.Operand.tmp 38) (Go.Operand.const (Go.Value.int Go.IntKind.u8 5)) 5, type := 5, pos := "law.go:31", after := #[{ on := 15, ground := Go.Ground.data }], guard := none }) (v := .int .u8 (kv / 5)) rfl (by kernel_rfl) (by kernel_rfl) (by kernel_rfl) (fun _ _ _ h => h) (.inl ⟨by kernel_rfl, fun W hW => quo_u8 rfl rfl rfl k0 k1 (by decide) (by decide)⟩) hS ?_
        simp only [Act.put, List.setIfInBounds_toArray, List.set_cons_zero, List.set_cons_succ]
        refine wpAnyH_take (i := 17) (oi := { dst := some 40, op := Go.Op.move (Go.Operand.tmp 1), type := 22, pos := "law.go:31", after := #[], guard := none }) (v := .slice rA R rc) rfl (by kernel_rfl) (by kernel_rfl) (by kernel_rfl) (fun _ _ _ h => h) (.inl ⟨by kernel_rfl, fun W hW => by go_simp⟩) hS ?_
        simp only [Act.put, List.setIfInBounds_toArray, List.set_cons_zero, List.set_cons_succ]
        refine wpAnyH_ready (rs := [18]) (by kernel_rfl) (by simp) ?_
        refine AllReadyH.cons (o := { dst := some 41, op := Go.Op.call { callee := Go.Callee.value (Go.Operand.func 15), args := #[Go.Operand.tmp 27, Go.Operand.tmp 32, Go.Operand.tmp 34, Go.Operand.tmp 39, Go.Operand.tmp 40], argTypes := #[5, 5, 5, 5, 22] }, type := 28, pos := "law.go:31", after := #[{ on := 4, ground := Go.Ground.data }, { on := 9, ground := Go.Ground.data }, { on := 11, ground := Go.Ground.data }, { on := 16, ground := Go.Ground.data }, { on := 17, ground := Go.Ground.data }], guard := none }) rfl (fun K hK => ?_) (AllReadyH.nil)
        rw [if_pos (by kernel_rfl)]
        go_wp2_with fail
        refine (HS kv (kv / 3) (z : Int) (kv / 5) rA R rc raw _ k0 k1 (by omega) (by omega) (by omega) (by omega) (by omega) (by omega) (RW.out.on hS) HR.out.symm (by have := HR.out; omega) RZ.out).mono ?_
        rintro e w2 ⟨p, s, rfl, hp, hnil, hg, hb2⟩
        replace hS := hS.trans (hb2.mono hS.size)
        have O2 := own_below (w := w1.drew) H1.out.1 hb2
        go_wp2_with fail
        refine hK.out _ _ hS (fun _ => ?_)
        clear hK
        refine wpAnyH_ready (rs := [19]) (by kernel_rfl) (by simp) ?_
        refine AllReadyH.cons (o := { dst := some 42, op := Go.Op.call { callee := Go.Callee.value (Go.Operand.func 24), args := #[Go.Operand.tmp 41], argTypes := #[28] }, type := 22, pos := "law.go:31", after := #[{ on := 18, ground := Go.Ground.data }, { on := 18, ground := Go.Ground.chain }], guard := none }) rfl (fun K hK => ?_) (AllReadyH.nil)
        rw [if_pos (by kernel_rfl)]
        go_wp2_with fail
        refine (sbytes_any p s w2 hp hnil hg).mono ?_
        rintro e w3 ⟨A3, c3, rfl, o3, hb3⟩
        replace hS := hS.trans (hb3.mono hS.size)
        have O3 := own_below O2 hb3
        have hen := enc_small p hg.2
        go_wp2_with fail
        refine hK.out _ _ hS (fun _ => ?_)
        clear hK
        refine wpAnyH_ready (rs := [20]) (by kernel_rfl) (by simp) ?_
        refine AllReadyH.cons (o := { dst := some 43, op := Go.Op.call { callee := Go.Callee.builtin Go.Builtin.append, args := #[Go.Operand.tmp 23, Go.Operand.tmp 42], argTypes := #[22, 22] }, type := 22, pos := "law.go:31", after := #[{ on := 0, ground := Go.Ground.data }, { on := 19, ground := Go.Ground.data }, { on := 19, ground := Go.Ground.chain }], guard := none }) rfl (fun K hK => ?_) (AllReadyH.nil)
        rw [if_pos (by kernel_rfl)]
        refine ap_bytes_wp w.heap.size A1 C1 (m0 + R) (T0 ++ raw) w3.heap.size A3 c3 (encP p).length (encP p) (by rfl) (by rfl) O3 (ownsBytes o3) (own_nz o3) (by omega) hS.size ?_
        intro A4 C4 w4 o4 ap4
        have hS4 := hS.trans (ap4.below w.heap.size hS.size fun k hk => (O3.lt k hk).1)
        refine hK.out _ _ hS4 (fun _ => ?_)
        clear hK hS
        have hS := hS4
        refine wpAnyH_take (i := 21) (oi := { dst := some 7, op := Go.Op.assign (Go.Operand.tmp 43), type := 22, pos := "law.go:31", after := #[{ on := 20, ground := Go.Ground.data }, { on := 20, ground := Go.Ground.chain }, { on := 0, ground := Go.Ground.phase }, { on := 1, ground := Go.Ground.phase }, { on := 2, ground := Go.Ground.phase }, { on := 3, ground := Go.Ground.phase }, { on := 4, ground := Go.Ground.phase }, { on := 5, ground := Go.Ground.phase }, { on := 6, ground := Go.Ground.phase }, { on := 7, ground := Go.Ground.phase }, { on := 8, ground := Go.Ground.phase }, { on := 9, ground := Go.Ground.phase }, { on := 10, ground := Go.Ground.phase }, { on := 11, ground := Go.Ground.phase }, { on := 12, ground := Go.Ground.phase }, { on := 13, ground := Go.Ground.phase }, { on := 14, ground := Go.Ground.phase }, { on := 15, ground := Go.Ground.phase }, { on := 16, ground := Go.Ground.phase }, { on := 17, ground := Go.Ground.phase }, { on := 18, ground := Go.Ground.phase }, { on := 19, ground := Go.Ground.phase }, { on := 20, ground := Go.Ground.phase }], guard := none }) (v := .slice A4 ((m0 + R) + (encP p).length) C4) rfl (by kernel_rfl) (by kernel_rfl) (by kernel_rfl) (fun _ _ _ h => h) (.inl ⟨by kernel_rfl, fun W hW => by go_simp⟩) hS ?_
        simp only [Act.put, List.setIfInBounds_toArray, List.set_cons_zero, List.set_cons_succ]
        refine wpAnyH_done (by kernel_rfl) ?_ _
        have e4 : m0 + R + (encP p).length = (T0 ++ raw ++ encP p).length := by rw [List.length_append, List.length_append, M0.out, HR.out]
        have H4 : Hid (SomeSt w w4 A4 C4 (T0 ++ raw ++ encP p)) := Lib.hid ⟨by rw [← e4]; exact o4, hS⟩
        have P4 := Lib.hid (P0.out.more (by rw [HR.out]; exact hrl) (T0 ++ raw) (.inr rfl) p hg.2)
        clear hp hnil hg hb2 hb3 o3 o4 ap4 hS hS4 O2 O3 H0 H1 P0
        go_wp2_with fail
        go_roundw
        case rel => exact ⟨A4, C4, T0 ++ raw ++ encP p, z + 1, by rw [e4], by go_num, by omega, H4.out, P4.out⟩
        case measure => simp [intOf]; omega
      · have H1 : Hid (wr.ownsRow w.heap.size 5 1 (.slice A0 m0 C0) m0 (Lib.byteCells T0) ∧ Below w.heap.size w wr) := Lib.hid ⟨by have := H0.out.1; rwa [M0.out] at this, H0.out.2⟩
        have hz9 : ¬ (z : Int) = at_ % 8 := fun e => hz8 e.symm
        go_wp2_with fail
        refine wp_region_held_drew (S := (fun W => Below w.heap.size w W)) (by rfl) H1.out.2.drew ?_
        intro hS
        refine wpAnyH_take (i := 0) (oi := { dst := some 23, op := Go.Op.move (Go.Operand.tmp 7), type := 22, pos := "law.go:31", after := #[], guard := none }) (v := .slice A0 m0 C0) rfl (by kernel_rfl) (by kernel_rfl) (by kernel_rfl) (fun _ _ _ h => h) (.inl ⟨by kernel_rfl, fun W hW => by go_simp⟩) hS ?_
        simp only [Act.put, List.setIfInBounds_toArray, List.set_cons_zero, List.set_cons_succ]
        refine wpAnyH_take (i := 1) (oi := { dst := some 24, op := Go.Op.move (Go.Operand.tmp 0), type := 22, pos := "law.go:31", after := #[], guard := none }) (v := .slice (some ka) N kc) rfl (by kernel_rfl) (by kernel_rfl) (by kernel_rfl) (fun _ _ _ h => h) (.inl ⟨by kernel_rfl, fun W hW => by go_simp⟩) hS ?_
        simp only [Act.put, List.setIfInBounds_toArray, List.set_cons_zero, List.set_cons_succ]
        refine wpAnyH_take (i := 2) (oi := { dst := some 25, op := Go.Op.move (Go.Operand.tmp 8), type := 3, pos := "law.go:31", after := #[], guard := none }) (v := .int .i64 (z : Int)) rfl (by kernel_rfl) (by kernel_rfl) (by kernel_rfl) (fun _ _ _ h => h) (.inl ⟨by kernel_rfl, fun W hW => by go_simp⟩) hS ?_
        simp only [Act.put, List.setIfInBounds_toArray, List.set_cons_zero, List.set_cons_succ]
        refine wpAnyH_take (i := 3) (oi := { dst := some 26, op := Go.Op.indexAddr 22 (Go.Operand.tmp 24) (Go.Operand.tmp 25), type := 0, pos := "law.go:31", after := #[{ on := 1, ground := Go.Ground.data }, { on := 2, ground := Go.Ground.data }], guard := none }) (v := .pointer (some (ka.add z))) rfl (by kernel_rfl) (by kernel_rfl) (by kernel_rfl) (fun _ _ _ h => h) (.inl ⟨by kernel_rfl, fun W hW => ix_exec rfl rfl rfl hzN⟩) hS ?_
        simp only [Act.put, List.setIfInBounds_toArray, List.set_cons_zero, List.set_cons_succ]
        refine wpAnyH_take (i := 4) (oi := { dst := some 27, op := Go.Op.load 5 (Go.Operand.tmp 26), type := 5, pos := "law.go:31", after := #[{ on := 3, ground := Go.Ground.data }], guard := none }) (v := .int .u8 kv) rfl (by kernel_rfl) (by kernel_rfl) (by kernel_rfl) (fun _ _ _ h => h) (.inl ⟨by kernel_rfl, fun W hW => ld_u8 rfl rfl (KZ.out W hW)⟩) hS ?_
        simp only [Act.put, List.setIfInBounds_toArray, List.set_cons_zero, List.set_cons_succ]
        refine wpAnyH_take (i := 5) (oi := { dst := some 28, op := Go.Op.move (Go.Operand.tmp 0), type := 22, pos := "law.go:31", after := #[], guard := none }) (v := .slice (some ka) N kc) rfl (by kernel_rfl) (by kernel_rfl) (by kernel_rfl) (fun _ _ _ h => h) (.inl ⟨by kernel_rfl, fun W hW => by go_simp⟩) hS ?_
        simp only [Act.put, List.setIfInBounds_toArray, List.set_cons_zero, List.set_cons_succ]
        refine wpAnyH_take (i := 6) (oi := { dst := some 29, op := Go.Op.move (Go.Operand.tmp 8), type := 3, pos := "law.go:31", after := #[], guard := none }) (v := .int .i64 (z : Int)) rfl (by kernel_rfl) (by kernel_rfl) (by kernel_rfl) (fun _ _ _ h => h) (.inl ⟨by kernel_rfl, fun W hW => by go_simp⟩) hS ?_
        simp only [Act.put, List.setIfInBounds_toArray, List.set_cons_zero, List.set_cons_succ]
        refine wpAnyH_take (i := 7) (oi := { dst := some 30, op := Go.Op.indexAddr 22 (Go.Operand.tmp 28) (Go.Operand.tmp 29), type := 0, pos := "law.go:31", after := #[{ on := 5, ground := Go.Ground.data }, { on := 6, ground := Go.Ground.data }], guard := none }) (v := .pointer (some (ka.add z))) rfl (by kernel_rfl) (by kernel_rfl) (by kernel_rfl) (fun _ _ _ h => h) (.inl ⟨by kernel_rfl, fun W hW => ix_exec rfl rfl rfl hzN⟩) hS ?_
        simp only [Act.put, List.setIfInBounds_toArray, List.set_cons_zero, List.set_cons_succ]
        refine wpAnyH_take (i := 8) (oi := { dst := some 31, op := Go.Op.load 5 (Go.Operand.tmp 30), type := 5, pos := "law.go:31", after := #[{ on := 7, ground := Go.Ground.data }], guard := none }) (v := .int .u8 kv) rfl (by kernel_rfl) (by kernel_rfl) (by kernel_rfl) (fun _ _ _ h => h) (.inl ⟨by kernel_rfl, fun W hW => ld_u8 rfl rfl (KZ.out W hW)⟩) hS ?_
        simp only [Act.put, List.setIfInBounds_toArray, List.set_cons_zero, List.set_cons_succ]
        refine wpAnyH_take (i := 9) (oi := { dst := some 32, op := Go.Op.binOp Go.BinOp.quo 5 (Go.Operand.tmp 31) (Go.Operand.const (Go.Value.int Go.IntKind.u8 3)) 5, type := 5, pos := "law.go:31", after := #[{ on := 8, ground := Go.Ground.data }], guard := none }) (v := .int .u8 (kv / 3)) rfl (by kernel_rfl) (by kernel_rfl) (by kernel_rfl) (fun _ _ _ h => h) (.inl ⟨by kernel_rfl, fun W hW => quo_u8 rfl rfl rfl k0 k1 (by decide) (by decide)⟩) hS ?_
        simp only [Act.put, List.setIfInBounds_toArray, List.set_cons_zero, List.set_cons_succ]
        refine wpAnyH_take (i := 10) (oi := { dst := some 33, op := Go.Op.move (Go.Operand.tmp 8), type := 3, pos := "law.go:31", after := #[], guard := none }) (v := .int .i64 (z : Int)) rfl (by kernel_rfl) (by kernel_rfl) (by kernel_rfl) (fun _ _ _ h => h) (.inl ⟨by kernel_rfl, fun W hW => by go_simp⟩) hS ?_
        simp only [Act.put, List.setIfInBounds_toArray, List.set_cons_zero, List.set_cons_succ]
        refine wpAnyH_take (i := 11) (oi := { dst := some 34, op := Go.Op.convert 3 5 (Go.Operand.tmp 33), type := 5, pos := "law.go:31", after := #[{ on := 10, ground := Go.Ground.data }], guard := none }) (v := .int .u8 (z : Int)) rfl (by kernel_rfl) (by kernel_rfl) (by kernel_rfl) (fun _ _ _ h => h) (.inl ⟨by kernel_rfl, fun W hW => to_u8 rfl rfl hz255⟩) hS ?_
        simp only [Act.put, List.setIfInBounds_toArray, List.set_cons_zero, List.set_cons_succ]
        refine wpAnyH_take (i := 12) (oi := { dst := some 35, op := Go.Op.move (Go.Operand.tmp 0), type := 22, pos := "law.go:31", after := #[], guard := none }) (v := .slice (some ka) N kc) rfl (by kernel_rfl) (by kernel_rfl) (by kernel_rfl) (fun _ _ _ h => h) (.inl ⟨by kernel_rfl, fun W hW => by go_simp⟩) hS ?_
        simp only [Act.put, List.setIfInBounds_toArray, List.set_cons_zero, List.set_cons_succ]
        refine wpAnyH_take (i := 13) (oi := { dst := some 36, op := Go.Op.move (Go.Operand.tmp 8), type := 3, pos := "law.go:31", after := #[], guard := none }) (v := .int .i64 (z : Int)) rfl (by kernel_rfl) (by kernel_rfl) (by kernel_rfl) (fun _ _ _ h => h) (.inl ⟨by kernel_rfl, fun W hW => by go_simp⟩) hS ?_
        simp only [Act.put, List.setIfInBounds_toArray, List.set_cons_zero, List.set_cons_succ]
        refine wpAnyH_take (i := 14) (oi := { dst := some 37, op := Go.Op.indexAddr 22 (Go.Operand.tmp 35) (Go.Operand.tmp 36), type := 0, pos := "law.go:31", after := #[{ on := 12, ground := Go.Ground.data }, { on := 13, ground := Go.Ground.data }], guard := none }) (v := .pointer (some (ka.add z))) rfl (by kernel_rfl) (by kernel_rfl) (by kernel_rfl) (fun _ _ _ h => h) (.inl ⟨by kernel_rfl, fun W hW => ix_exec rfl rfl rfl hzN⟩) hS ?_
        simp only [Act.put, List.setIfInBounds_toArray, List.set_cons_zero, List.set_cons_succ]
        refine wpAnyH_take (i := 15) (oi := { dst := some 38, op := Go.Op.load 5 (Go.Operand.tmp 37), type := 5, pos := "law.go:31", after := #[{ on := 14, ground := Go.Ground.data }], guard := none }) (v := .int .u8 kv) rfl (by kernel_rfl) (by kernel_rfl) (by kernel_rfl) (fun _ _ _ h => h) (.inl ⟨by kernel_rfl, fun W hW => ld_u8 rfl rfl (KZ.out W hW)⟩) hS ?_
        simp only [Act.put, List.setIfInBounds_toArray, List.set_cons_zero, List.set_cons_succ]
        refine wpAnyH_take (i := 16) (oi := { dst := some 39, op := Go.Op.binOp Go.BinOp.quo 5 (Go.Operand.tmp 38) (Go.Operand.const (Go.Value.int Go.IntKind.u8 5)) 5, type := 5, pos := "law.go:31", after := #[{ on := 15, ground := Go.Ground.data }], guard := none }) (v := .int .u8 (kv / 5)) rfl (by kernel_rfl) (by kernel_rfl) (by kernel_rfl) (fun _ _ _ h => h) (.inl ⟨by kernel_rfl, fun W hW => quo_u8 rfl rfl rfl k0 k1 (by decide) (by decide)⟩) hS ?_
        simp only [Act.put, List.setIfInBounds_toArray, List.set_cons_zero, List.set_cons_succ]
        refine wpAnyH_take (i := 17) (oi := { dst := some 40, op := Go.Op.move (Go.Operand.tmp 1), type := 22, pos := "law.go:31", after := #[], guard := none }) (v := .slice rA R rc) rfl (by kernel_rfl) (by kernel_rfl) (by kernel_rfl) (fun _ _ _ h => h) (.inl ⟨by kernel_rfl, fun W hW => by go_simp⟩) hS ?_
        simp only [Act.put, List.setIfInBounds_toArray, List.set_cons_zero, List.set_cons_succ]
        refine wpAnyH_ready (rs := [18]) (by kernel_rfl) (by simp) ?_
        refine AllReadyH.cons (o := { dst := some 41, op := Go.Op.call { callee := Go.Callee.value (Go.Operand.func 15), args := #[Go.Operand.tmp 27, Go.Operand.tmp 32, Go.Operand.tmp 34, Go.Operand.tmp 39, Go.Operand.tmp 40], argTypes := #[5, 5, 5, 5, 22] }, type := 28, pos := "law.go:31", after := #[{ on := 4, ground := Go.Ground.data }, { on := 9, ground := Go.Ground.data }, { on := 11, ground := Go.Ground.data }, { on := 16, ground := Go.Ground.data }, { on := 17, ground := Go.Ground.data }], guard := none }) rfl (fun K hK => ?_) (AllReadyH.nil)
        rw [if_pos (by kernel_rfl)]
        go_wp2_with fail
        refine (HS kv (kv / 3) (z : Int) (kv / 5) rA R rc raw _ k0 k1 (by omega) (by omega) (by omega) (by omega) (by omega) (by omega) (RW.out.on hS) HR.out.symm (by have := HR.out; omega) RZ.out).mono ?_
        rintro e w2 ⟨p, s, rfl, hp, hnil, hg, hb2⟩
        replace hS := hS.trans (hb2.mono hS.size)
        have O2 := own_below (w := wr.drew) H1.out.1 hb2
        go_wp2_with fail
        refine hK.out _ _ hS (fun _ => ?_)
        clear hK
        refine wpAnyH_ready (rs := [19]) (by kernel_rfl) (by simp) ?_
        refine AllReadyH.cons (o := { dst := some 42, op := Go.Op.call { callee := Go.Callee.value (Go.Operand.func 24), args := #[Go.Operand.tmp 41], argTypes := #[28] }, type := 22, pos := "law.go:31", after := #[{ on := 18, ground := Go.Ground.data }, { on := 18, ground := Go.Ground.chain }], guard := none }) rfl (fun K hK => ?_) (AllReadyH.nil)
        rw [if_pos (by kernel_rfl)]
        go_wp2_with fail
        refine (sbytes_any p s w2 hp hnil hg).mono ?_
        rintro e w3 ⟨A3, c3, rfl, o3, hb3⟩
        replace hS := hS.trans (hb3.mono hS.size)
        have O3 := own_below O2 hb3
        have hen := enc_small p hg.2
        go_wp2_with fail
        refine hK.out _ _ hS (fun _ => ?_)
        clear hK
        refine wpAnyH_ready (rs := [20]) (by kernel_rfl) (by simp) ?_
        refine AllReadyH.cons (o := { dst := some 43, op := Go.Op.call { callee := Go.Callee.builtin Go.Builtin.append, args := #[Go.Operand.tmp 23, Go.Operand.tmp 42], argTypes := #[22, 22] }, type := 22, pos := "law.go:31", after := #[{ on := 0, ground := Go.Ground.data }, { on := 19, ground := Go.Ground.data }, { on := 19, ground := Go.Ground.chain }], guard := none }) rfl (fun K hK => ?_) (AllReadyH.nil)
        rw [if_pos (by kernel_rfl)]
        refine ap_bytes_wp w.heap.size A0 C0 m0 T0 w3.heap.size A3 c3 (encP p).length (encP p) (by rfl) (by rfl) O3 (ownsBytes o3) (own_nz o3) (by omega) hS.size ?_
        intro A4 C4 w4 o4 ap4
        have hS4 := hS.trans (ap4.below w.heap.size hS.size fun k hk => (O3.lt k hk).1)
        refine hK.out _ _ hS4 (fun _ => ?_)
        clear hK hS
        have hS := hS4
        refine wpAnyH_take (i := 21) (oi := { dst := some 7, op := Go.Op.assign (Go.Operand.tmp 43), type := 22, pos := "law.go:31", after := #[{ on := 20, ground := Go.Ground.data }, { on := 20, ground := Go.Ground.chain }, { on := 0, ground := Go.Ground.phase }, { on := 1, ground := Go.Ground.phase }, { on := 2, ground := Go.Ground.phase }, { on := 3, ground := Go.Ground.phase }, { on := 4, ground := Go.Ground.phase }, { on := 5, ground := Go.Ground.phase }, { on := 6, ground := Go.Ground.phase }, { on := 7, ground := Go.Ground.phase }, { on := 8, ground := Go.Ground.phase }, { on := 9, ground := Go.Ground.phase }, { on := 10, ground := Go.Ground.phase }, { on := 11, ground := Go.Ground.phase }, { on := 12, ground := Go.Ground.phase }, { on := 13, ground := Go.Ground.phase }, { on := 14, ground := Go.Ground.phase }, { on := 15, ground := Go.Ground.phase }, { on := 16, ground := Go.Ground.phase }, { on := 17, ground := Go.Ground.phase }, { on := 18, ground := Go.Ground.phase }, { on := 19, ground := Go.Ground.phase }, { on := 20, ground := Go.Ground.phase }], guard := none }) (v := .slice A4 (m0 + (encP p).length) C4) rfl (by kernel_rfl) (by kernel_rfl) (by kernel_rfl) (fun _ _ _ h => h) (.inl ⟨by kernel_rfl, fun W hW => by go_simp⟩) hS ?_
        simp only [Act.put, List.setIfInBounds_toArray, List.set_cons_zero, List.set_cons_succ]
        refine wpAnyH_done (by kernel_rfl) ?_ _
        have e4 : m0 + (encP p).length = (T0 ++ encP p).length := by rw [List.length_append, M0.out]
        have H4 : Hid (SomeSt w w4 A4 C4 (T0 ++ encP p)) := Lib.hid ⟨by rw [← e4]; exact o4, hS⟩
        have P4 := Lib.hid (P0.out.more (by rw [HR.out]; exact hrl) T0 (.inl rfl) p hg.2)
        clear hp hnil hg hb2 hb3 o3 o4 ap4 hS hS4 O2 O3 H0 H1 P0
        go_wp2_with fail
        go_roundw
        case rel => exact ⟨A4, C4, T0 ++ encP p, z + 1, by rw [e4], by go_num, by omega, H4.out, P4.out⟩
        case measure => simp [intOf]; omega
    · have q : ¬ (z : Int) < (N : Int) := by omega
      obtain rfl : z = N := by omega
      go_wp2_with fail
      go_ret
      exact ⟨A0, C0, T0, by rw [M0.out]; rfl, H0.out, P0.out⟩
end Go.Proofs.Ytnhpacaoobpkhaa
