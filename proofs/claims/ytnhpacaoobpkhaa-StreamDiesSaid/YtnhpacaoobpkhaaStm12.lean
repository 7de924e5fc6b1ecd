/- hubbublaw5.StreamDies, walked. Written by gen_dw.py. -/
import Derived.Test.YtnhpacaoobpkhaaStm11
namespace Go.Proofs.Ytnhpacaoobpkhaa
open Go.RowKit Go.Lib
set_option linter.unusedVariables false
set_option linter.unusedSimpArgs false

theorem dlit_pks (j : Int) (h0 : 0 ≤ j) (h1 : j < 6) : pksP (dlit j) = ([], 0, if j = 5 then 22 else 21) := by
  have h : j = 0 ∨ j = 1 ∨ j = 2 ∨ j = 3 ∨ j = 4 ∨ j = 5 := by omega
  rcases h with rfl | rfl | rfl | rfl | rfl | rfl <;> decide +kernel
theorem dlit_len (j : Int) : (dlit j).length ≤ 5 := by
  unfold dlit
  repeat' split
  all_goals simp
set_option maxRecDepth 100000 in
set_option maxHeartbeats 8000000 in
theorem dies_walk (HS : SeatAny6) (KA : Option Addr) (kc : Nat) (K : List UInt8) (k : Int) (A : Option Addr) (cx : Nat) (x : List UInt8) (w : World) (hk : 0 ≤ k ∧ k ≤ 255) (h1 : K.length ≤ 10) (h2 : x.length ≤ 30)
    (hkv : BytesAt w w.heap.size (.slice KA K.length kc) K) :
    Calls Try.prog 11 #[.slice KA K.length kc, .int .u8 k, .slice A x.length cx] w fun e w' => e = .returned (.bool true) ∧ Below w.heap.size w w' := by
  obtain ⟨N, hN⟩ : ∃ N, K.length = N := ⟨_, rfl⟩
  obtain ⟨m, hm⟩ : ∃ m, x.length = m := ⟨_, rfl⟩
  rw [hN] at h1 hkv ⊢
  rw [hm] at h2 ⊢
  have HN := Lib.hid hN
  have KV := Lib.hid hkv
  have d1 : ¬ (10 : Int) < (N : Int) := by omega
  have d2 : ¬ (30 : Int) < (m : Int) := by omega
  have d3 : ¬ 10 < N := by omega
  have d4 : ¬ 30 < m := by omega
  clear hN hm hkv
  go_enter Try.func11, Try.ntmps11
  go_wp2_with fail
  refine (known5_any w).mono ?_
  rintro e w1 ⟨rfl, hb1⟩
  have B1 := Lib.hid hb1
  clear hb1
  go_wp2_with fail
  refine (new_any w1).mono ?_
  rintro e w2 ⟨rfl, hb2, hs2, hS2⟩
  have S2 := Lib.hid hS2
  have B12 := Lib.hid hb2
  have B2 := Lib.hid (thn B1.out hb2)
  clear hb2 hS2
  go_wp2_with fail
  refine wp_region_held_drew (S := (fun W => Below w2.heap.size w2 W)) (by rfl) (Below.refl _ _).drew ?_
  intro hS
  refine wpAnyH_take (i := 0) (oi := { dst := some 27, op := Go.Op.move (Go.Operand.tmp 0), type := 22, pos := "more.go:18", after := #[], guard := none }) (v := .slice KA N kc) rfl (by kernel_rfl) (by kernel_rfl) (by kernel_rfl) (fun _ _ _ h => h) (.inl ⟨by kernel_rfl, fun W hW => by go_simp⟩) hS ?_
  simp only [Act.put, List.setIfInBounds_toArray, List.set_cons_zero, List.set_cons_succ]
  refine wpAnyH_take (i := 9) (oi := { dst := some 36, op := Go.Op.move (Go.Operand.tmp 1), type := 5, pos := "more.go:18", after := #[], guard := none }) (v := .int .u8 k) rfl (by kernel_rfl) (by kernel_rfl) (by kernel_rfl) (fun _ _ _ h => h) (.inl ⟨by kernel_rfl, fun W hW => by go_simp⟩) hS ?_
  simp only [Act.put, List.setIfInBounds_toArray, List.set_cons_zero, List.set_cons_succ]
  refine wpAnyH_take (i := 10) (oi := { dst := some 37, op := Go.Op.binOp Go.BinOp.rem 5 (Go.Operand.tmp 36) (Go.Operand.const (Go.Value.int Go.IntKind.u8 6)) 5, type := 5, pos := "more.go:18", after := #[{ on := 9, ground := Go.Ground.data }], guard := none }) (v := .int .u8 (k % 6)) rfl (by kernel_rfl) (by kernel_rfl) (by kernel_rfl) (fun _ _ _ h => h) (.inl ⟨by kernel_rfl, fun W hW => by simp [execOp, go_sem, Int.tmod_eq_emod_of_nonneg hk.1]⟩) hS ?_
  simp only [Act.put, List.setIfInBounds_toArray, List.set_cons_zero, List.set_cons_succ]
  refine (fun hQ => dies_lits HS KA kc K N k w2 (Lib.hid (KV.out.on B2.out)) HN h1 _ _ _ _ _ _ _ _ _ _ _ _ _ _ _ _ _ _ _ _ _ _ _ _ _ _ _ _ _ _ _ _ _ _ _ _ _ _ _ _ _ _ _ _ _ _ _ _ _ _ _ _ _ _ _ _ _ _ _ _ _ _ _ _ _ _ _ _ _ _ _ _ _ _ _ _ _ _ _ _ _ _ _ _ _ _ _ _ _ (dies_fin KA kc N k w2 h1 hk.1 _ _ _ _ _ _ _ _ _ _ _ _ _ _ _ _ _ _ _ _ _ _ _ _ _ _ _ _ _ _ _ _ _ _ _ _ _ _ _ _ _ _ _ _ _ _ _ _ _ _ _ _ _ _ _ _ _ _ _ _ _ _ _ _ _ _ _ _ _ _ _ _ _ _ _ _ _ _ _ _ _ _ _ _ _ _ _ _ _ hQ) (dies_fin2 (fun _ _ _ _ _ h => h) HS KA kc K N k w2 (Lib.hid (KV.out.on B2.out)) HN h1 hk.1 _ _ _ _ _ _ _ _ _ _ _ _ _ _ _ _ _ _ _ _ _ _ _ _ _ _ _ _ _ _ _ _ _ _ _ _ _ _ _ _ _ _ _ _ _ _ _ _ _ _ _ _ _ _ _ _ _ _ _ _ _ _ _ _ _ _ _ _ _ _ _ _ _ _ _ _ _ _ _ _ _ _ _ _ _ _ _ _ _ hQ) 7 false false false false false false false _ _ _ _ _ _ _ w2.drew rfl hS (fun q => by cases q) (fun q => by cases q) (fun q => by cases q) (fun q => by cases q) (fun q => by cases q) (fun q => by cases q) (fun q => by cases q)) ?_
  intro t29 t30 t31 t32 t33 t34 t38 t39 g n A1 A4 C1 C4 T W hB hP hn ho
  obtain ⟨ps, pl, pr, pe⟩ := hP.2 rfl
  have X := pks_flat (dlit (k % 6)) ps pr
  rw [← pe, dlit_pks (k % 6) (by omega) (by omega)] at X
  have hn2 : n ≤ 90600 := by have := hP.1; omega
  have S3 := S2.out.below hB
  have hl := dlit_len (k % 6)
  have XL : (T ++ dlit (k % 6)).length = n + (dlit (k % 6)).length := by rw [List.length_append, hn]
  have FF := feed_any w1.heap.size 0 none [] A4 C4 (T ++ dlit (k % 6)) W S3 (by rw [XL]; exact ownsBytes (by rw [XL]; exact ho)) (own_nz ho) (by rw [XL]; simp; omega)
  rw [XL, List.nil_append] at FF
  have hz := own_nz ho
  clear XL hP hn ho pe pr hS
  generalize (dlit (k % 6)).length = dl at *
  generalize T ++ dlit (k % 6) = Y at *
  have FH := Lib.hid FF
  have BW := Lib.hid (thn B12.out hB)
  have BB := Lib.hid (thn B2.out hB)
  have PL := Lib.hid pl
  have XH := Lib.hid X
  clear FF X pl S3 hB S2 B12 B2 hz
  have hk6 : k.tmod 6 = k % 6 := Int.tmod_eq_emod_of_nonneg hk.1
  by_cases h5 : k % 6 = 5
  · have XX := XH.out
    rw [if_pos h5, List.append_nil] at XX
    have RR : restP Y = [] := by unfold restP; rw [XX]; rfl
    have XH2 := Lib.hid XX
    clear XX XH
    go_wp2_with fail
    refine FH.out.mono ?_
    rintro e w5 h5f
    obtain ⟨A5, C5, L5, A5', C5', rfl, _, _, hS5, hF5⟩ := h5f.known ps _ 22 N [] XH2.out PL.out RR
    have B5 := Lib.hid (BB.out.trans (hF5.below.mono (Nat.le_trans B1.out.size (Nat.le_refl _))))
    have S5 := Lib.hid hS5
    clear h5f hS5 hF5 RR FH XH2 PL
    go_wp2_with fail
    refine (feed_dead w1.heap.size C5' A5' [] 22 _ w5 S5.out (by decide)).mono ?_
    rintro e w6 ⟨rfl, n6, rfl⟩
    have S6 := Lib.hid (S5.out.below (dwN (Below.refl _ _) n6))
    have B6 := Lib.hid (dwN B5.out n6)
    clear S5 B5
    generalize w5.drewN n6 = w6 at *
    go_wp2_with fail
    refine (feed_dead w1.heap.size C5' A5' [] 22 _ w6 S6.out (by decide)).mono ?_
    rintro e w7 ⟨rfl, n7, rfl⟩
    have S7 := Lib.hid (S6.out.below (dwN (Below.refl _ _) n7))
    have B7 := Lib.hid (dwN B6.out n7)
    clear S6 B6
    generalize w6.drewN n7 = w7 at *
    go_wp2_with fail
    refine (dead_any w1.heap.size C5' A5' [] 22 w7 S7.out).mono ?_
    rintro e w' ⟨rfl, rfl⟩
    go_wp2_with fail
    refine (left_any w1.heap.size C5' A5' [] 22 w7 S7.out).mono ?_
    rintro e w' ⟨rfl, rfl⟩
    go_wp2_with fail
    go_ret
    exact ⟨rfl, B7.out⟩
  · have XX := XH.out
    rw [if_neg h5, List.append_nil] at XX
    have RR : restP Y = [] := by unfold restP; rw [XX]; rfl
    have XH2 := Lib.hid XX
    clear XX XH
    go_wp2_with fail
    refine FH.out.mono ?_
    rintro e w5 h5f
    obtain ⟨A5, C5, L5, A5', C5', rfl, _, _, hS5, hF5⟩ := h5f.known ps _ 21 N [] XH2.out PL.out RR
    have B5 := Lib.hid (BB.out.trans (hF5.below.mono (Nat.le_trans B1.out.size (Nat.le_refl _))))
    have S5 := Lib.hid hS5
    clear h5f hS5 hF5 RR FH XH2 PL
    go_wp2_with fail
    refine (feed_dead w1.heap.size C5' A5' [] 21 _ w5 S5.out (by decide)).mono ?_
    rintro e w6 ⟨rfl, n6, rfl⟩
    have S6 := Lib.hid (S5.out.below (dwN (Below.refl _ _) n6))
    have B6 := Lib.hid (dwN B5.out n6)
    clear S5 B5
    generalize w5.drewN n6 = w6 at *
    go_wp2_with fail
    refine (feed_dead w1.heap.size C5' A5' [] 21 _ w6 S6.out (by decide)).mono ?_
    rintro e w7 ⟨rfl, n7, rfl⟩
    have S7 := Lib.hid (S6.out.below (dwN (Below.refl _ _) n7))
    have B7 := Lib.hid (dwN B6.out n7)
    clear S6 B6
    generalize w6.drewN n7 = w7 at *
    go_wp2_with fail
    refine (dead_any w1.heap.size C5' A5' [] 21 w7 S7.out).mono ?_
    rintro e w' ⟨rfl, rfl⟩
    go_wp2_with fail
    refine (left_any w1.heap.size C5' A5' [] 21 w7 S7.out).mono ?_
    rintro e w' ⟨rfl, rfl⟩
    go_wp2_with fail
    go_ret
    exact ⟨rfl, B7.out⟩
end Go.Proofs.Ytnhpacaoobpkhaa
