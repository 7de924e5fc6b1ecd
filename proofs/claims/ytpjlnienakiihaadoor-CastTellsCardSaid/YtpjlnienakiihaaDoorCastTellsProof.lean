/- CastTells: each packet is what its Kind says, and it is found in that again: the law holds for every input within the form's reach, the names of the forms tied to the program's text. -/
import Derived.Test.YtpjlnienakiihaaDoorTells4
import Derived.Test.YtpjlnienakiihaaDoorOpen
import Derived.Test.YtpjlnienakiihaaDoorLaid4
import Derived.Test.YtpjlnienakiihaaDoorCards
import Derived.Test.YtpjlnienakiihaaDoorTie
import Derived.WalkKit
import Derived.ProofKit
import Derived.OpenShut
import Derived.ShutString
import Derived.ChangeOld
import Derived.Below
import Derived.SevenTiedAt
namespace Go.Proofs.YtpjlnienakiihaaDoor.castTells
open Go.ChangeShapes Go.WideShapes Go.ChangeAt Go.RowKit
open Go.ChangeMaps (open_string shut_string)
set_option linter.unusedVariables false

theorem own : ownKnob Tryd.prog.godebug = none := by kernel_rfl
theorem laidOut : laidOutB Tryd.prog = true := by kernel_rfl

set_option maxRecDepth 100000 in
theorem lifted (os : Os) (started : os.Started) (H : Type) (enc : TypeId × Value → H) :
    ReturnsInHanded {} Tryd.checked os 3 .any (fun w args => (Rows.castTellsSpec.pre enc Tryd.prog Tryd.f3 [] false w args ∧ laidMetH Tryd.prog [("hubbub/cast.names", Rows.laid_hubbub_cast_names)] w) ∧ sizedMet enc Tryd.prog Tryd.f3 (OpenSpec.ofChange Rows.castTellsSpec) false w args)
      (Rows.castTellsSpec.post enc Tryd.prog Tryd.f3 false true false false) := by
  refine returnsInHanded_of_change_and (C := Tryd.checked) (X := fun w _ => laidMetH Tryd.prog [("hubbub/cast.names", Rows.laid_hubbub_cast_names)] w) (fun _ _ _ hh h => h.of_heap hh) own started (by kernel_rfl) Tryd.func3
    (ChangeSpec.witness_at (enc := enc) (C := Tryd.checked) (os := os) (X := fun w _ => laidMetH Tryd.prog [("hubbub/cast.names", Rows.laid_hubbub_cast_names)] w) false (laidWorld os) #[.agg pk0C, .int .u8 0, .int .u8 0, .int .u8 0, .int .u8 0, .slice none 0 0] 8 rfl (by kernel_rfl) (by kernel_rfl) (by kernel_rfl) (by kernel_rfl) (by kernel_rfl) (laidWorld_met os _)) ?_
  intro W base args ds gs before hval0 hW _ hsz hL _
  have hval : ∀ (j : Nat) t v, Tryd.f3.params[j]? = some t → args[j]? = some v → Value.okWide Tryd.prog W .any base t v := hval0
  have hN := names_of_laid hL
  have hW' := hW
  obtain ⟨p, q, hA0, hV, rfl, hfz, hnd⟩ := hW
  have hA : DataW.TrodAll enc Tryd.prog W 0 (fun _ => true) true Tryd.f3.params.toList args.toList ds p := hA0
  rw [Tryd.params3] at hA hval hsz
  obtain ⟨v0, vs0, d0, ds0, p0, q0, hargs0, rfl, rfl, h0, r0⟩ := trodAll_cons hA
  obtain ⟨v1, vs1, d1, ds1, p1, q1, hargs1, rfl, rfl, h1, r1⟩ := trodAll_cons r0
  obtain ⟨v2, vs2, d2, ds2, p2, q2, hargs2, rfl, rfl, h2, r2⟩ := trodAll_cons r1
  obtain ⟨v3, vs3, d3, ds3, p3, q3, hargs3, rfl, rfl, h3, r3⟩ := trodAll_cons r2
  obtain ⟨v4, vs4, d4, ds4, p4, q4, hargs4, rfl, rfl, h4, r4⟩ := trodAll_cons r3
  obtain ⟨v5, vs5, d5, ds5, p5, q5, hargs5, rfl, rfl, h5, r5⟩ := trodAll_cons r4
  obtain ⟨hlast, rfl, rfl⟩ := trodAll_nil r5
  obtain rfl : args = #[v0, v1, v2, v3, v4, v5] := by cases args; simp_all
  obtain ⟨rfl, rfl⟩ := trodVars_none hV
  have k0 := h0
  have lt0 : ∀ x ∈ p0, x.block < W.heap.size := by obtain ⟨m, hm⟩ := k0; exact DataW.trod_lt m _ _ _ hm
  have k1 := h1
  have lt1 : ∀ x ∈ p1, x.block < W.heap.size := by obtain ⟨m, hm⟩ := k1; exact DataW.trod_lt m _ _ _ hm
  have k2 := h2
  have lt2 : ∀ x ∈ p2, x.block < W.heap.size := by obtain ⟨m, hm⟩ := k2; exact DataW.trod_lt m _ _ _ hm
  have k3 := h3
  have lt3 : ∀ x ∈ p3, x.block < W.heap.size := by obtain ⟨m, hm⟩ := k3; exact DataW.trod_lt m _ _ _ hm
  have k4 := h4
  have lt4 : ∀ x ∈ p4, x.block < W.heap.size := by obtain ⟨m, hm⟩ := k4; exact DataW.trod_lt m _ _ _ hm
  have k5 := h5
  have lt5 : ∀ x ∈ p5, x.block < W.heap.size := by obtain ⟨m, hm⟩ := k5; exact DataW.trod_lt m _ _ _ hm
  have ok0 := hval 0 28 v0 rfl rfl
  have ok1 := hval 1 5 v1 rfl rfl
  have ok2 := hval 2 5 v2 rfl rfl
  have ok3 := hval 3 5 v3 rfl rfl
  have ok4 := hval 4 5 v4 rfl rfl
  have ok5 := hval 5 22 v5 rfl rfl
  have hwt : ∀ (j : Nat) (t : TypeId) (d : DataW H), [28, 5, 5, 5, 5, 22][j]? = some t → [d0, d1, d2, d3, d4, d5][j]? = some d → ∀ m ∈ d.weights Tryd.prog t, m ≤ reachBytes := fun j t d ht hd m hm => by
    have := List.all_eq_true.1 hsz m (DataW.weights_mem_each (j := j) (by rw [List.getElem?_append_left (by have := (List.getElem?_eq_some_iff.1 ht).1; simpa using this)]; exact ht) (by rw [List.getElem?_append_left (by have := (List.getElem?_eq_some_iff.1 hd).1; simpa using this)]; exact hd) m hm)
    simpa using this
  clear hA0 hval0 hval hsz
  obtain ⟨pk, sv, rfl, hp, hnil, hin, hrc⟩ := open_pk ok0 h0
  have hr := hrc (hwt 0 _ _ rfl rfl)
  obtain ⟨n1, rfl, _, _, w1⟩ := open_int Tryd.underlying5 ok1 h1
  obtain ⟨lo1, hi1⟩ : 0 ≤ n1 ∧ n1 ≤ 255 := by obtain ⟨m, hm, e⟩ := u8_of w1; omega
  obtain ⟨n2, rfl, _, _, w2⟩ := open_int Tryd.underlying5 ok2 h2
  obtain ⟨lo2, hi2⟩ : 0 ≤ n2 ∧ n2 ≤ 255 := by obtain ⟨m, hm, e⟩ := u8_of w2; omega
  obtain ⟨n3, rfl, _, _, w3⟩ := open_int Tryd.underlying5 ok3 h3
  obtain ⟨lo3, hi3⟩ : 0 ≤ n3 ∧ n3 ≤ 255 := by obtain ⟨m, hm, e⟩ := u8_of w3; omega
  obtain ⟨n4, rfl, _, _, w4⟩ := open_int Tryd.underlying5 ok4 h4
  obtain ⟨lo4, hi4⟩ : 0 ≤ n4 ∧ n4 ≤ 255 := by obtain ⟨m, hm, e⟩ := u8_of w4; omega
  obtain ⟨A, ln, c, rfl⟩ := okWide_slice Tryd.underlying22 ok5
  obtain ⟨l, hln, hx, hsl, hll⟩ : ∃ l : List UInt8, ln = l.length ∧ BytesAt W W.heap.size (.slice A ln c) l ∧ (A = none → c = 0) ∧ l.length ≤ maxLen := by
    obtain ⟨fuel, hf⟩ := k5
    obtain ⟨A', c', l, e, b1, b2, b3, _⟩ := bytes_of_trod hf
    simp [Value.cells] at e
    obtain ⟨rfl, rfl, rfl⟩ := e
    exact ⟨l, rfl, b1, b2, b3⟩
  refine (tells_walk pk sv n1 n2 n3 n4 A _ _ l W hp hin hr hnil hN lo1 hi1 lo2 hi2 lo3 hi3 lo4 hi4 hx hln hll hsl).mono fun e W' ⟨he, bel⟩ => ?_
  subst he
  exact ⟨_, rfl, _, _, _, [], _, [], hW', trodAll_mk1 (shut_bool Tryd.underlying4 _), (trodAll_cons_mk (Below.trod laidOut (by kernel_rfl) (of_decide_eq_true (by kernel_rfl)) k0 bel lt0) (trodAll_cons_mk (Below.trod laidOut (by kernel_rfl) (of_decide_eq_true (by kernel_rfl)) k1 bel lt1) (trodAll_cons_mk (Below.trod laidOut (by kernel_rfl) (of_decide_eq_true (by kernel_rfl)) k2 bel lt2) (trodAll_cons_mk (Below.trod laidOut (by kernel_rfl) (of_decide_eq_true (by kernel_rfl)) k3 bel lt3) (trodAll_cons_mk (Below.trod laidOut (by kernel_rfl) (of_decide_eq_true (by kernel_rfl)) k4 bel lt4) (trodAll_cons_mk (Below.trod laidOut (by kernel_rfl) (of_decide_eq_true (by kernel_rfl)) k5 bel lt5) trodAll_mk0)))))), rfl, bel.frame _, fun h => by cases h⟩

theorem over : Rows.castTellsRow.holds Tryd.pinned (OpenSpec.ofChange Rows.castTellsSpec) :=
  OpenClaim.holds_of_wide 3 Tryd.f3 rfl rfl rfl rfl rfl rfl rfl ⟨rfl, rfl, rfl, rfl, rfl⟩ rfl rfl rfl rfl rfl (by kernel_rfl) Tryd.func3 (by kernel_rfl)
    (of_decide_eq_true (by kernel_rfl)) (by unfold Func.isWrapper; first | (rw [if_pos (by decide +kernel)]; kernel_rfl) | (rw [if_neg (by decide +kernel)]; exact ⟨rfl, rfl⟩))
    (fun os started H enc _ => lifted os started H enc)

theorem proved : Rows.CastTellsCardSaid :=
  Claim7.holds_tied_plain_at .later [] [.data] true (true, "cbe4a131df848fe22551352a97dfb89cc0565795d5f5b3e7a80ff4dbe0ac905a") true
    over (fun _ h => by cases h) (by kernel_rfl) (fun _ h => by cases h) castTells_row_tie rfl ⟨rfl, rfl⟩ (by kernel_rfl) rfl
    (fun f fn hf hfn => by
      obtain rfl : f = 3 := Option.some.inj ((show Tryd.prog.funcNamed "hubbub/hubbublaw4.CastTells" = some 3 by kernel_rfl).symm.trans hf) |>.symm
      obtain rfl : fn = Tryd.f3 := (Option.some.inj (Tryd.func3.symm.trans hfn)).symm
      exact ⟨by kernel_rfl, fun j t ht => by
        rw [Tryd.params3] at ht
        have h3 : t = 28 ∨ t = 5 ∨ t = 22 := by
          rcases j with _ | _ | _ | _ | _ | _ | j
          · have := Option.some.inj ht; subst this; simp
          · have := Option.some.inj ht; subst this; simp
          · have := Option.some.inj ht; subst this; simp
          · have := Option.some.inj ht; subst this; simp
          · have := Option.some.inj ht; subst this; simp
          · have := Option.some.inj ht; subst this; simp
          · simp at ht
        rcases h3 with rfl | rfl | rfl
        · exact (show Tryd.prog.wantsStandIn 28 = false by kernel_rfl)
        · exact (show Tryd.prog.wantsStandIn 5 = false by kernel_rfl)
        · exact (show Tryd.prog.wantsStandIn 22 = false by kernel_rfl)⟩)
    (by kernel_rfl)
#print axioms proved
end Go.Proofs.YtpjlnienakiihaaDoor.castTells
