/- The law CastTells, walked. -/
import Derived.Test.YtpjlnienakiihaaDoorTells0
import Derived.Test.YtpjlnienakiihaaDoorSeatP
import Derived.Test.YtpjlnienakiihaaDoorOthers
namespace Go.Proofs.YtpjlnienakiihaaDoor
open Go.RowKit Go.Lib
set_option linter.unusedVariables false

theorem bs_tri {a : Act} {w : World} {K : Act → World → Prop} {Q : Exit → Act → World → Prop} {d : Option Tmp} {x y z : Operand} {ty : TypeId} {ps : String} {af : Array Edge}
    (p q r : Pk) (s t u : Sv) (hx : a.eval x = .agg (pkC p s)) (hy : a.eval y = .agg (pkC q t)) (hz : a.eval z = .agg (pkC r u))
    (h : K (a.put d (.slice (some ⟨w.heap.size, 0, none⟩) 3 3)) (w.alloc (.cells (tri p q r s t u) 28))) :
    Oper.wp Tryd.prog { dst := d, op := .buildSlice 32 3 #[(0, x), (1, y), (2, z)], type := ty, pos := ps, after := af, guard := none } a w K Q := by
  unfold Oper.wp execOp
  simp only [Sem.run_bind, List.map_toArray, List.map_cons, List.map_nil, hx, hy, hz, bs_three, Result.andThen_ok]
  exact h

/-- What the loop over the three packets holds on to. -/
def Three (w3 : World) (G : Nat) : Prop := G < w3.heap.size ∧ At3 w3 G 0 ∧ At3 w3 G 1 ∧ At3 w3 G 2

set_option maxRecDepth 100000 in
set_option maxHeartbeats 8000000 in
theorem tells_walk (p : Pk) (s : Sv) (k a b c : Int) (A : Option Addr) (n cx : Nat) (l : List UInt8) (w : World) (hp : PkAt w w.heap.size p s) (hi : PkIn p) (hr : PkReach p) (hpn : NilOk s) (hN : NamesAt w)
    (k0 : 0 ≤ k) (k1 : k ≤ 255) (a0 : 0 ≤ a) (a1 : a ≤ 255) (b0 : 0 ≤ b) (b1 : b ≤ 255) (c0 : 0 ≤ c) (c1 : c ≤ 255) (hx : BytesAt w w.heap.size (.slice A n cx) l) (hn : n = l.length) (hll : l.length ≤ maxLen) (hnil : A = none → cx = 0) :
    Calls Tryd.prog 3 #[pkV p s, .int .u8 k, .int .u8 a, .int .u8 b, .int .u8 c, .slice A n cx] w fun e w' => e = .returned (.bool true) ∧ Below w.heap.size w w' := by
  subst hn
  have HK := Lib.hid (fun W hW => known_any W hW)
  have HN := Lib.hid hN
  have HP := Lib.hid hp
  have HI := Lib.hid (And.intro hi hr)
  have HX := Lib.hid hx
  have HNIL := Lib.hid (And.intro hnil hpn)
  have bw : Below w.heap.size w (w.alloc (.cells (pkC p s) 28)) := by (repeat (first | assumption | exact Below.refl _ _ | exact (Below.refl _ _).alloc (Nat.le_refl _) _ | (refine thn ?_ (by assumption)) | (refine alB ?_ _) | (refine dwN ?_ _) | (refine Below.drew ?_)))
  have BW := Lib.hid bw
  unfold maxLen at hll
  clear hN hp hi hr bw hx hnil hpn
  by_cases hlp : lightP p = true
  · by_cases hl : 60 < l.length
    · go_enter Tryd.func3, Tryd.ntmps3
      go_wp2_with fail
      refine (HK.out _ (HN.out.on BW.out)).mono ?_
      rintro e w1 ⟨rfl, hb1⟩
      have r1 := heap_below hb1 (heap_alloc_new w _)
      have b1' : Below w.heap.size w w1 := by (repeat (first | assumption | exact Below.refl _ _ | exact (Below.refl _ _).alloc (Nat.le_refl _) _ | (refine thn ?_ (by assumption)) | (refine alB ?_ _) | (refine dwN ?_ _) | (refine Below.drew ?_)))
      clear hb1
      go_wp2_with ((with_reducible show wpList _ _ _ ({ dst := _, op := Op.load 28 _, type := _, pos := _, after := _, guard := _ } :: _) _ _); refine ld_pk w.heap.size (by rfl) (by rfl) (pkC p s) _ _ r1 (by rfl) ?_)
      refine (light_any p s w.heap.size w1 (HP.out.to (Nat.le_refl _) b1') b1'.size HI.out.1 HI.out.2).mono ?_
      rintro e w2 ⟨rfl, hb2⟩
      rw [hlp]
      go_wp2_with fail
      go_ret
      exact ⟨rfl, by (repeat (first | assumption | exact Below.refl _ _ | exact (Below.refl _ _).alloc (Nat.le_refl _) _ | (refine thn ?_ (by assumption)) | (refine alB ?_ _) | (refine dwN ?_ _) | (refine Below.drew ?_)))⟩
    · have hlb : decide (60 < (l.length : Int)) = false := decide_eq_false (by omega)
      go_enter Tryd.func3, Tryd.ntmps3
      go_wp2_with fail
      refine (HK.out _ (HN.out.on BW.out)).mono ?_
      rintro e w1 ⟨rfl, hb1⟩
      have r1 := heap_below hb1 (heap_alloc_new w _)
      have b1' : Below w.heap.size w w1 := by (repeat (first | assumption | exact Below.refl _ _ | exact (Below.refl _ _).alloc (Nat.le_refl _) _ | (refine thn ?_ (by assumption)) | (refine alB ?_ _) | (refine dwN ?_ _) | (refine Below.drew ?_)))
      clear hb1
      go_wp2_with ((with_reducible show wpList _ _ _ ({ dst := _, op := Op.load 28 _, type := _, pos := _, after := _, guard := _ } :: _) _ _); refine ld_pk w.heap.size (by rfl) (by rfl) (pkC p s) _ _ r1 (by rfl) ?_)
      refine (light_any p s w.heap.size w1 (HP.out.to (Nat.le_refl _) b1') b1'.size HI.out.1 HI.out.2).mono ?_
      rintro e w2 ⟨rfl, hb2⟩
      have r2 := heap_below hb2 r1
      have b2' : Below w.heap.size w w2 := by (repeat (first | assumption | exact Below.refl _ _ | exact (Below.refl _ _).alloc (Nat.le_refl _) _ | (refine thn ?_ (by assumption)) | (refine alB ?_ _) | (refine dwN ?_ _) | (refine Below.drew ?_)))
      have OK := Lib.hid (light_ok HI.out.1 hlp)
      rw [hlp]
      clear hb2 b1' r1 hlp
      go_wp2_with fail
      have R2 := Lib.hid r2
      clear r2
      refine wp_region_held_drew (S := fun V => V.heap[w.heap.size]? = some (.cells (pkC p s) 28 (0, 0)) ∧ Below w.heap.size w V) (by rfl) ⟨R2.out, b2'.drew⟩ ?_
      intro hT
      apply wpAnyH_take (i := 0) (oi := { dst := some 32, op := Op.load 28 (Operand.tmp 6), type := 28, pos := "law.go:45", after := #[], guard := none }) (v := .agg (pkC p s))
      case hi => rfl
      case hs => kernel_rfl
      case hf => kernel_rfl
      case hr => kernel_rfl
      case hQ => exact fun _ _ _ h => h
      case hS => exact hT
      case hy => exact .inl ⟨by rfl, fun V hV => ld_exec2 (by rfl) (by rfl) hV.1 (by rfl)⟩
      simp only [Act.put, List.setIfInBounds_toArray, List.set_cons_zero, List.set_cons_succ]
      apply wpAnyH_take (i := 1) (oi := { dst := some 33, op := Op.move (Operand.tmp 1), type := 5, pos := "law.go:45", after := #[], guard := none }) (v := .int .u8 k)
      case hi => rfl
      case hs => kernel_rfl
      case hf => kernel_rfl
      case hr => kernel_rfl
      case hQ => exact fun _ _ _ h => h
      case hS => exact hT
      case hy => exact .inl ⟨by rfl, fun V _ => rfl⟩
      simp only [Act.put, List.setIfInBounds_toArray, List.set_cons_zero, List.set_cons_succ]
      apply wpAnyH_take (i := 2) (oi := { dst := some 34, op := Op.move (Operand.tmp 2), type := 5, pos := "law.go:45", after := #[], guard := none }) (v := .int .u8 a)
      case hi => rfl
      case hs => kernel_rfl
      case hf => kernel_rfl
      case hr => kernel_rfl
      case hQ => exact fun _ _ _ h => h
      case hS => exact hT
      case hy => exact .inl ⟨by rfl, fun V _ => rfl⟩
      simp only [Act.put, List.setIfInBounds_toArray, List.set_cons_zero, List.set_cons_succ]
      apply wpAnyH_take (i := 3) (oi := { dst := some 35, op := Op.move (Operand.tmp 3), type := 5, pos := "law.go:45", after := #[], guard := none }) (v := .int .u8 b)
      case hi => rfl
      case hs => kernel_rfl
      case hf => kernel_rfl
      case hr => kernel_rfl
      case hQ => exact fun _ _ _ h => h
      case hS => exact hT
      case hy => exact .inl ⟨by rfl, fun V _ => rfl⟩
      simp only [Act.put, List.setIfInBounds_toArray, List.set_cons_zero, List.set_cons_succ]
      apply wpAnyH_take (i := 4) (oi := { dst := some 36, op := Op.move (Operand.tmp 4), type := 5, pos := "law.go:45", after := #[], guard := none }) (v := .int .u8 c)
      case hi => rfl
      case hs => kernel_rfl
      case hf => kernel_rfl
      case hr => kernel_rfl
      case hQ => exact fun _ _ _ h => h
      case hS => exact hT
      case hy => exact .inl ⟨by rfl, fun V _ => rfl⟩
      simp only [Act.put, List.setIfInBounds_toArray, List.set_cons_zero, List.set_cons_succ]
      apply wpAnyH_take (i := 5) (oi := { dst := some 37, op := Op.move (Operand.tmp 5), type := 22, pos := "law.go:45", after := #[], guard := none }) (v := .slice A l.length cx)
      case hi => rfl
      case hs => kernel_rfl
      case hf => kernel_rfl
      case hr => kernel_rfl
      case hQ => exact fun _ _ _ h => h
      case hS => exact hT
      case hy => exact .inl ⟨by rfl, fun V _ => rfl⟩
      simp only [Act.put, List.setIfInBounds_toArray, List.set_cons_zero, List.set_cons_succ]
      apply wpAnyH_take (i := 7) (oi := { dst := some 39, op := Op.move (Operand.tmp 1), type := 5, pos := "law.go:45", after := #[], guard := none }) (v := .int .u8 k)
      case hi => rfl
      case hs => kernel_rfl
      case hf => kernel_rfl
      case hr => kernel_rfl
      case hQ => exact fun _ _ _ h => h
      case hS => exact hT
      case hy => exact .inl ⟨by rfl, fun V _ => rfl⟩
      simp only [Act.put, List.setIfInBounds_toArray, List.set_cons_zero, List.set_cons_succ]
      apply wpAnyH_take (i := 8) (oi := { dst := some 40, op := Op.binOp BinOp.rem 5 (Operand.tmp 39) (Operand.const (Value.int IntKind.u8 17)) 5, type := 5, pos := "law.go:45", after := #[{ on := 7, ground := Ground.data }], guard := none }) (v := .int .u8 (k % 17))
      case hi => rfl
      case hs => kernel_rfl
      case hf => kernel_rfl
      case hr => kernel_rfl
      case hQ => exact fun _ _ _ h => h
      case hS => exact hT
      case hy => exact .inl ⟨by rfl, fun V _ => by simp [execOp, go_sem, Int.tmod_eq_emod_of_nonneg k0]⟩
      simp only [Act.put, List.setIfInBounds_toArray, List.set_cons_zero, List.set_cons_succ]
      apply wpAnyH_take (i := 9) (oi := { dst := some 41, op := Op.convert 5 3 (Operand.tmp 40), type := 3, pos := "law.go:45", after := #[{ on := 8, ground := Ground.data }], guard := none }) (v := .int .i64 (k % 17))
      case hi => rfl
      case hs => kernel_rfl
      case hf => kernel_rfl
      case hr => kernel_rfl
      case hQ => exact fun _ _ _ h => h
      case hS => exact hT
      case hy => exact .inl ⟨by rfl, fun V _ => by simp [execOp, go_sem]; exact IntWalk.i64_in _ (by omega)⟩
      simp only [Act.put, List.setIfInBounds_toArray, List.set_cons_zero, List.set_cons_succ]
      apply wpAnyH_take (i := 10) (oi := { dst := some 42, op := Op.move (Operand.tmp 2), type := 5, pos := "law.go:45", after := #[], guard := none }) (v := .int .u8 a)
      case hi => rfl
      case hs => kernel_rfl
      case hf => kernel_rfl
      case hr => kernel_rfl
      case hQ => exact fun _ _ _ h => h
      case hS => exact hT
      case hy => exact .inl ⟨by rfl, fun V _ => rfl⟩
      simp only [Act.put, List.setIfInBounds_toArray, List.set_cons_zero, List.set_cons_succ]
      apply wpAnyH_take (i := 11) (oi := { dst := some 43, op := Op.convert 5 3 (Operand.tmp 42), type := 3, pos := "law.go:45", after := #[{ on := 10, ground := Ground.data }], guard := none }) (v := .int .i64 a)
      case hi => rfl
      case hs => kernel_rfl
      case hf => kernel_rfl
      case hr => kernel_rfl
      case hQ => exact fun _ _ _ h => h
      case hS => exact hT
      case hy => exact .inl ⟨by rfl, fun V _ => by simp [execOp, go_sem]; exact IntWalk.i64_in _ (by omega)⟩
      simp only [Act.put, List.setIfInBounds_toArray, List.set_cons_zero, List.set_cons_succ]
      apply wpAnyH_take (i := 12) (oi := { dst := some 44, op := Op.build 28 #[(0, Operand.tmp 41), (4, Operand.tmp 43), (5, Operand.const (Value.string { data := #[116] }))], type := 28, pos := "law.go:45", after := #[{ on := 9, ground := Ground.data }, { on := 11, ground := Ground.data }], guard := none }) (v := .agg (pkC (pkT (k % 17) a) sv0))
      case hi => rfl
      case hs => kernel_rfl
      case hf => kernel_rfl
      case hr => kernel_rfl
      case hQ => exact fun _ _ _ h => h
      case hS => exact hT
      case hy => exact .inl ⟨by rfl, fun V _ => ex_bT (by rfl) (by rfl) (by rfl)⟩
      simp only [Act.put, List.setIfInBounds_toArray, List.set_cons_zero, List.set_cons_succ]
      apply wpAnyH_take (i := 15) (oi := { dst := some 47, op := Op.move (Operand.const (Value.int IntKind.i64 0)), type := 3, pos := "law.go:45", after := #[], guard := none }) (v := .int .i64 0)
      case hi => rfl
      case hs => kernel_rfl
      case hf => kernel_rfl
      case hr => kernel_rfl
      case hQ => exact fun _ _ _ h => h
      case hS => exact hT
      case hy => exact .inl ⟨by rfl, fun V _ => rfl⟩
      simp only [Act.put, List.setIfInBounds_toArray, List.set_cons_zero, List.set_cons_succ]
      refine wpAnyH_ready (rs := [6]) (by kernel_rfl) (by simp) (AllReadyH.cons (o := { dst := some 38, op := Op.call { callee := Callee.value (Operand.func 8), args := #[Operand.tmp 33, Operand.tmp 34, Operand.tmp 35, Operand.tmp 36, Operand.tmp 37], argTypes := #[5, 5, 5, 5, 22] }, type := 28, pos := "law.go:45", after := #[{ on := 1, ground := Ground.data }, { on := 2, ground := Ground.data }, { on := 3, ground := Ground.data }, { on := 4, ground := Ground.data }, { on := 5, ground := Ground.data }], guard := none }) (by rfl) ?_ AllReadyH.nil)
      intro K' hK
      rw [if_pos (by rfl)]
      go_wp2_with fail
      refine (seatP_any k a b c A l.length cx l _ k0 k1 a0 a1 b0 b1 c0 c1 (HX.out.on hT.2) rfl (by omega) HNIL.out.1).mono ?_
      rintro e w4 ⟨p2, s2, rfl, hp2, hn2, ok2, hb4⟩
      have hT4 : w4.heap[w.heap.size]? = some (.cells (pkC p s) 28 (0, 0)) ∧ Below w.heap.size w w4 := ⟨heap_below hb4 hT.1, thn hT.2 hb4⟩
      clear hb4
      go_wp2_with fail
      refine hK.out _ _ hT4 ?_
      clear hK K' hT
      intro hT
      refine wpAnyH_ready (rs := [13]) (by kernel_rfl) (by simp) (AllReadyH.cons (o := { dst := some 45, op := Op.buildSlice 32 3 #[(0, Operand.tmp 32), (1, Operand.tmp 38), (2, Operand.tmp 44)], type := 32, pos := "law.go:45", after := #[{ on := 0, ground := Ground.data }, { on := 6, ground := Ground.data }, { on := 12, ground := Ground.data }], guard := none }) (by rfl) ?_ AllReadyH.nil)
      intro K' hK
      rw [if_pos (by rfl)]
      have hG : (w4.alloc (.cells (tri p p2 (pkT (k % 17) a) s s2 sv0) 28)).heap[w4.heap.size]? = some (.cells (tri p p2 (pkT (k % 17) a) s s2 sv0) 28 (0, 0)) := heap_alloc_new _ _
      have hb5 : Below w.heap.size w (w4.alloc (.cells (tri p p2 (pkT (k % 17) a) s s2 sv0) 28)) := alB hT.2 _
      have h3 : Three (w4.alloc (.cells (tri p p2 (pkT (k % 17) a) s s2 sv0) 28)) w4.heap.size := by
        obtain ⟨e0, e1, e2⟩ := tri_at hG
        exact ⟨by simp, ⟨p, s, e0, HP.out.on hb5, HNIL.out.2, OK.out⟩, ⟨p2, s2, e1, hp2.on ((Below.refl _ _).alloc (Nat.le_refl _) _), hn2, ok2⟩, ⟨pkT (k % 17) a, sv0, e2, pkT_at _ _ _ _, sv0_nil, pkT_ok _ _ (by unfold i64In; omega) (by unfold i64In; omega)⟩⟩
      have H3 := Lib.hid h3
      have HB5 := Lib.hid hb5
      refine bs_tri p p2 (pkT (k % 17) a) s s2 sv0 (by rfl) (by rfl) (by rfl) ?_
      refine hK.out _ _ ⟨heap_keep hT.1, hb5⟩ ?_
      clear hK K' hT hG h3 hb5 hp2 hn2 ok2
      intro hT
      apply wpAnyH_take (i := 14) (oi := { dst := some 46, op := Op.call { callee := Callee.builtin Builtin.len, args := #[Operand.tmp 45], argTypes := #[32] }, type := 3, pos := "law.go:45", after := #[{ on := 13, ground := Ground.data }], guard := none }) (v := .int .i64 3)
      case hi => rfl
      case hs => kernel_rfl
      case hf => kernel_rfl
      case hr => kernel_rfl
      case hQ => exact fun _ _ _ h => h
      case hS => exact hT
      case hy => exact .inl ⟨by rfl, fun V _ => by simp [go_sem]⟩
      simp only [Act.put, List.setIfInBounds_toArray, List.set_cons_zero, List.set_cons_succ]
      refine wpAnyH_done (by kernel_rfl) ?_ _
      generalize hw3 : w4.alloc _ = w3 at *
      generalize w4.heap.size = G at *
      clear hw3 hT
      go_wp2_with fail
      go_loopw [47] (fun i wr => ∃ kk : Nat, kk ≤ 3 ∧ i = .int .i64 kk ∧ Below w3.heap.size w3 wr) (fun i _ => 3 - (intOf i).toNat)
      case atStart => exact ⟨0, Nat.zero_le _, rfl, Below.refl _ _⟩
      case round =>
        obtain ⟨kk, hk, rfl, hb⟩ := hrel
        by_cases hlt : kk < 3
        · obtain ⟨pq, ss, hrg, hpa⟩ : At3 w3 G kk := by
            rcases (show kk = 0 ∨ kk = 1 ∨ kk = 2 by omega) with rfl | rfl | rfl
            · exact H3.out.2.1
            · exact H3.out.2.2.1
            · exact H3.out.2.2.2
          have HRG := Lib.hid (rangeAt_below hrg H3.out.1 hb)
          have HPA := Lib.hid hpa
          clear hrg hpa
          rcases form_cases pq.kind with hf | hf | hf | hf | hf | hf
          · have NM : ∀ W, Calls Tryd.prog 12 #[.int .i64 pq.kind] W fun e w' => e = .returned (.string ⟨#[103, 114, 101, 101, 116, 105, 110, 103]⟩) ∧ W = w' := fun W => (lawName_any pq.kind W).mono fun e w' he => ⟨by rw [he.1, hf]; rfl, he.2⟩
            have NY : ∀ (sx : Sv) (W : World), NamesAt W → Calls Tryd.prog 13 #[wrapV pq sx] W fun e w' => e = .returned (.string ⟨#[103, 114, 101, 101, 116, 105, 110, 103]⟩) ∧ Below W.heap.size W w' := fun sx W hW => (Name_any pq sx W hW).mono fun e w' he => ⟨by rw [he.1, hf]; rfl, he.2⟩
            have NI : ∀ (sx : Sv) (W : World), Calls Tryd.prog 15 #[wrapV pq sx] W fun e w' => e = .returned (.int .i64 0) ∧ Below W.heap.size W w' := fun sx W => (Id_any pq sx W).mono fun e w' he => ⟨by rw [he.1]; unfold idP; rw [hf]; rfl, he.2⟩
            have HNM := Lib.hid NM
            have HNY := Lib.hid NY
            have HNI := Lib.hid NI
            have HF := Lib.hid hf
            clear NM NY NI hf
            go_wp2_with (first
              | ((with_reducible show wpList _ _ _ ({ dst := _, op := Op.load 28 (Operand.tmp 49), type := _, pos := _, after := _, guard := _ } :: _) _ _); refine ld_mid G (kk * 24) (pkC pq ss) (by rfl) (by rfl) HRG.out (by rfl) ?_)
              | ((with_reducible show wpList _ _ _ ({ dst := _, op := Op.store 28 (Operand.tmp 14) _, type := _, pos := _, after := _, guard := _ } :: _) _ _); refine stL wr.heap.size (by rfl) _ (pkC pq ss) (by rfl) (by rfl) (by rfl) (by rfl) pk_sz (pk_one _ _) ?_)
              | ((with_reducible show wpList _ _ _ ({ dst := _, op := Op.load 28 (Operand.tmp 14), type := _, pos := _, after := _, guard := _ } :: _) _ _); refine ld_pk wr.heap.size (by rfl) (by rfl) (pkC pq ss) _ _ (heap_alloc_new _ _) (by rfl) ?_))
            refine (Any_any pq ss w3.heap.size _ (HPA.out.1.to (Nat.le_refl _) (alB hb _)) (by have := hb.size; simp; omega) HPA.out.2.2 HPA.out.2.1).mono ?_
            rintro e v1 ⟨s1, rfl, o1, hb1⟩
            have r14 := heap_below hb1 (heap_alloc_new wr _)
            have d1 : Below w3.heap.size w3 v1 := by (repeat (first | assumption | exact Below.refl _ _ | exact (Below.refl _ _).alloc (Nat.le_refl _) _ | (refine thn ?_ (by assumption)) | (refine alB ?_ _) | (refine dwN ?_ _) | (refine Below.drew ?_)))
            clear hb1
            go_wp2_with fail
            refine (Packet_yes pq s1 v1.heap.size v1 o1.at_ (Nat.le_refl _) HPA.out.2.2 o1.nil (by rw [HF.out]; decide)).mono ?_
            rintro e v2 ⟨s2, rfl, o2, hb2⟩
            replace r14 := heap_below hb2 r14
            replace o1 := (o1.below hb2).below ((Below.refl _ _).alloc (Nat.le_refl _) (.cells (pkC pq s2) 28))
            replace o2 := o2.below ((Below.refl _ _).alloc (Nat.le_refl _) (.cells (pkC pq s2) 28))
            have d2 : Below w3.heap.size w3 v2 := by (repeat (first | assumption | exact Below.refl _ _ | exact (Below.refl _ _).alloc (Nat.le_refl _) _ | (refine thn ?_ (by assumption)) | (refine alB ?_ _) | (refine dwN ?_ _) | (refine Below.drew ?_)))
            clear hb2 d1
            go_wp2_with ((with_reducible show wpList _ _ _ ({ dst := _, op := Op.store 28 (Operand.tmp 16) _, type := _, pos := _, after := _, guard := _ } :: _) _ _); refine stL v2.heap.size (by rfl) _ (pkC pq s2) (by rfl) (by rfl) (by rfl) (by rfl) pk_sz (pk_one _ _) ?_)
            refine (Try_n pq s1 _ _ o1.at_ (Nat.le_refl _) HPA.out.2.2 o1.nil (by rw [HF.out]; decide)).mono ?_
            rintro e v3 ⟨s3, rfl, o3, hb3⟩
            have r16 := heap_below hb3 (heap_alloc_new v2 _)
            replace r14 := heap_below hb3 (heap_keep r14)
            replace o2 := (o2.below hb3).below ((Below.refl _ _).alloc (Nat.le_refl _) (.cells (pkC pk0 s3) 37))
            replace o3 := o3.below ((Below.refl _ _).alloc (Nat.le_refl _) (.cells (pkC pk0 s3) 37))
            have d3 : Below w3.heap.size w3 v3 := by (repeat (first | assumption | exact Below.refl _ _ | exact (Below.refl _ _).alloc (Nat.le_refl _) _ | (refine thn ?_ (by assumption)) | (refine alB ?_ _) | (refine dwN ?_ _) | (refine Below.drew ?_)))
            clear hb3 d2 o1
            have C14 := row_cells (heap_keep (o' := .cells (pkC pk0 s3) 37) r14)
            go_wp2_with (first
              | ((with_reducible show wpList _ _ _ ({ dst := _, op := Op.store 37 (Operand.tmp 18) _, type := _, pos := _, after := _, guard := _ } :: _) _ _); refine stL v3.heap.size (by rfl) _ (pkC pk0 s3) (by rfl) (by rfl) (by rfl) (by rfl) szMessage (pk_one _ _) ?_)
              | (go_at_call 12; refine (HNM.out _).mono ?_; rintro e w' ⟨rfl, rfl⟩))
            refine (HNY.out s1 _ ((HN.out.on HB5.out).on (alB d3 _))).mono ?_
            rintro e v4 ⟨rfl, hb4⟩
            have r18 := heap_below hb4 (heap_alloc_new v3 _)
            replace r16 := heap_below hb4 (heap_keep r16)
            replace r14 := heap_below hb4 (heap_keep r14)
            replace o2 := o2.below hb4
            replace o3 := o3.below hb4
            have d4 : Below w3.heap.size w3 v4 := by (repeat (first | assumption | exact Below.refl _ _ | exact (Below.refl _ _).alloc (Nat.le_refl _) _ | (refine thn ?_ (by assumption)) | (refine alB ?_ _) | (refine dwN ?_ _) | (refine Below.drew ?_)))
            clear hb4 d3 C14
            go_wp2_with (first
              | ((with_reducible show wpList _ _ _ ({ dst := _, op := Op.load 28 (Operand.tmp 16), type := _, pos := _, after := _, guard := _ } :: _) _ _); refine ld_pk v2.heap.size (by rfl) (by rfl) (pkC pq s2) _ _ r16 (by rfl) ?_)
              | ((with_reducible show wpList _ _ _ ({ dst := _, op := Op.load 28 (Operand.tmp 14), type := _, pos := _, after := _, guard := _ } :: _) _ _); refine ld_pk wr.heap.size (by rfl) (by rfl) (pkC pq ss) _ _ r14 (by rfl) ?_))
            refine (refSame_yes pq s2 ss v4.heap.size v4 o2.at_ ((HPA.out.1.to (Nat.le_refl _) d4).more d4.size) (Nat.le_refl _) HPA.out.2.2).mono ?_
            rintro e v5 ⟨rfl, hb5⟩
            replace r18 := heap_below hb5 r18
            replace r14 := heap_below hb5 r14
            replace o3 := o3.below hb5
            have d5 : Below w3.heap.size w3 v5 := by (repeat (first | assumption | exact Below.refl _ _ | exact (Below.refl _ _).alloc (Nat.le_refl _) _ | (refine thn ?_ (by assumption)) | (refine alB ?_ _) | (refine dwN ?_ _) | (refine Below.drew ?_)))
            clear hb5 d4 o2 r16
            go_wp2_with ((with_reducible show wpList _ _ _ ({ dst := _, op := Op.load 28 (Operand.tmp 115), type := _, pos := _, after := _, guard := _ } :: _) _ _); refine ld_pk v3.heap.size (by rfl) (by rfl) (pkC pk0 s3) _ _ r18 (by rfl) ?_)
            refine (same0 s3 sv0 v5.heap.size v5 o3.at_ (pk0_at _ _) (Nat.le_refl _)).mono ?_
            rintro e v6 ⟨rfl, hb6⟩
            replace r14 := heap_below hb6 r14
            have C14 := row_cells r14
            have d6 : Below w3.heap.size w3 v6 := by (repeat (first | assumption | exact Below.refl _ _ | exact (Below.refl _ _).alloc (Nat.le_refl _) _ | (refine thn ?_ (by assumption)) | (refine alB ?_ _) | (refine dwN ?_ _) | (refine Below.drew ?_)))
            clear hb6 d5 o3 r18 r14
            go_wp2_with fail
            refine (HNI.out s1 _).mono ?_
            rintro e v7 ⟨rfl, hb7⟩
            have d7 : Below w3.heap.size w3 v7 := by (repeat (first | assumption | exact Below.refl _ _ | exact (Below.refl _ _).alloc (Nat.le_refl _) _ | (refine thn ?_ (by assumption)) | (refine alB ?_ _) | (refine dwN ?_ _) | (refine Below.drew ?_)))
            clear hb7 d6 C14
            go_wp2_with fail
            go_roundw
            case rel => exact ⟨kk + 1, hlt, by go_num, d7⟩
            case measure => simp [intOf]; omega
          · have NM : ∀ W, Calls Tryd.prog 12 #[.int .i64 pq.kind] W fun e w' => e = .returned (.string ⟨#[109, 101, 115, 115, 97, 103, 101]⟩) ∧ W = w' := fun W => (lawName_any pq.kind W).mono fun e w' he => ⟨by rw [he.1, hf]; rfl, he.2⟩
            have NY : ∀ (sx : Sv) (W : World), NamesAt W → Calls Tryd.prog 13 #[wrapV pq sx] W fun e w' => e = .returned (.string ⟨#[109, 101, 115, 115, 97, 103, 101]⟩) ∧ Below W.heap.size W w' := fun sx W hW => (Name_any pq sx W hW).mono fun e w' he => ⟨by rw [he.1, hf]; rfl, he.2⟩
            have NI : ∀ (sx : Sv) (W : World), Calls Tryd.prog 15 #[wrapV pq sx] W fun e w' => e = .returned (.int .i64 pq.id) ∧ Below W.heap.size W w' := fun sx W => (Id_any pq sx W).mono fun e w' he => ⟨by rw [he.1]; unfold idP; rw [hf]; rfl, he.2⟩
            have HNM := Lib.hid NM
            have HNY := Lib.hid NY
            have HNI := Lib.hid NI
            have HF := Lib.hid hf
            clear NM NY NI hf
            go_wp2_with (first
              | ((with_reducible show wpList _ _ _ ({ dst := _, op := Op.load 28 (Operand.tmp 49), type := _, pos := _, after := _, guard := _ } :: _) _ _); refine ld_mid G (kk * 24) (pkC pq ss) (by rfl) (by rfl) HRG.out (by rfl) ?_)
              | ((with_reducible show wpList _ _ _ ({ dst := _, op := Op.store 28 (Operand.tmp 14) _, type := _, pos := _, after := _, guard := _ } :: _) _ _); refine stL wr.heap.size (by rfl) _ (pkC pq ss) (by rfl) (by rfl) (by rfl) (by rfl) pk_sz (pk_one _ _) ?_)
              | ((with_reducible show wpList _ _ _ ({ dst := _, op := Op.load 28 (Operand.tmp 14), type := _, pos := _, after := _, guard := _ } :: _) _ _); refine ld_pk wr.heap.size (by rfl) (by rfl) (pkC pq ss) _ _ (heap_alloc_new _ _) (by rfl) ?_))
            refine (Any_any pq ss w3.heap.size _ (HPA.out.1.to (Nat.le_refl _) (alB hb _)) (by have := hb.size; simp; omega) HPA.out.2.2 HPA.out.2.1).mono ?_
            rintro e v1 ⟨s1, rfl, o1, hb1⟩
            have r14 := heap_below hb1 (heap_alloc_new wr _)
            have d1 : Below w3.heap.size w3 v1 := by (repeat (first | assumption | exact Below.refl _ _ | exact (Below.refl _ _).alloc (Nat.le_refl _) _ | (refine thn ?_ (by assumption)) | (refine alB ?_ _) | (refine dwN ?_ _) | (refine Below.drew ?_)))
            clear hb1
            go_wp2_with fail
            refine (Packet_yes pq s1 v1.heap.size v1 o1.at_ (Nat.le_refl _) HPA.out.2.2 o1.nil (by rw [HF.out]; decide)).mono ?_
            rintro e v2 ⟨s2, rfl, o2, hb2⟩
            replace r14 := heap_below hb2 r14
            replace o1 := (o1.below hb2).below ((Below.refl _ _).alloc (Nat.le_refl _) (.cells (pkC pq s2) 28))
            replace o2 := o2.below ((Below.refl _ _).alloc (Nat.le_refl _) (.cells (pkC pq s2) 28))
            have d2 : Below w3.heap.size w3 v2 := by (repeat (first | assumption | exact Below.refl _ _ | exact (Below.refl _ _).alloc (Nat.le_refl _) _ | (refine thn ?_ (by assumption)) | (refine alB ?_ _) | (refine dwN ?_ _) | (refine Below.drew ?_)))
            clear hb2 d1
            go_wp2_with ((with_reducible show wpList _ _ _ ({ dst := _, op := Op.store 28 (Operand.tmp 16) _, type := _, pos := _, after := _, guard := _ } :: _) _ _); refine stL v2.heap.size (by rfl) _ (pkC pq s2) (by rfl) (by rfl) (by rfl) (by rfl) pk_sz (pk_one _ _) ?_)
            refine (Try_y pq s1 _ _ o1.at_ (Nat.le_refl _) HPA.out.2.2 o1.nil HF.out).mono ?_
            rintro e v3 ⟨s3, rfl, o3, hb3⟩
            have r16 := heap_below hb3 (heap_alloc_new v2 _)
            replace r14 := heap_below hb3 (heap_keep r14)
            replace o2 := (o2.below hb3).below ((Below.refl _ _).alloc (Nat.le_refl _) (.cells (pkC pq s3) 37))
            replace o3 := o3.below ((Below.refl _ _).alloc (Nat.le_refl _) (.cells (pkC pq s3) 37))
            have d3 : Below w3.heap.size w3 v3 := by (repeat (first | assumption | exact Below.refl _ _ | exact (Below.refl _ _).alloc (Nat.le_refl _) _ | (refine thn ?_ (by assumption)) | (refine alB ?_ _) | (refine dwN ?_ _) | (refine Below.drew ?_)))
            clear hb3 d2 o1
            have C14 := row_cells (heap_keep (o' := .cells (pkC pq s3) 37) r14)
            go_wp2_with (first
              | ((with_reducible show wpList _ _ _ ({ dst := _, op := Op.store 37 (Operand.tmp 18) _, type := _, pos := _, after := _, guard := _ } :: _) _ _); refine stL v3.heap.size (by rfl) _ (pkC pq s3) (by rfl) (by rfl) (by rfl) (by rfl) szMessage (pk_one _ _) ?_)
              | (go_at_call 12; refine (HNM.out _).mono ?_; rintro e w' ⟨rfl, rfl⟩))
            refine (HNY.out s1 _ ((HN.out.on HB5.out).on (alB d3 _))).mono ?_
            rintro e v4 ⟨rfl, hb4⟩
            have r18 := heap_below hb4 (heap_alloc_new v3 _)
            replace r16 := heap_below hb4 (heap_keep r16)
            replace r14 := heap_below hb4 (heap_keep r14)
            replace o2 := o2.below hb4
            replace o3 := o3.below hb4
            have d4 : Below w3.heap.size w3 v4 := by (repeat (first | assumption | exact Below.refl _ _ | exact (Below.refl _ _).alloc (Nat.le_refl _) _ | (refine thn ?_ (by assumption)) | (refine alB ?_ _) | (refine dwN ?_ _) | (refine Below.drew ?_)))
            clear hb4 d3 C14
            go_wp2_with (first
              | ((with_reducible show wpList _ _ _ ({ dst := _, op := Op.load 28 (Operand.tmp 16), type := _, pos := _, after := _, guard := _ } :: _) _ _); refine ld_pk v2.heap.size (by rfl) (by rfl) (pkC pq s2) _ _ r16 (by rfl) ?_)
              | ((with_reducible show wpList _ _ _ ({ dst := _, op := Op.load 28 (Operand.tmp 14), type := _, pos := _, after := _, guard := _ } :: _) _ _); refine ld_pk wr.heap.size (by rfl) (by rfl) (pkC pq ss) _ _ r14 (by rfl) ?_))
            refine (refSame_yes pq s2 ss v4.heap.size v4 o2.at_ ((HPA.out.1.to (Nat.le_refl _) d4).more d4.size) (Nat.le_refl _) HPA.out.2.2).mono ?_
            rintro e v5 ⟨rfl, hb5⟩
            replace r18 := heap_below hb5 r18
            replace r14 := heap_below hb5 r14
            replace o3 := o3.below hb5
            have d5 : Below w3.heap.size w3 v5 := by (repeat (first | assumption | exact Below.refl _ _ | exact (Below.refl _ _).alloc (Nat.le_refl _) _ | (refine thn ?_ (by assumption)) | (refine alB ?_ _) | (refine dwN ?_ _) | (refine Below.drew ?_)))
            clear hb5 d4 o2 r16
            go_wp2_with (first
              | ((with_reducible show wpList _ _ _ ({ dst := _, op := Op.load 28 (Operand.tmp 104), type := _, pos := _, after := _, guard := _ } :: _) _ _); refine ld_pk v3.heap.size (by rfl) (by rfl) (pkC pq s3) _ _ r18 (by rfl) ?_)
              | ((with_reducible show wpList _ _ _ ({ dst := _, op := Op.load 28 (Operand.tmp 14), type := _, pos := _, after := _, guard := _ } :: _) _ _); refine ld_pk wr.heap.size (by rfl) (by rfl) (pkC pq ss) _ _ r14 (by rfl) ?_))
            refine (refSame_yes pq s3 ss v5.heap.size v5 o3.at_ ((HPA.out.1.to (Nat.le_refl _) d5).more d5.size) (Nat.le_refl _) HPA.out.2.2).mono ?_
            rintro e v6 ⟨rfl, hb6⟩
            replace r14 := heap_below hb6 r14
            have C14 := row_cells r14
            have d6 : Below w3.heap.size w3 v6 := by (repeat (first | assumption | exact Below.refl _ _ | exact (Below.refl _ _).alloc (Nat.le_refl _) _ | (refine thn ?_ (by assumption)) | (refine alB ?_ _) | (refine dwN ?_ _) | (refine Below.drew ?_)))
            clear hb6 d5 o3 r18 r14
            go_wp2_with fail
            refine (HNI.out s1 _).mono ?_
            rintro e v7 ⟨rfl, hb7⟩
            have d7 : Below w3.heap.size w3 v7 := by (repeat (first | assumption | exact Below.refl _ _ | exact (Below.refl _ _).alloc (Nat.le_refl _) _ | (refine thn ?_ (by assumption)) | (refine alB ?_ _) | (refine dwN ?_ _) | (refine Below.drew ?_)))
            clear hb7 d6 C14
            go_wp2_with fail
            go_roundw
            case rel => exact ⟨kk + 1, hlt, by go_num, d7⟩
            case measure => simp [intOf]; omega
          · have NM : ∀ W, Calls Tryd.prog 12 #[.int .i64 pq.kind] W fun e w' => e = .returned (.string ⟨#[97, 99, 107]⟩) ∧ W = w' := fun W => (lawName_any pq.kind W).mono fun e w' he => ⟨by rw [he.1, hf]; rfl, he.2⟩
            have NY : ∀ (sx : Sv) (W : World), NamesAt W → Calls Tryd.prog 13 #[wrapV pq sx] W fun e w' => e = .returned (.string ⟨#[97, 99, 107]⟩) ∧ Below W.heap.size W w' := fun sx W hW => (Name_any pq sx W hW).mono fun e w' he => ⟨by rw [he.1, hf]; rfl, he.2⟩
            have NI : ∀ (sx : Sv) (W : World), Calls Tryd.prog 15 #[wrapV pq sx] W fun e w' => e = .returned (.int .i64 pq.id) ∧ Below W.heap.size W w' := fun sx W => (Id_any pq sx W).mono fun e w' he => ⟨by rw [he.1]; unfold idP; rw [hf]; rfl, he.2⟩
            have HNM := Lib.hid NM
            have HNY := Lib.hid NY
            have HNI := Lib.hid NI
            have HF := Lib.hid hf
            clear NM NY NI hf
            go_wp2_with (first
              | ((with_reducible show wpList _ _ _ ({ dst := _, op := Op.load 28 (Operand.tmp 49), type := _, pos := _, after := _, guard := _ } :: _) _ _); refine ld_mid G (kk * 24) (pkC pq ss) (by rfl) (by rfl) HRG.out (by rfl) ?_)
              | ((with_reducible show wpList _ _ _ ({ dst := _, op := Op.store 28 (Operand.tmp 14) _, type := _, pos := _, after := _, guard := _ } :: _) _ _); refine stL wr.heap.size (by rfl) _ (pkC pq ss) (by rfl) (by rfl) (by rfl) (by rfl) pk_sz (pk_one _ _) ?_)
              | ((with_reducible show wpList _ _ _ ({ dst := _, op := Op.load 28 (Operand.tmp 14), type := _, pos := _, after := _, guard := _ } :: _) _ _); refine ld_pk wr.heap.size (by rfl) (by rfl) (pkC pq ss) _ _ (heap_alloc_new _ _) (by rfl) ?_))
            refine (Any_any pq ss w3.heap.size _ (HPA.out.1.to (Nat.le_refl _) (alB hb _)) (by have := hb.size; simp; omega) HPA.out.2.2 HPA.out.2.1).mono ?_
            rintro e v1 ⟨s1, rfl, o1, hb1⟩
            have r14 := heap_below hb1 (heap_alloc_new wr _)
            have d1 : Below w3.heap.size w3 v1 := by (repeat (first | assumption | exact Below.refl _ _ | exact (Below.refl _ _).alloc (Nat.le_refl _) _ | (refine thn ?_ (by assumption)) | (refine alB ?_ _) | (refine dwN ?_ _) | (refine Below.drew ?_)))
            clear hb1
            go_wp2_with fail
            refine (Packet_yes pq s1 v1.heap.size v1 o1.at_ (Nat.le_refl _) HPA.out.2.2 o1.nil (by rw [HF.out]; decide)).mono ?_
            rintro e v2 ⟨s2, rfl, o2, hb2⟩
            replace r14 := heap_below hb2 r14
            replace o1 := (o1.below hb2).below ((Below.refl _ _).alloc (Nat.le_refl _) (.cells (pkC pq s2) 28))
            replace o2 := o2.below ((Below.refl _ _).alloc (Nat.le_refl _) (.cells (pkC pq s2) 28))
            have d2 : Below w3.heap.size w3 v2 := by (repeat (first | assumption | exact Below.refl _ _ | exact (Below.refl _ _).alloc (Nat.le_refl _) _ | (refine thn ?_ (by assumption)) | (refine alB ?_ _) | (refine dwN ?_ _) | (refine Below.drew ?_)))
            clear hb2 d1
            go_wp2_with ((with_reducible show wpList _ _ _ ({ dst := _, op := Op.store 28 (Operand.tmp 16) _, type := _, pos := _, after := _, guard := _ } :: _) _ _); refine stL v2.heap.size (by rfl) _ (pkC pq s2) (by rfl) (by rfl) (by rfl) (by rfl) pk_sz (pk_one _ _) ?_)
            refine (Try_n pq s1 _ _ o1.at_ (Nat.le_refl _) HPA.out.2.2 o1.nil (by rw [HF.out]; decide)).mono ?_
            rintro e v3 ⟨s3, rfl, o3, hb3⟩
            have r16 := heap_below hb3 (heap_alloc_new v2 _)
            replace r14 := heap_below hb3 (heap_keep r14)
            replace o2 := (o2.below hb3).below ((Below.refl _ _).alloc (Nat.le_refl _) (.cells (pkC pk0 s3) 37))
            replace o3 := o3.below ((Below.refl _ _).alloc (Nat.le_refl _) (.cells (pkC pk0 s3) 37))
            have d3 : Below w3.heap.size w3 v3 := by (repeat (first | assumption | exact Below.refl _ _ | exact (Below.refl _ _).alloc (Nat.le_refl _) _ | (refine thn ?_ (by assumption)) | (refine alB ?_ _) | (refine dwN ?_ _) | (refine Below.drew ?_)))
            clear hb3 d2 o1
            have C14 := row_cells (heap_keep (o' := .cells (pkC pk0 s3) 37) r14)
            go_wp2_with (first
              | ((with_reducible show wpList _ _ _ ({ dst := _, op := Op.store 37 (Operand.tmp 18) _, type := _, pos := _, after := _, guard := _ } :: _) _ _); refine stL v3.heap.size (by rfl) _ (pkC pk0 s3) (by rfl) (by rfl) (by rfl) (by rfl) szMessage (pk_one _ _) ?_)
              | (go_at_call 12; refine (HNM.out _).mono ?_; rintro e w' ⟨rfl, rfl⟩))
            refine (HNY.out s1 _ ((HN.out.on HB5.out).on (alB d3 _))).mono ?_
            rintro e v4 ⟨rfl, hb4⟩
            have r18 := heap_below hb4 (heap_alloc_new v3 _)
            replace r16 := heap_below hb4 (heap_keep r16)
            replace r14 := heap_below hb4 (heap_keep r14)
            replace o2 := o2.below hb4
            replace o3 := o3.below hb4
            have d4 : Below w3.heap.size w3 v4 := by (repeat (first | assumption | exact Below.refl _ _ | exact (Below.refl _ _).alloc (Nat.le_refl _) _ | (refine thn ?_ (by assumption)) | (refine alB ?_ _) | (refine dwN ?_ _) | (refine Below.drew ?_)))
            clear hb4 d3 C14
            go_wp2_with (first
              | ((with_reducible show wpList _ _ _ ({ dst := _, op := Op.load 28 (Operand.tmp 16), type := _, pos := _, after := _, guard := _ } :: _) _ _); refine ld_pk v2.heap.size (by rfl) (by rfl) (pkC pq s2) _ _ r16 (by rfl) ?_)
              | ((with_reducible show wpList _ _ _ ({ dst := _, op := Op.load 28 (Operand.tmp 14), type := _, pos := _, after := _, guard := _ } :: _) _ _); refine ld_pk wr.heap.size (by rfl) (by rfl) (pkC pq ss) _ _ r14 (by rfl) ?_))
            refine (refSame_yes pq s2 ss v4.heap.size v4 o2.at_ ((HPA.out.1.to (Nat.le_refl _) d4).more d4.size) (Nat.le_refl _) HPA.out.2.2).mono ?_
            rintro e v5 ⟨rfl, hb5⟩
            replace r18 := heap_below hb5 r18
            replace r14 := heap_below hb5 r14
            replace o3 := o3.below hb5
            have d5 : Below w3.heap.size w3 v5 := by (repeat (first | assumption | exact Below.refl _ _ | exact (Below.refl _ _).alloc (Nat.le_refl _) _ | (refine thn ?_ (by assumption)) | (refine alB ?_ _) | (refine dwN ?_ _) | (refine Below.drew ?_)))
            clear hb5 d4 o2 r16
            go_wp2_with ((with_reducible show wpList _ _ _ ({ dst := _, op := Op.load 28 (Operand.tmp 115), type := _, pos := _, after := _, guard := _ } :: _) _ _); refine ld_pk v3.heap.size (by rfl) (by rfl) (pkC pk0 s3) _ _ r18 (by rfl) ?_)
            refine (same0 s3 sv0 v5.heap.size v5 o3.at_ (pk0_at _ _) (Nat.le_refl _)).mono ?_
            rintro e v6 ⟨rfl, hb6⟩
            replace r14 := heap_below hb6 r14
            have C14 := row_cells r14
            have d6 : Below w3.heap.size w3 v6 := by (repeat (first | assumption | exact Below.refl _ _ | exact (Below.refl _ _).alloc (Nat.le_refl _) _ | (refine thn ?_ (by assumption)) | (refine alB ?_ _) | (refine dwN ?_ _) | (refine Below.drew ?_)))
            clear hb6 d5 o3 r18 r14
            go_wp2_with fail
            refine (HNI.out s1 _).mono ?_
            rintro e v7 ⟨rfl, hb7⟩
            have d7 : Below w3.heap.size w3 v7 := by (repeat (first | assumption | exact Below.refl _ _ | exact (Below.refl _ _).alloc (Nat.le_refl _) _ | (refine thn ?_ (by assumption)) | (refine alB ?_ _) | (refine dwN ?_ _) | (refine Below.drew ?_)))
            clear hb7 d6 C14
            go_wp2_with fail
            go_roundw
            case rel => exact ⟨kk + 1, hlt, by go_num, d7⟩
            case measure => simp [intOf]; omega
          · have NM : ∀ W, Calls Tryd.prog 12 #[.int .i64 pq.kind] W fun e w' => e = .returned (.string ⟨#[97, 115, 107]⟩) ∧ W = w' := fun W => (lawName_any pq.kind W).mono fun e w' he => ⟨by rw [he.1, hf]; rfl, he.2⟩
            have NY : ∀ (sx : Sv) (W : World), NamesAt W → Calls Tryd.prog 13 #[wrapV pq sx] W fun e w' => e = .returned (.string ⟨#[97, 115, 107]⟩) ∧ Below W.heap.size W w' := fun sx W hW => (Name_any pq sx W hW).mono fun e w' he => ⟨by rw [he.1, hf]; rfl, he.2⟩
            have NI : ∀ (sx : Sv) (W : World), Calls Tryd.prog 15 #[wrapV pq sx] W fun e w' => e = .returned (.int .i64 pq.id) ∧ Below W.heap.size W w' := fun sx W => (Id_any pq sx W).mono fun e w' he => ⟨by rw [he.1]; unfold idP; rw [hf]; rfl, he.2⟩
            have HNM := Lib.hid NM
            have HNY := Lib.hid NY
            have HNI := Lib.hid NI
            have HF := Lib.hid hf
            clear NM NY NI hf
            go_wp2_with (first
              | ((with_reducible show wpList _ _ _ ({ dst := _, op := Op.load 28 (Operand.tmp 49), type := _, pos := _, after := _, guard := _ } :: _) _ _); refine ld_mid G (kk * 24) (pkC pq ss) (by rfl) (by rfl) HRG.out (by rfl) ?_)
              | ((with_reducible show wpList _ _ _ ({ dst := _, op := Op.store 28 (Operand.tmp 14) _, type := _, pos := _, after := _, guard := _ } :: _) _ _); refine stL wr.heap.size (by rfl) _ (pkC pq ss) (by rfl) (by rfl) (by rfl) (by rfl) pk_sz (pk_one _ _) ?_)
              | ((with_reducible show wpList _ _ _ ({ dst := _, op := Op.load 28 (Operand.tmp 14), type := _, pos := _, after := _, guard := _ } :: _) _ _); refine ld_pk wr.heap.size (by rfl) (by rfl) (pkC pq ss) _ _ (heap_alloc_new _ _) (by rfl) ?_))
            refine (Any_any pq ss w3.heap.size _ (HPA.out.1.to (Nat.le_refl _) (alB hb _)) (by have := hb.size; simp; omega) HPA.out.2.2 HPA.out.2.1).mono ?_
            rintro e v1 ⟨s1, rfl, o1, hb1⟩
            have r14 := heap_below hb1 (heap_alloc_new wr _)
            have d1 : Below w3.heap.size w3 v1 := by (repeat (first | assumption | exact Below.refl _ _ | exact (Below.refl _ _).alloc (Nat.le_refl _) _ | (refine thn ?_ (by assumption)) | (refine alB ?_ _) | (refine dwN ?_ _) | (refine Below.drew ?_)))
            clear hb1
            go_wp2_with fail
            refine (Packet_yes pq s1 v1.heap.size v1 o1.at_ (Nat.le_refl _) HPA.out.2.2 o1.nil (by rw [HF.out]; decide)).mono ?_
            rintro e v2 ⟨s2, rfl, o2, hb2⟩
            replace r14 := heap_below hb2 r14
            replace o1 := (o1.below hb2).below ((Below.refl _ _).alloc (Nat.le_refl _) (.cells (pkC pq s2) 28))
            replace o2 := o2.below ((Below.refl _ _).alloc (Nat.le_refl _) (.cells (pkC pq s2) 28))
            have d2 : Below w3.heap.size w3 v2 := by (repeat (first | assumption | exact Below.refl _ _ | exact (Below.refl _ _).alloc (Nat.le_refl _) _ | (refine thn ?_ (by assumption)) | (refine alB ?_ _) | (refine dwN ?_ _) | (refine Below.drew ?_)))
            clear hb2 d1
            go_wp2_with ((with_reducible show wpList _ _ _ ({ dst := _, op := Op.store 28 (Operand.tmp 16) _, type := _, pos := _, after := _, guard := _ } :: _) _ _); refine stL v2.heap.size (by rfl) _ (pkC pq s2) (by rfl) (by rfl) (by rfl) (by rfl) pk_sz (pk_one _ _) ?_)
            refine (Try_n pq s1 _ _ o1.at_ (Nat.le_refl _) HPA.out.2.2 o1.nil (by rw [HF.out]; decide)).mono ?_
            rintro e v3 ⟨s3, rfl, o3, hb3⟩
            have r16 := heap_below hb3 (heap_alloc_new v2 _)
            replace r14 := heap_below hb3 (heap_keep r14)
            replace o2 := (o2.below hb3).below ((Below.refl _ _).alloc (Nat.le_refl _) (.cells (pkC pk0 s3) 37))
            replace o3 := o3.below ((Below.refl _ _).alloc (Nat.le_refl _) (.cells (pkC pk0 s3) 37))
            have d3 : Below w3.heap.size w3 v3 := by (repeat (first | assumption | exact Below.refl _ _ | exact (Below.refl _ _).alloc (Nat.le_refl _) _ | (refine thn ?_ (by assumption)) | (refine alB ?_ _) | (refine dwN ?_ _) | (refine Below.drew ?_)))
            clear hb3 d2 o1
            have C14 := row_cells (heap_keep (o' := .cells (pkC pk0 s3) 37) r14)
            go_wp2_with (first
              | ((with_reducible show wpList _ _ _ ({ dst := _, op := Op.store 37 (Operand.tmp 18) _, type := _, pos := _, after := _, guard := _ } :: _) _ _); refine stL v3.heap.size (by rfl) _ (pkC pk0 s3) (by rfl) (by rfl) (by rfl) (by rfl) szMessage (pk_one _ _) ?_)
              | (go_at_call 12; refine (HNM.out _).mono ?_; rintro e w' ⟨rfl, rfl⟩))
            refine (HNY.out s1 _ ((HN.out.on HB5.out).on (alB d3 _))).mono ?_
            rintro e v4 ⟨rfl, hb4⟩
            have r18 := heap_below hb4 (heap_alloc_new v3 _)
            replace r16 := heap_below hb4 (heap_keep r16)
            replace r14 := heap_below hb4 (heap_keep r14)
            replace o2 := o2.below hb4
            replace o3 := o3.below hb4
            have d4 : Below w3.heap.size w3 v4 := by (repeat (first | assumption | exact Below.refl _ _ | exact (Below.refl _ _).alloc (Nat.le_refl _) _ | (refine thn ?_ (by assumption)) | (refine alB ?_ _) | (refine dwN ?_ _) | (refine Below.drew ?_)))
            clear hb4 d3 C14
            go_wp2_with (first
              | ((with_reducible show wpList _ _ _ ({ dst := _, op := Op.load 28 (Operand.tmp 16), type := _, pos := _, after := _, guard := _ } :: _) _ _); refine ld_pk v2.heap.size (by rfl) (by rfl) (pkC pq s2) _ _ r16 (by rfl) ?_)
              | ((with_reducible show wpList _ _ _ ({ dst := _, op := Op.load 28 (Operand.tmp 14), type := _, pos := _, after := _, guard := _ } :: _) _ _); refine ld_pk wr.heap.size (by rfl) (by rfl) (pkC pq ss) _ _ r14 (by rfl) ?_))
            refine (refSame_yes pq s2 ss v4.heap.size v4 o2.at_ ((HPA.out.1.to (Nat.le_refl _) d4).more d4.size) (Nat.le_refl _) HPA.out.2.2).mono ?_
            rintro e v5 ⟨rfl, hb5⟩
            replace r18 := heap_below hb5 r18
            replace r14 := heap_below hb5 r14
            replace o3 := o3.below hb5
            have d5 : Below w3.heap.size w3 v5 := by (repeat (first | assumption | exact Below.refl _ _ | exact (Below.refl _ _).alloc (Nat.le_refl _) _ | (refine thn ?_ (by assumption)) | (refine alB ?_ _) | (refine dwN ?_ _) | (refine Below.drew ?_)))
            clear hb5 d4 o2 r16
            go_wp2_with ((with_reducible show wpList _ _ _ ({ dst := _, op := Op.load 28 (Operand.tmp 115), type := _, pos := _, after := _, guard := _ } :: _) _ _); refine ld_pk v3.heap.size (by rfl) (by rfl) (pkC pk0 s3) _ _ r18 (by rfl) ?_)
            refine (same0 s3 sv0 v5.heap.size v5 o3.at_ (pk0_at _ _) (Nat.le_refl _)).mono ?_
            rintro e v6 ⟨rfl, hb6⟩
            replace r14 := heap_below hb6 r14
            have C14 := row_cells r14
            have d6 : Below w3.heap.size w3 v6 := by (repeat (first | assumption | exact Below.refl _ _ | exact (Below.refl _ _).alloc (Nat.le_refl _) _ | (refine thn ?_ (by assumption)) | (refine alB ?_ _) | (refine dwN ?_ _) | (refine Below.drew ?_)))
            clear hb6 d5 o3 r18 r14
            go_wp2_with fail
            refine (HNI.out s1 _).mono ?_
            rintro e v7 ⟨rfl, hb7⟩
            have d7 : Below w3.heap.size w3 v7 := by (repeat (first | assumption | exact Below.refl _ _ | exact (Below.refl _ _).alloc (Nat.le_refl _) _ | (refine thn ?_ (by assumption)) | (refine alB ?_ _) | (refine dwN ?_ _) | (refine Below.drew ?_)))
            clear hb7 d6 C14
            go_wp2_with fail
            go_roundw
            case rel => exact ⟨kk + 1, hlt, by go_num, d7⟩
            case measure => simp [intOf]; omega
          · have NM : ∀ W, Calls Tryd.prog 12 #[.int .i64 pq.kind] W fun e w' => e = .returned (.string ⟨#[115, 105, 103, 110, 97, 108]⟩) ∧ W = w' := fun W => (lawName_any pq.kind W).mono fun e w' he => ⟨by rw [he.1, hf]; rfl, he.2⟩
            have NY : ∀ (sx : Sv) (W : World), NamesAt W → Calls Tryd.prog 13 #[wrapV pq sx] W fun e w' => e = .returned (.string ⟨#[115, 105, 103, 110, 97, 108]⟩) ∧ Below W.heap.size W w' := fun sx W hW => (Name_any pq sx W hW).mono fun e w' he => ⟨by rw [he.1, hf]; rfl, he.2⟩
            have NI : ∀ (sx : Sv) (W : World), Calls Tryd.prog 15 #[wrapV pq sx] W fun e w' => e = .returned (.int .i64 0) ∧ Below W.heap.size W w' := fun sx W => (Id_any pq sx W).mono fun e w' he => ⟨by rw [he.1]; unfold idP; rw [hf]; rfl, he.2⟩
            have HNM := Lib.hid NM
            have HNY := Lib.hid NY
            have HNI := Lib.hid NI
            have HF := Lib.hid hf
            clear NM NY NI hf
            go_wp2_with (first
              | ((with_reducible show wpList _ _ _ ({ dst := _, op := Op.load 28 (Operand.tmp 49), type := _, pos := _, after := _, guard := _ } :: _) _ _); refine ld_mid G (kk * 24) (pkC pq ss) (by rfl) (by rfl) HRG.out (by rfl) ?_)
              | ((with_reducible show wpList _ _ _ ({ dst := _, op := Op.store 28 (Operand.tmp 14) _, type := _, pos := _, after := _, guard := _ } :: _) _ _); refine stL wr.heap.size (by rfl) _ (pkC pq ss) (by rfl) (by rfl) (by rfl) (by rfl) pk_sz (pk_one _ _) ?_)
              | ((with_reducible show wpList _ _ _ ({ dst := _, op := Op.load 28 (Operand.tmp 14), type := _, pos := _, after := _, guard := _ } :: _) _ _); refine ld_pk wr.heap.size (by rfl) (by rfl) (pkC pq ss) _ _ (heap_alloc_new _ _) (by rfl) ?_))
            refine (Any_any pq ss w3.heap.size _ (HPA.out.1.to (Nat.le_refl _) (alB hb _)) (by have := hb.size; simp; omega) HPA.out.2.2 HPA.out.2.1).mono ?_
            rintro e v1 ⟨s1, rfl, o1, hb1⟩
            have r14 := heap_below hb1 (heap_alloc_new wr _)
            have d1 : Below w3.heap.size w3 v1 := by (repeat (first | assumption | exact Below.refl _ _ | exact (Below.refl _ _).alloc (Nat.le_refl _) _ | (refine thn ?_ (by assumption)) | (refine alB ?_ _) | (refine dwN ?_ _) | (refine Below.drew ?_)))
            clear hb1
            go_wp2_with fail
            refine (Packet_yes pq s1 v1.heap.size v1 o1.at_ (Nat.le_refl _) HPA.out.2.2 o1.nil (by rw [HF.out]; decide)).mono ?_
            rintro e v2 ⟨s2, rfl, o2, hb2⟩
            replace r14 := heap_below hb2 r14
            replace o1 := (o1.below hb2).below ((Below.refl _ _).alloc (Nat.le_refl _) (.cells (pkC pq s2) 28))
            replace o2 := o2.below ((Below.refl _ _).alloc (Nat.le_refl _) (.cells (pkC pq s2) 28))
            have d2 : Below w3.heap.size w3 v2 := by (repeat (first | assumption | exact Below.refl _ _ | exact (Below.refl _ _).alloc (Nat.le_refl _) _ | (refine thn ?_ (by assumption)) | (refine alB ?_ _) | (refine dwN ?_ _) | (refine Below.drew ?_)))
            clear hb2 d1
            go_wp2_with ((with_reducible show wpList _ _ _ ({ dst := _, op := Op.store 28 (Operand.tmp 16) _, type := _, pos := _, after := _, guard := _ } :: _) _ _); refine stL v2.heap.size (by rfl) _ (pkC pq s2) (by rfl) (by rfl) (by rfl) (by rfl) pk_sz (pk_one _ _) ?_)
            refine (Try_n pq s1 _ _ o1.at_ (Nat.le_refl _) HPA.out.2.2 o1.nil (by rw [HF.out]; decide)).mono ?_
            rintro e v3 ⟨s3, rfl, o3, hb3⟩
            have r16 := heap_below hb3 (heap_alloc_new v2 _)
            replace r14 := heap_below hb3 (heap_keep r14)
            replace o2 := (o2.below hb3).below ((Below.refl _ _).alloc (Nat.le_refl _) (.cells (pkC pk0 s3) 37))
            replace o3 := o3.below ((Below.refl _ _).alloc (Nat.le_refl _) (.cells (pkC pk0 s3) 37))
            have d3 : Below w3.heap.size w3 v3 := by (repeat (first | assumption | exact Below.refl _ _ | exact (Below.refl _ _).alloc (Nat.le_refl _) _ | (refine thn ?_ (by assumption)) | (refine alB ?_ _) | (refine dwN ?_ _) | (refine Below.drew ?_)))
            clear hb3 d2 o1
            have C14 := row_cells (heap_keep (o' := .cells (pkC pk0 s3) 37) r14)
            go_wp2_with (first
              | ((with_reducible show wpList _ _ _ ({ dst := _, op := Op.store 37 (Operand.tmp 18) _, type := _, pos := _, after := _, guard := _ } :: _) _ _); refine stL v3.heap.size (by rfl) _ (pkC pk0 s3) (by rfl) (by rfl) (by rfl) (by rfl) szMessage (pk_one _ _) ?_)
              | (go_at_call 12; refine (HNM.out _).mono ?_; rintro e w' ⟨rfl, rfl⟩))
            refine (HNY.out s1 _ ((HN.out.on HB5.out).on (alB d3 _))).mono ?_
            rintro e v4 ⟨rfl, hb4⟩
            have r18 := heap_below hb4 (heap_alloc_new v3 _)
            replace r16 := heap_below hb4 (heap_keep r16)
            replace r14 := heap_below hb4 (heap_keep r14)
            replace o2 := o2.below hb4
            replace o3 := o3.below hb4
            have d4 : Below w3.heap.size w3 v4 := by (repeat (first | assumption | exact Below.refl _ _ | exact (Below.refl _ _).alloc (Nat.le_refl _) _ | (refine thn ?_ (by assumption)) | (refine alB ?_ _) | (refine dwN ?_ _) | (refine Below.drew ?_)))
            clear hb4 d3 C14
            go_wp2_with (first
              | ((with_reducible show wpList _ _ _ ({ dst := _, op := Op.load 28 (Operand.tmp 16), type := _, pos := _, after := _, guard := _ } :: _) _ _); refine ld_pk v2.heap.size (by rfl) (by rfl) (pkC pq s2) _ _ r16 (by rfl) ?_)
              | ((with_reducible show wpList _ _ _ ({ dst := _, op := Op.load 28 (Operand.tmp 14), type := _, pos := _, after := _, guard := _ } :: _) _ _); refine ld_pk wr.heap.size (by rfl) (by rfl) (pkC pq ss) _ _ r14 (by rfl) ?_))
            refine (refSame_yes pq s2 ss v4.heap.size v4 o2.at_ ((HPA.out.1.to (Nat.le_refl _) d4).more d4.size) (Nat.le_refl _) HPA.out.2.2).mono ?_
            rintro e v5 ⟨rfl, hb5⟩
            replace r18 := heap_below hb5 r18
            replace r14 := heap_below hb5 r14
            replace o3 := o3.below hb5
            have d5 : Below w3.heap.size w3 v5 := by (repeat (first | assumption | exact Below.refl _ _ | exact (Below.refl _ _).alloc (Nat.le_refl _) _ | (refine thn ?_ (by assumption)) | (refine alB ?_ _) | (refine dwN ?_ _) | (refine Below.drew ?_)))
            clear hb5 d4 o2 r16
            go_wp2_with ((with_reducible show wpList _ _ _ ({ dst := _, op := Op.load 28 (Operand.tmp 115), type := _, pos := _, after := _, guard := _ } :: _) _ _); refine ld_pk v3.heap.size (by rfl) (by rfl) (pkC pk0 s3) _ _ r18 (by rfl) ?_)
            refine (same0 s3 sv0 v5.heap.size v5 o3.at_ (pk0_at _ _) (Nat.le_refl _)).mono ?_
            rintro e v6 ⟨rfl, hb6⟩
            replace r14 := heap_below hb6 r14
            have C14 := row_cells r14
            have d6 : Below w3.heap.size w3 v6 := by (repeat (first | assumption | exact Below.refl _ _ | exact (Below.refl _ _).alloc (Nat.le_refl _) _ | (refine thn ?_ (by assumption)) | (refine alB ?_ _) | (refine dwN ?_ _) | (refine Below.drew ?_)))
            clear hb6 d5 o3 r18 r14
            go_wp2_with fail
            refine (HNI.out s1 _).mono ?_
            rintro e v7 ⟨rfl, hb7⟩
            have d7 : Below w3.heap.size w3 v7 := by (repeat (first | assumption | exact Below.refl _ _ | exact (Below.refl _ _).alloc (Nat.le_refl _) _ | (refine thn ?_ (by assumption)) | (refine alB ?_ _) | (refine dwN ?_ _) | (refine Below.drew ?_)))
            clear hb7 d6 C14
            go_wp2_with fail
            go_roundw
            case rel => exact ⟨kk + 1, hlt, by go_num, d7⟩
            case measure => simp [intOf]; omega
          · have NM : ∀ W, Calls Tryd.prog 12 #[.int .i64 pq.kind] W fun e w' => e = .returned (.string ⟨#[110, 111, 110, 101]⟩) ∧ W = w' := fun W => (lawName_any pq.kind W).mono fun e w' he => ⟨by rw [he.1, hf]; rfl, he.2⟩
            have NY : ∀ (sx : Sv) (W : World), NamesAt W → Calls Tryd.prog 13 #[wrapV pq sx] W fun e w' => e = .returned (.string ⟨#[110, 111, 110, 101]⟩) ∧ Below W.heap.size W w' := fun sx W hW => (Name_any pq sx W hW).mono fun e w' he => ⟨by rw [he.1, hf]; rfl, he.2⟩
            have NI : ∀ (sx : Sv) (W : World), Calls Tryd.prog 15 #[wrapV pq sx] W fun e w' => e = .returned (.int .i64 0) ∧ Below W.heap.size W w' := fun sx W => (Id_any pq sx W).mono fun e w' he => ⟨by rw [he.1]; unfold idP; rw [hf]; rfl, he.2⟩
            have HNM := Lib.hid NM
            have HNY := Lib.hid NY
            have HNI := Lib.hid NI
            have HF := Lib.hid hf
            clear NM NY NI hf
            go_wp2_with (first
              | ((with_reducible show wpList _ _ _ ({ dst := _, op := Op.load 28 (Operand.tmp 49), type := _, pos := _, after := _, guard := _ } :: _) _ _); refine ld_mid G (kk * 24) (pkC pq ss) (by rfl) (by rfl) HRG.out (by rfl) ?_)
              | ((with_reducible show wpList _ _ _ ({ dst := _, op := Op.store 28 (Operand.tmp 14) _, type := _, pos := _, after := _, guard := _ } :: _) _ _); refine stL wr.heap.size (by rfl) _ (pkC pq ss) (by rfl) (by rfl) (by rfl) (by rfl) pk_sz (pk_one _ _) ?_)
              | ((with_reducible show wpList _ _ _ ({ dst := _, op := Op.load 28 (Operand.tmp 14), type := _, pos := _, after := _, guard := _ } :: _) _ _); refine ld_pk wr.heap.size (by rfl) (by rfl) (pkC pq ss) _ _ (heap_alloc_new _ _) (by rfl) ?_))
            refine (Any_any pq ss w3.heap.size _ (HPA.out.1.to (Nat.le_refl _) (alB hb _)) (by have := hb.size; simp; omega) HPA.out.2.2 HPA.out.2.1).mono ?_
            rintro e v1 ⟨s1, rfl, o1, hb1⟩
            have r14 := heap_below hb1 (heap_alloc_new wr _)
            have d1 : Below w3.heap.size w3 v1 := by (repeat (first | assumption | exact Below.refl _ _ | exact (Below.refl _ _).alloc (Nat.le_refl _) _ | (refine thn ?_ (by assumption)) | (refine alB ?_ _) | (refine dwN ?_ _) | (refine Below.drew ?_)))
            clear hb1
            go_wp2_with fail
            refine (Packet_no pq s1 v1.heap.size v1 o1.at_ (Nat.le_refl _) HPA.out.2.2 o1.nil HF.out).mono ?_
            rintro e v2 ⟨s2, rfl, o2, hb2⟩
            replace r14 := heap_below hb2 r14
            replace o1 := (o1.below hb2).below ((Below.refl _ _).alloc (Nat.le_refl _) (.cells (pkC pk0 s2) 28))
            replace o2 := o2.below ((Below.refl _ _).alloc (Nat.le_refl _) (.cells (pkC pk0 s2) 28))
            have d2 : Below w3.heap.size w3 v2 := by (repeat (first | assumption | exact Below.refl _ _ | exact (Below.refl _ _).alloc (Nat.le_refl _) _ | (refine thn ?_ (by assumption)) | (refine alB ?_ _) | (refine dwN ?_ _) | (refine Below.drew ?_)))
            clear hb2 d1
            go_wp2_with ((with_reducible show wpList _ _ _ ({ dst := _, op := Op.store 28 (Operand.tmp 16) _, type := _, pos := _, after := _, guard := _ } :: _) _ _); refine stL v2.heap.size (by rfl) _ (pkC pk0 s2) (by rfl) (by rfl) (by rfl) (by rfl) pk_sz (pk_one _ _) ?_)
            refine (Try_n pq s1 _ _ o1.at_ (Nat.le_refl _) HPA.out.2.2 o1.nil (by rw [HF.out]; decide)).mono ?_
            rintro e v3 ⟨s3, rfl, o3, hb3⟩
            have r16 := heap_below hb3 (heap_alloc_new v2 _)
            replace r14 := heap_below hb3 (heap_keep r14)
            replace o2 := (o2.below hb3).below ((Below.refl _ _).alloc (Nat.le_refl _) (.cells (pkC pk0 s3) 37))
            replace o3 := o3.below ((Below.refl _ _).alloc (Nat.le_refl _) (.cells (pkC pk0 s3) 37))
            have d3 : Below w3.heap.size w3 v3 := by (repeat (first | assumption | exact Below.refl _ _ | exact (Below.refl _ _).alloc (Nat.le_refl _) _ | (refine thn ?_ (by assumption)) | (refine alB ?_ _) | (refine dwN ?_ _) | (refine Below.drew ?_)))
            clear hb3 d2 o1
            have C14 := row_cells (heap_keep (o' := .cells (pkC pk0 s3) 37) r14)
            go_wp2_with (first
              | ((with_reducible show wpList _ _ _ ({ dst := _, op := Op.store 37 (Operand.tmp 18) _, type := _, pos := _, after := _, guard := _ } :: _) _ _); refine stL v3.heap.size (by rfl) _ (pkC pk0 s3) (by rfl) (by rfl) (by rfl) (by rfl) szMessage (pk_one _ _) ?_)
              | (go_at_call 12; refine (HNM.out _).mono ?_; rintro e w' ⟨rfl, rfl⟩))
            refine (HNY.out s1 _ ((HN.out.on HB5.out).on (alB d3 _))).mono ?_
            rintro e v4 ⟨rfl, hb4⟩
            have r18 := heap_below hb4 (heap_alloc_new v3 _)
            replace r16 := heap_below hb4 (heap_keep r16)
            replace r14 := heap_below hb4 (heap_keep r14)
            replace o2 := o2.below hb4
            replace o3 := o3.below hb4
            have d4 : Below w3.heap.size w3 v4 := by (repeat (first | assumption | exact Below.refl _ _ | exact (Below.refl _ _).alloc (Nat.le_refl _) _ | (refine thn ?_ (by assumption)) | (refine alB ?_ _) | (refine dwN ?_ _) | (refine Below.drew ?_)))
            clear hb4 d3 C14
            go_wp2_with ((with_reducible show wpList _ _ _ ({ dst := _, op := Op.load 28 (Operand.tmp 16), type := _, pos := _, after := _, guard := _ } :: _) _ _); refine ld_pk v2.heap.size (by rfl) (by rfl) (pkC pk0 s2) _ _ r16 (by rfl) ?_)
            refine (same0 s2 sv0 v4.heap.size v4 o2.at_ (pk0_at _ _) (Nat.le_refl _)).mono ?_
            rintro e v5 ⟨rfl, hb5⟩
            replace r18 := heap_below hb5 r18
            replace r14 := heap_below hb5 r14
            replace o3 := o3.below hb5
            have d5 : Below w3.heap.size w3 v5 := by (repeat (first | assumption | exact Below.refl _ _ | exact (Below.refl _ _).alloc (Nat.le_refl _) _ | (refine thn ?_ (by assumption)) | (refine alB ?_ _) | (refine dwN ?_ _) | (refine Below.drew ?_)))
            clear hb5 d4 o2 r16
            go_wp2_with ((with_reducible show wpList _ _ _ ({ dst := _, op := Op.load 28 (Operand.tmp 115), type := _, pos := _, after := _, guard := _ } :: _) _ _); refine ld_pk v3.heap.size (by rfl) (by rfl) (pkC pk0 s3) _ _ r18 (by rfl) ?_)
            refine (same0 s3 sv0 v5.heap.size v5 o3.at_ (pk0_at _ _) (Nat.le_refl _)).mono ?_
            rintro e v6 ⟨rfl, hb6⟩
            replace r14 := heap_below hb6 r14
            have C14 := row_cells r14
            have d6 : Below w3.heap.size w3 v6 := by (repeat (first | assumption | exact Below.refl _ _ | exact (Below.refl _ _).alloc (Nat.le_refl _) _ | (refine thn ?_ (by assumption)) | (refine alB ?_ _) | (refine dwN ?_ _) | (refine Below.drew ?_)))
            clear hb6 d5 o3 r18 r14
            go_wp2_with fail
            refine (HNI.out s1 _).mono ?_
            rintro e v7 ⟨rfl, hb7⟩
            have d7 : Below w3.heap.size w3 v7 := by (repeat (first | assumption | exact Below.refl _ _ | exact (Below.refl _ _).alloc (Nat.le_refl _) _ | (refine thn ?_ (by assumption)) | (refine alB ?_ _) | (refine dwN ?_ _) | (refine Below.drew ?_)))
            clear hb7 d6 C14
            go_wp2_with fail
            go_roundw
            case rel => exact ⟨kk + 1, hlt, by go_num, d7⟩
            case measure => simp [intOf]; omega
        · go_wp2_with fail
          go_ret
          exact ⟨rfl, HB5.out.trans (hb.mono HB5.out.size)⟩
  · go_enter Tryd.func3, Tryd.ntmps3
    go_wp2_with fail
    refine (HK.out _ (HN.out.on BW.out)).mono ?_
    rintro e w1 ⟨rfl, hb1⟩
    have r1 := heap_below hb1 (heap_alloc_new w _)
    have b1' : Below w.heap.size w w1 := by (repeat (first | assumption | exact Below.refl _ _ | exact (Below.refl _ _).alloc (Nat.le_refl _) _ | (refine thn ?_ (by assumption)) | (refine alB ?_ _) | (refine dwN ?_ _) | (refine Below.drew ?_)))
    clear hb1
    go_wp2_with ((with_reducible show wpList _ _ _ ({ dst := _, op := Op.load 28 _, type := _, pos := _, after := _, guard := _ } :: _) _ _); refine ld_pk w.heap.size (by rfl) (by rfl) (pkC p s) _ _ r1 (by rfl) ?_)
    refine (light_any p s w.heap.size w1 (HP.out.to (Nat.le_refl _) b1') b1'.size HI.out.1 HI.out.2).mono ?_
    rintro e w2 ⟨rfl, hb2⟩
    rw [Bool.eq_false_iff.2 hlp]
    go_wp2_with fail
    go_ret
    exact ⟨rfl, by (repeat (first | assumption | exact Below.refl _ _ | exact (Below.refl _ _).alloc (Nat.le_refl _) _ | (refine thn ?_ (by assumption)) | (refine alB ?_ _) | (refine dwN ?_ _) | (refine Below.drew ?_)))⟩

end Go.Proofs.YtpjlnienakiihaaDoor
