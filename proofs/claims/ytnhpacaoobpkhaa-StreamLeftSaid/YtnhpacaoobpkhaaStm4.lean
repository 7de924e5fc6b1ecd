/- hubbublaw5.StreamLeft, walked. Written by gen_sl.py. -/
import Derived.Test.YtnhpacaoobpkhaaStm3
import Derived.Test.YtnhpacaoobpkhaaRSame
import Derived.Test.YtnhpacaoobpkhaaSBytes
import Derived.Deep.MidRow
namespace Go.Proofs.Ytnhpacaoobpkhaa
open Go.RowKit Go.Lib
set_option linter.unusedVariables false
set_option linter.unusedSimpArgs false

def SeatAny5 : Prop := ∀ (k a b c : Int) (A : Option Addr) (n cx : Nat) (l : List UInt8) (w : World), 0 ≤ k → k ≤ 255 → 0 ≤ a → a ≤ 255 → 0 ≤ b → b ≤ 255 → 0 ≤ c → c ≤ 255 → BytesAt w w.heap.size (.slice A n cx) l → n = l.length → l.length ≤ 60 → (A = none → cx = 0) →
    Calls Try.prog 15 #[.int .u8 k, .int .u8 a, .int .u8 b, .int .u8 c, .slice A n cx] w (SeatPost w)
theorem slh_wp {ops : Array Oper} {rest : List Oper} {a : Act} {w : World} {Q : Exit → Act → World → Prop} {d : Tmp} {x l : Operand} {ty : TypeId} {ps : String} {af : Array Edge}
    (A : Option Addr) (n cap z : Nat) (hx : a.eval x = .slice A n cap) (hl : a.eval l = .int .i64 (z : Int)) (hz : z ≤ cap)
    (h : wpList Try.prog ops Q rest (a.put (some d) (.slice A z cap)) w) :
    wpList Try.prog ops Q ({ dst := some d, op := .slice 22 x none (some l) none, type := ty, pos := ps, after := af, guard := none } :: rest) a w :=
  wpList_plain rfl fun K hK => by
    have hs : (sizeOf (Try.prog.elem 22)).run Try.prog w = .ok 1 w := by kernel_rfl
    have e : sliced A 0 z cap 1 = .slice A z cap := by
      unfold sliced
      have : A.map (fun x => x.add (0 * 1)) = A := by cases A <;> simp [Addr.add]
      split <;> simp [this]
    unfold Oper.wp execOp
    simp only [hx, hl, Option.map_some, Option.map_none]
    simp only [run_sliceAt_slice _ _ _ _ _ _ (show Try.prog.underlying 22 = some (.slice (Try.prog.elem 22)) by kernel_rfl), run_slice_h w _ A n cap (show Try.prog.underlying 22 = some (.slice (Try.prog.elem 22)) by kernel_rfl) .i64 (z : Int) (by omega) (by omega), hs, e, Sem.run_bind, Result.andThen_ok, Int.toNat_natCast, Sem.run_pure]
    exact hK _ _ h
theorem BytesAt.le_ {w : World} {B n c : Nat} {A : Option Addr} {l : List UInt8} (h : BytesAt w B (.slice A n c) l) : l.length ≤ c := by
  obtain ⟨A', c', hv, hc, _⟩ := h
  injection hv with v1 v2 v3
  omega
theorem flat_at (L : List (Pk × Sv)) (i : Nat) (hi : i < L.length) (j : Nat) (hj : j < 24) : (pkFlat L)[i * 24 + j]? = (pkC L[i].1 L[i].2).toList[j]? := by
  induction L generalizing i with
  | nil => simp at hi
  | cons a t ih =>
    have e : pkFlat (a :: t) = (pkC a.1 a.2).toList ++ pkFlat t := by simp [pkFlat]
    rw [e]
    cases i with
    | zero => rw [List.getElem?_append_left (by rw [pkC_len]; omega)]; simp
    | succ i =>
      rw [List.getElem?_append_right (by rw [pkC_len]; omega), pkC_len, show (i + 1) * 24 + j - 24 = i * 24 + j by omega]
      exact ih i (by simpa using hi)
theorem PksAt.range {W : World} {base : Nat} {v : Value} {L : List (Pk × Sv)} (h : PksAt W base v L) (i : Nat) (hi : i < L.length) :
    ∃ g cap, v = .slice (some ⟨g, 0, none⟩) L.length cap ∧ base ≤ g ∧ g < W.heap.size ∧ L.length ≤ cap ∧ W.rangeAt g (i * 24) (pkC L[i].1 L[i].2).toList := by
  rcases h.row.2 with ⟨_, q⟩ | ⟨g, cap, cur, hv, hb, hg, hc, hm, hs, ht⟩
  · omega
  · refine ⟨g, cap, hv, hb, (Array.getElem?_eq_some_iff.1 hg).1, hc, fun j u hu => ?_⟩
    have hj : j < 24 := by have := (List.getElem?_eq_some_iff.1 hu).1; rw [pkC_len] at this; exact this
    rw [cell_of_row _ _ _ _ _ _ hg]
    have k := flat_at L i hi j hj
    rw [← ht, hu] at k
    rw [List.getElem?_take] at k
    split at k
    · simpa using k
    · cases k
theorem ld_midx {a : Act} {o : Oper} {x : Operand} {g : Nat} {W : World} {p : Pk} {s : Sv} (ho : o.op = .load 28 x) (hx : a.eval x = .pointer (some ⟨g, 0, none⟩)) (h : W.rangeAt g 0 (pkC p s).toList) :
    (execOp a.eval o).run Try.prog W = .ok (.value (.agg (pkC p s))) W := by
  have := run_loadVar_mid (P := Try.prog) W g 0 28 (pkC p s).toList _ h Try.underlying28 rfl pk_sz
  unfold execOp
  simp only [ho, hx, Instr.loadAt, Instr.sureAddr, Sem.run_bind, Sem.run_pure, Result.andThen_ok, this]
theorem rest0 {T : List UInt8} (h : pksP T = ([], 0, 0)) : restP T = T := by unfold restP; rw [h]; rfl
theorem rest1 {T : List UInt8} {M : Nat} {P : List Pk} (hl : T.length = M) (h : pksP T = (P, M, 0)) : restP T = [] := by
  unfold restP
  rw [h, if_neg (by simp)]
  exact List.drop_eq_nil_of_le (by show T.length ≤ M; omega)
theorem slA_nz {A : Option Addr} {c : Nat} (h : A = none → c = 0) (z : Nat) : slA A c z = none → c - z = 0 := fun e => by
  unfold slA at e
  split at e
  · have := h e; omega
  · have := h (by simpa using e); omega
theorem fst_one {L : List (Pk × Sv)} {p : Pk} (h : L.map Prod.fst = [p]) : ∃ s, L = [(p, s)] := by
  have hl : L.length = 1 := by have := congrArg List.length h; rwa [List.length_map] at this
  obtain ⟨a, rfl⟩ := List.length_eq_one_iff.1 hl
  have e : a.1 = p := (List.cons.inj h).1
  exact ⟨a.2, by rw [← e]⟩
theorem rg_below {W W' : World} {g o : Nat} {cs : List Value} (h : W.rangeAt g o cs) (hb : Below W.heap.size W W') (hg : g < W.heap.size) : W'.rangeAt g o cs := fun j u hu => by
  rw [hb.cell (p := ⟨g, o + j, none⟩) hg]; exact h j u hu

set_option maxRecDepth 100000 in
set_option maxHeartbeats 8000000 in
theorem left_walk (HS : SeatAny5) (k a b c : Int) (A : Option Addr) (cx : Nat) (x : List UInt8) (cut : Nat) (w : World) (hk : 0 ≤ k ∧ k ≤ 255) (ha : 0 ≤ a ∧ a ≤ 255) (hb : 0 ≤ b ∧ b ≤ 255) (hc : 0 ≤ c ∧ c ≤ 255) (ht : cut ≤ 65535) (h2 : x.length ≤ 40) (hv : BytesAt w w.heap.size (.slice A x.length cx) x) (hn : A = none → cx = 0) :
    Calls Try.prog 12 #[.int .u8 k, .int .u8 a, .int .u8 b, .int .u8 c, .slice A x.length cx, .int .u16 (cut : Int)] w fun e w' => e = .returned (.bool true) ∧ Below w.heap.size w w' := by
  have HV := Lib.hid hv
  have HN := Lib.hid hn
  clear hv hn
  go_enter Try.func12, Try.ntmps12
  go_wp2_with fail
  refine (known5_any w).mono ?_
  rintro e w1 ⟨rfl, hb1⟩
  have V1 := Lib.hid (HV.out.on hb1)
  have B1 := Lib.hid hb1
  clear HV hb1
  go_wp2_with fail
  refine (HS k a b c A x.length cx x w1 hk.1 hk.2 ha.1 ha.2 hb.1 hb.2 hc.1 hc.2 V1.out rfl (by omega) HN.out).mono ?_
  rintro e w2 ⟨p, s, rfl, hp, hnil, hg, hb2⟩
  have P2 := Lib.hid (hp.on (alB (Below.refl _ _) (.cells (pkC p s) 28)))
  have N2 := Lib.hid hnil
  have G2 := Lib.hid hg
  have B2 := Lib.hid (thn B1.out hb2)
  have lit := lite_right hg.2
  have GS := Lib.hid (And.intro lit.subs lit.codes)
  have hen := enc_small p hg.2
  have SB := Lib.hid (sbytes_any p s (w2.alloc (.cells (pkC p s) 28)) P2.out hnil hg)
  clear hp hnil hg hb2 V1 B1 HN lit
  go_wp2_with (first | (refine stLst (w2.heap.size) (by rfl) _ (pkC p s) (by rfl) (by rfl) (by rfl) (by rfl) (pkc_one _ _) ?_) | ((with_reducible show wpList _ _ _ ({ dst := _, op := Op.load 28 _, type := _, pos := _, after := _, guard := _ } :: _) _ _); refine ld_pk (w2.heap.size) (by rfl) (by rfl) (pkC p s) _ _ (by exact heap_alloc_last _ _) (by rfl) ?_))
  refine SB.out.mono ?_
  rintro e w3 ⟨A3, c3, rfl, o3, hb3⟩
  have hM := ownsBytes o3
  have hZ3 := own_nz o3
  have R3 := Lib.hid (heap_below hb3 (heap_alloc_last w2 (.cells (pkC p s) 28)))
  have P3 := Lib.hid (P2.out.on hb3)
  have B3 := Lib.hid (thn (alB B2.out _) hb3)
  have z3 : w2.heap.size < w3.heap.size := by have := hb3.size; simp at this; omega
  have hcap := hM.le_
  have rg := G2.out.2
  have f0 := pks_pre p rg
  have f1 := pks_enc p rg
  have hpos : 1 ≤ (encP p).length := by unfold encP; simp
  have HM := Lib.hid hM
  have HZ := Lib.hid hZ3
  clear SB P2 B2 o3 hb3 hM hZ3 rg
  generalize encP p = E at *
  obtain ⟨M, hE⟩ : ∃ M, E.length = M := ⟨_, rfl⟩
  rw [hE] at hen hpos f0 f1 hcap HM ⊢
  have HE := Lib.hid hE
  clear hE
  obtain ⟨n, hnn⟩ : ∃ n, cut % M = n := ⟨_, rfl⟩
  have hn1 : n < M := by rw [← hnn]; exact Nat.mod_lt _ (by omega)
  have e1 : ((cut : Int) % (M : Int)) = (n : Int) := by rw [← hnn]; rfl
  have e2 : ((cut : Int).tmod (M : Int)) = (n : Int) := by rw [← hnn]; rfl
  clear hnn
  have F0 := Lib.hid (f0 n hn1)
  have F1 := Lib.hid f1
  clear f0 f1
  go_wp2_with fail
  clear e1 e2
  refine (new_any w3).mono ?_
  rintro e w4 ⟨rfl, hb4, hs4, hS4⟩
  have S4 := Lib.hid hS4
  have M4 := HM.out.on hb4
  have lT : Hid ((E.take n).length = n) := Lib.hid (by rw [List.length_take, HE.out]; omega)
  have lD : Hid ((E.drop n).length = M - n) := Lib.hid (by rw [List.length_drop, HE.out])
  have TK := M4.tk n (by rw [HE.out]; omega)
  have FF := feed_any w3.heap.size 0 none [] A3 c3 (E.take n) w4 S4.out (by rw [lT.out]; exact TK) HZ.out (by rw [lT.out]; simp; omega)
  rw [lT.out] at FF
  have FH := Lib.hid FF
  have B34 := Lib.hid hb4
  clear hb4 hS4 M4 TK FF
  go_wp2_with (refine slh_wp A3 M c3 n (by rfl) (by rfl) (by omega) ?_)
  refine FH.out.mono ?_
  rintro e w5 h5
  obtain ⟨A5, C5, L5, A5', C5', rfl, _, _, hS5, hF5⟩ := h5.known [] 0 0 0 (E.take n) F0.out rfl (rest0 F0.out)
  have hB5 : Below w3.heap.size w3 w5 := B34.out.trans hF5.below
  have B35 := Lib.hid hB5
  have LF := left_any w3.heap.size C5' A5' (E.take n) 0 w5 hS5
  rw [lT.out] at LF
  have M5 := HM.out.on hB5
  have SD := sl1_at M5 HE.out.symm n (by omega)
  have F2 := feed_any w3.heap.size C5' A5' (E.take n) (slA A3 c3 n) (c3 - n) (E.drop n) w5 hS5 (by rw [lD.out]; exact SD) (slA_nz HZ.out n) (by rw [lT.out, lD.out]; omega)
  rw [lT.out, lD.out, List.take_append_drop] at F2
  have FH2 := Lib.hid F2
  clear h5 hS5 hF5 hB5 M5 SD F2 FH S4 B34
  go_wp2_with fail
  refine LF.mono ?_
  rintro e w' ⟨rfl, rfl⟩
  clear LF
  go_wp2_with (refine sl1_wp A3 M c3 n (by rfl) (by rfl) (by omega) ?_)
  refine FH2.out.mono ?_
  rintro e w6 h6
  obtain ⟨A6, C6, L6, A6', C6', rfl, hm6, hP6, hS6, hF6⟩ := h6.known [p] M 0 1 [] F1.out rfl (rest1 HE.out F1.out)
  obtain ⟨s6, rfl⟩ := fst_one hm6
  obtain ⟨g, cap6, hv6, _, hg6, _, hr6⟩ := hP6.range 0 (by simp)
  injection hv6 with v1 v2 v3
  subst v1
  have P6 := Lib.hid ((hP6.each (p, s6) (by simp)).at_.1)
  have hB6 : Below w3.heap.size w3 w6 := B35.out.trans hF6.below
  have PP := Lib.hid (P3.out.on hB6)
  have RB := Lib.hid (heap_below hB6 R3.out)
  have RG : Hid (w6.rangeAt g 0 (pkC p s6).toList) := Lib.hid hr6
  have HG := Lib.hid hg6
  have ST := Lib.hid hS6
  have BB := Lib.hid (B3.out.trans (hB6.mono B3.out.size))
  have GS := Lib.hid (And.intro (show p.subs.length ≤ 1000000 by have := GS.out.1; omega) (show p.codes.length ≤ 1000000 by have := GS.out.2; omega))
  obtain ⟨bx, hbx⟩ : ∃ bx, w3.heap.size = bx := ⟨_, rfl⟩
  rw [hbx] at ST ⊢
  clear hbx v2 v3 h6 hm6 hP6 hS6 hF6 hr6 hg6 hB6 FH2 B35 HM HZ P3 R3 B3 F0 F1 lT lD HE
  go_wp2_with fail
  refine wp_region_held_drew (S := (fun W => Below w6.heap.size w6 W)) (by rfl) (Below.refl _ _).drew ?_
  intro hS
  refine wpAnyH_take (i := 0) (oi := { dst := some 59, op := Go.Op.move (Go.Operand.tmp 17), type := 33, pos := "more.go:44", after := #[], guard := none }) (v := .slice A5 0 C5) rfl (by kernel_rfl) (by kernel_rfl) (by kernel_rfl) (fun _ _ _ h => h) (.inl ⟨by kernel_rfl, fun W hW => by go_simp⟩) hS ?_
  simp only [Act.put, List.setIfInBounds_toArray, List.set_cons_zero, List.set_cons_succ]
  refine wpAnyH_take (i := 1) (oi := { dst := some 60, op := Go.Op.call { callee := Go.Callee.builtin Go.Builtin.len, args := #[Go.Operand.tmp 59], argTypes := #[33] }, type := 3, pos := "more.go:44", after := #[{ on := 0, ground := Go.Ground.data }], guard := none }) (v := .int .i64 0) rfl (by kernel_rfl) (by kernel_rfl) (by kernel_rfl) (fun _ _ _ h => h) (.inl ⟨by kernel_rfl, fun W hW => by go_simp⟩) hS ?_
  simp only [Act.put, List.setIfInBounds_toArray, List.set_cons_zero, List.set_cons_succ]
  refine wpAnyH_take (i := 2) (oi := { dst := some 61, op := Go.Op.binOp Go.BinOp.eql 3 (Go.Operand.tmp 60) (Go.Operand.const (Go.Value.int Go.IntKind.i64 0)) 3, type := 4, pos := "more.go:44", after := #[{ on := 1, ground := Go.Ground.data }], guard := none }) (v := .bool true) rfl (by kernel_rfl) (by kernel_rfl) (by kernel_rfl) (fun _ _ _ h => h) (.inl ⟨by kernel_rfl, fun W hW => by go_simp⟩) hS ?_
  simp only [Act.put, List.setIfInBounds_toArray, List.set_cons_zero, List.set_cons_succ]
  refine wpAnyH_take (i := 3) (oi := { dst := some 62, op := Go.Op.move (Go.Operand.tmp 61), type := 4, pos := "more.go:44", after := #[{ on := 2, ground := Go.Ground.data }], guard := none }) (v := .bool true) rfl (by kernel_rfl) (by kernel_rfl) (by kernel_rfl) (fun _ _ _ h => h) (.inl ⟨by kernel_rfl, fun W hW => by go_simp⟩) hS ?_
  simp only [Act.put, List.setIfInBounds_toArray, List.set_cons_zero, List.set_cons_succ]
  refine wpAnyH_take (i := 4) (oi := { dst := some 63, op := Go.Op.move (Go.Operand.tmp 18), type := 34, pos := "more.go:44", after := #[{ on := 3, ground := Go.Ground.guard }], guard := some (3, true) }) (v := .int .i64 0) rfl (by kernel_rfl) (by kernel_rfl) (by kernel_rfl) (fun _ _ _ h => h) (.inl ⟨by kernel_rfl, fun W hW => by go_simp⟩) hS ?_
  simp only [Act.put, List.setIfInBounds_toArray, List.set_cons_zero, List.set_cons_succ]
  refine wpAnyH_take (i := 5) (oi := { dst := some 64, op := Go.Op.binOp Go.BinOp.eql 3 (Go.Operand.tmp 63) (Go.Operand.const (Go.Value.int Go.IntKind.i64 0)) 3, type := 4, pos := "more.go:44", after := #[{ on := 4, ground := Go.Ground.data }, { on := 3, ground := Go.Ground.guard }], guard := some (3, true) }) (v := .bool true) rfl (by kernel_rfl) (by kernel_rfl) (by kernel_rfl) (fun _ _ _ h => h) (.inl ⟨by kernel_rfl, fun W hW => by go_simp⟩) hS ?_
  simp only [Act.put, List.setIfInBounds_toArray, List.set_cons_zero, List.set_cons_succ]
  refine wpAnyH_take (i := 6) (oi := { dst := some 65, op := Go.Op.pick (Go.Operand.tmp 62) (Go.Operand.tmp 64) (Go.Operand.const (Go.Value.bool false)), type := 4, pos := "more.go:44", after := #[{ on := 3, ground := Go.Ground.data }, { on := 5, ground := Go.Ground.data }], guard := none }) (v := .bool true) rfl (by kernel_rfl) (by kernel_rfl) (by kernel_rfl) (fun _ _ _ h => h) (.inl ⟨by kernel_rfl, fun W hW => by go_simp⟩) hS ?_
  simp only [Act.put, List.setIfInBounds_toArray, List.set_cons_zero, List.set_cons_succ]
  refine wpAnyH_take (i := 7) (oi := { dst := some 66, op := Go.Op.move (Go.Operand.tmp 65), type := 4, pos := "more.go:44", after := #[{ on := 6, ground := Go.Ground.data }, { on := 3, ground := Go.Ground.chain }], guard := none }) (v := .bool true) rfl (by kernel_rfl) (by kernel_rfl) (by kernel_rfl) (fun _ _ _ h => h) (.inl ⟨by kernel_rfl, fun W hW => by go_simp⟩) hS ?_
  simp only [Act.put, List.setIfInBounds_toArray, List.set_cons_zero, List.set_cons_succ]
  refine wpAnyH_take (i := 8) (oi := { dst := some 67, op := Go.Op.move (Go.Operand.tmp 19), type := 3, pos := "more.go:44", after := #[{ on := 7, ground := Go.Ground.guard }], guard := some (7, true) }) (v := .int .i64 (n : Int)) rfl (by kernel_rfl) (by kernel_rfl) (by kernel_rfl) (fun _ _ _ h => h) (.inl ⟨by kernel_rfl, fun W hW => by go_simp⟩) hS ?_
  simp only [Act.put, List.setIfInBounds_toArray, List.set_cons_zero, List.set_cons_succ]
  refine wpAnyH_take (i := 9) (oi := { dst := some 68, op := Go.Op.move (Go.Operand.tmp 15), type := 3, pos := "more.go:44", after := #[{ on := 7, ground := Go.Ground.guard }], guard := some (7, true) }) (v := .int .i64 (n : Int)) rfl (by kernel_rfl) (by kernel_rfl) (by kernel_rfl) (fun _ _ _ h => h) (.inl ⟨by kernel_rfl, fun W hW => by go_simp⟩) hS ?_
  simp only [Act.put, List.setIfInBounds_toArray, List.set_cons_zero, List.set_cons_succ]
  refine wpAnyH_take (i := 10) (oi := { dst := some 69, op := Go.Op.binOp Go.BinOp.eql 3 (Go.Operand.tmp 67) (Go.Operand.tmp 68) 3, type := 4, pos := "more.go:44", after := #[{ on := 8, ground := Go.Ground.data }, { on := 9, ground := Go.Ground.data }, { on := 7, ground := Go.Ground.guard }], guard := some (7, true) }) (v := .bool true) rfl (by kernel_rfl) (by kernel_rfl) (by kernel_rfl) (fun _ _ _ h => h) (.inl ⟨by kernel_rfl, fun W hW => by simp [execOp, go_sem]⟩) hS ?_
  simp only [Act.put, List.setIfInBounds_toArray, List.set_cons_zero, List.set_cons_succ]
  refine wpAnyH_take (i := 11) (oi := { dst := some 70, op := Go.Op.pick (Go.Operand.tmp 66) (Go.Operand.tmp 69) (Go.Operand.const (Go.Value.bool false)), type := 4, pos := "more.go:44", after := #[{ on := 7, ground := Go.Ground.data }, { on := 10, ground := Go.Ground.data }], guard := none }) (v := .bool true) rfl (by kernel_rfl) (by kernel_rfl) (by kernel_rfl) (fun _ _ _ h => h) (.inl ⟨by kernel_rfl, fun W hW => by go_simp⟩) hS ?_
  simp only [Act.put, List.setIfInBounds_toArray, List.set_cons_zero, List.set_cons_succ]
  refine wpAnyH_take (i := 12) (oi := { dst := some 71, op := Go.Op.move (Go.Operand.tmp 70), type := 4, pos := "more.go:44", after := #[{ on := 11, ground := Go.Ground.data }, { on := 7, ground := Go.Ground.chain }], guard := none }) (v := .bool true) rfl (by kernel_rfl) (by kernel_rfl) (by kernel_rfl) (fun _ _ _ h => h) (.inl ⟨by kernel_rfl, fun W hW => by go_simp⟩) hS ?_
  simp only [Act.put, List.setIfInBounds_toArray, List.set_cons_zero, List.set_cons_succ]
  refine wpAnyH_take (i := 13) (oi := { dst := some 72, op := Go.Op.move (Go.Operand.tmp 20), type := 33, pos := "more.go:44", after := #[{ on := 12, ground := Go.Ground.guard }], guard := some (12, true) }) (v := .slice (some ⟨g, 0, none⟩) 1 C6) rfl (by kernel_rfl) (by kernel_rfl) (by kernel_rfl) (fun _ _ _ h => h) (.inl ⟨by kernel_rfl, fun W hW => by go_simp⟩) hS ?_
  simp only [Act.put, List.setIfInBounds_toArray, List.set_cons_zero, List.set_cons_succ]
  refine wpAnyH_take (i := 14) (oi := { dst := some 73, op := Go.Op.call { callee := Go.Callee.builtin Go.Builtin.len, args := #[Go.Operand.tmp 72], argTypes := #[33] }, type := 3, pos := "more.go:44", after := #[{ on := 13, ground := Go.Ground.data }, { on := 12, ground := Go.Ground.guard }], guard := some (12, true) }) (v := .int .i64 1) rfl (by kernel_rfl) (by kernel_rfl) (by kernel_rfl) (fun _ _ _ h => h) (.inl ⟨by kernel_rfl, fun W hW => by go_simp⟩) hS ?_
  simp only [Act.put, List.setIfInBounds_toArray, List.set_cons_zero, List.set_cons_succ]
  refine wpAnyH_take (i := 15) (oi := { dst := some 74, op := Go.Op.binOp Go.BinOp.eql 3 (Go.Operand.tmp 73) (Go.Operand.const (Go.Value.int Go.IntKind.i64 1)) 3, type := 4, pos := "more.go:44", after := #[{ on := 14, ground := Go.Ground.data }, { on := 12, ground := Go.Ground.guard }], guard := some (12, true) }) (v := .bool true) rfl (by kernel_rfl) (by kernel_rfl) (by kernel_rfl) (fun _ _ _ h => h) (.inl ⟨by kernel_rfl, fun W hW => by go_simp⟩) hS ?_
  simp only [Act.put, List.setIfInBounds_toArray, List.set_cons_zero, List.set_cons_succ]
  refine wpAnyH_take (i := 16) (oi := { dst := some 75, op := Go.Op.pick (Go.Operand.tmp 71) (Go.Operand.tmp 74) (Go.Operand.const (Go.Value.bool false)), type := 4, pos := "more.go:44", after := #[{ on := 12, ground := Go.Ground.data }, { on := 15, ground := Go.Ground.data }], guard := none }) (v := .bool true) rfl (by kernel_rfl) (by kernel_rfl) (by kernel_rfl) (fun _ _ _ h => h) (.inl ⟨by kernel_rfl, fun W hW => by go_simp⟩) hS ?_
  simp only [Act.put, List.setIfInBounds_toArray, List.set_cons_zero, List.set_cons_succ]
  refine wpAnyH_take (i := 17) (oi := { dst := some 76, op := Go.Op.move (Go.Operand.tmp 75), type := 4, pos := "more.go:44", after := #[{ on := 16, ground := Go.Ground.data }, { on := 12, ground := Go.Ground.chain }], guard := none }) (v := .bool true) rfl (by kernel_rfl) (by kernel_rfl) (by kernel_rfl) (fun _ _ _ h => h) (.inl ⟨by kernel_rfl, fun W hW => by go_simp⟩) hS ?_
  simp only [Act.put, List.setIfInBounds_toArray, List.set_cons_zero, List.set_cons_succ]
  refine wpAnyH_take (i := 18) (oi := { dst := some 77, op := Go.Op.move (Go.Operand.tmp 21), type := 34, pos := "more.go:44", after := #[{ on := 17, ground := Go.Ground.guard }], guard := some (17, true) }) (v := .int .i64 0) rfl (by kernel_rfl) (by kernel_rfl) (by kernel_rfl) (fun _ _ _ h => h) (.inl ⟨by kernel_rfl, fun W hW => by go_simp⟩) hS ?_
  simp only [Act.put, List.setIfInBounds_toArray, List.set_cons_zero, List.set_cons_succ]
  refine wpAnyH_take (i := 19) (oi := { dst := some 78, op := Go.Op.binOp Go.BinOp.eql 3 (Go.Operand.tmp 77) (Go.Operand.const (Go.Value.int Go.IntKind.i64 0)) 3, type := 4, pos := "more.go:44", after := #[{ on := 18, ground := Go.Ground.data }, { on := 17, ground := Go.Ground.guard }], guard := some (17, true) }) (v := .bool true) rfl (by kernel_rfl) (by kernel_rfl) (by kernel_rfl) (fun _ _ _ h => h) (.inl ⟨by kernel_rfl, fun W hW => by go_simp⟩) hS ?_
  simp only [Act.put, List.setIfInBounds_toArray, List.set_cons_zero, List.set_cons_succ]
  refine wpAnyH_take (i := 20) (oi := { dst := some 79, op := Go.Op.pick (Go.Operand.tmp 76) (Go.Operand.tmp 78) (Go.Operand.const (Go.Value.bool false)), type := 4, pos := "more.go:44", after := #[{ on := 17, ground := Go.Ground.data }, { on := 19, ground := Go.Ground.data }], guard := none }) (v := .bool true) rfl (by kernel_rfl) (by kernel_rfl) (by kernel_rfl) (fun _ _ _ h => h) (.inl ⟨by kernel_rfl, fun W hW => by go_simp⟩) hS ?_
  simp only [Act.put, List.setIfInBounds_toArray, List.set_cons_zero, List.set_cons_succ]
  refine wpAnyH_take (i := 21) (oi := { dst := some 80, op := Go.Op.move (Go.Operand.tmp 79), type := 4, pos := "more.go:44", after := #[{ on := 20, ground := Go.Ground.data }, { on := 17, ground := Go.Ground.chain }], guard := none }) (v := .bool true) rfl (by kernel_rfl) (by kernel_rfl) (by kernel_rfl) (fun _ _ _ h => h) (.inl ⟨by kernel_rfl, fun W hW => by go_simp⟩) hS ?_
  simp only [Act.put, List.setIfInBounds_toArray, List.set_cons_zero, List.set_cons_succ]
  refine wpAnyH_take (i := 22) (oi := { dst := some 81, op := Go.Op.move (Go.Operand.tmp 20), type := 33, pos := "more.go:44", after := #[{ on := 21, ground := Go.Ground.guard }], guard := some (21, true) }) (v := .slice (some ⟨g, 0, none⟩) 1 C6) rfl (by kernel_rfl) (by kernel_rfl) (by kernel_rfl) (fun _ _ _ h => h) (.inl ⟨by kernel_rfl, fun W hW => by go_simp⟩) hS ?_
  simp only [Act.put, List.setIfInBounds_toArray, List.set_cons_zero, List.set_cons_succ]
  refine wpAnyH_take (i := 23) (oi := { dst := some 82, op := Go.Op.indexAddr 33 (Go.Operand.tmp 81) (Go.Operand.const (Go.Value.int Go.IntKind.i64 0)), type := 0, pos := "more.go:44", after := #[{ on := 22, ground := Go.Ground.data }, { on := 21, ground := Go.Ground.guard }], guard := some (21, true) }) (v := .pointer (some ⟨g, 0, none⟩)) rfl (by kernel_rfl) (by kernel_rfl) (by kernel_rfl) (fun _ _ _ h => h) (.inl ⟨by kernel_rfl, fun W hW => by go_simp⟩) hS ?_
  simp only [Act.put, List.setIfInBounds_toArray, List.set_cons_zero, List.set_cons_succ]
  refine wpAnyH_take (i := 24) (oi := { dst := some 83, op := Go.Op.load 28 (Go.Operand.tmp 82), type := 28, pos := "more.go:44", after := #[{ on := 23, ground := Go.Ground.data }, { on := 21, ground := Go.Ground.guard }], guard := some (21, true) }) (v := .agg (pkC p s6)) rfl (by kernel_rfl) (by kernel_rfl) (by kernel_rfl) (fun _ _ _ h => h) (.inl ⟨by kernel_rfl, fun W hW => ld_midx rfl rfl (rg_below RG.out hW HG.out)⟩) hS ?_
  simp only [Act.put, List.setIfInBounds_toArray, List.set_cons_zero, List.set_cons_succ]
  refine wpAnyH_take (i := 25) (oi := { dst := some 84, op := Go.Op.load 28 (Go.Operand.tmp 13), type := 28, pos := "more.go:44", after := #[{ on := 21, ground := Go.Ground.guard }], guard := some (21, true) }) (v := .agg (pkC p s)) rfl (by kernel_rfl) (by kernel_rfl) (by kernel_rfl) (fun _ _ _ h => h) (.inl ⟨by kernel_rfl, fun W hW => ld_exec2 rfl rfl (heap_below hW RB.out) rfl⟩) hS ?_
  simp only [Act.put, List.setIfInBounds_toArray, List.set_cons_zero, List.set_cons_succ]
  refine wpAnyH_ready (rs := [26]) (by kernel_rfl) (by simp) ?_
  refine AllReadyH.cons (o := { dst := some 85, op := Go.Op.call { callee := Go.Callee.value (Go.Operand.func 22), args := #[Go.Operand.tmp 83, Go.Operand.tmp 84], argTypes := #[28, 28] }, type := 4, pos := "more.go:44", after := #[{ on := 24, ground := Go.Ground.data }, { on := 25, ground := Go.Ground.data }, { on := 21, ground := Go.Ground.chain }, { on := 21, ground := Go.Ground.guard }], guard := some (21, true) }) rfl (fun K hK => ?_) (AllReadyH.nil)
  rw [if_pos (by kernel_rfl)]
  go_wp2_with fail
  refine (rsame_any p p s6 s _ _ (P6.out.on hS) (PP.out.on hS) (Nat.le_refl _) GS.out.1 GS.out.2).mono ?_
  rintro e wa ⟨he, hb⟩
  obtain rfl : e = .returned (.bool true) := he.trans (by simp)
  clear he
  replace hS := thn hS hb
  clear hb
  go_wp2_with fail
  refine hK.out _ _ hS (fun _ => ?_)
  clear hK
  refine wpAnyH_take (i := 27) (oi := { dst := some 86, op := Go.Op.pick (Go.Operand.tmp 80) (Go.Operand.tmp 85) (Go.Operand.const (Go.Value.bool false)), type := 4, pos := "more.go:44", after := #[{ on := 21, ground := Go.Ground.data }, { on := 26, ground := Go.Ground.data }], guard := none }) (v := .bool true) rfl (by kernel_rfl) (by kernel_rfl) (by kernel_rfl) (fun _ _ _ h => h) (.inl ⟨by kernel_rfl, fun W hW => by go_simp⟩) hS ?_
  simp only [Act.put, List.setIfInBounds_toArray, List.set_cons_zero, List.set_cons_succ]
  refine wpAnyH_take (i := 28) (oi := { dst := some 87, op := Go.Op.move (Go.Operand.tmp 86), type := 4, pos := "more.go:44", after := #[{ on := 27, ground := Go.Ground.data }, { on := 26, ground := Go.Ground.chain }], guard := none }) (v := .bool true) rfl (by kernel_rfl) (by kernel_rfl) (by kernel_rfl) (fun _ _ _ h => h) (.inl ⟨by kernel_rfl, fun W hW => by go_simp⟩) hS ?_
  simp only [Act.put, List.setIfInBounds_toArray, List.set_cons_zero, List.set_cons_succ]
  refine wpAnyH_take (i := 29) (oi := { dst := some 88, op := Go.Op.move (Go.Operand.tmp 16), type := 54, pos := "more.go:44", after := #[{ on := 28, ground := Go.Ground.guard }], guard := some (28, true) }) (v := .pointer (some ⟨bx, 0, none⟩)) rfl (by kernel_rfl) (by kernel_rfl) (by kernel_rfl) (fun _ _ _ h => h) (.inl ⟨by kernel_rfl, fun W hW => by go_simp⟩) hS ?_
  simp only [Act.put, List.setIfInBounds_toArray, List.set_cons_zero, List.set_cons_succ]
  refine wpAnyH_ready (rs := [30]) (by kernel_rfl) (by simp) ?_
  refine AllReadyH.cons (o := { dst := some 89, op := Go.Op.call { callee := Go.Callee.value (Go.Operand.func 32), args := #[Go.Operand.tmp 88], argTypes := #[54] }, type := 3, pos := "more.go:44", after := #[{ on := 29, ground := Go.Ground.data }, { on := 28, ground := Go.Ground.chain }, { on := 28, ground := Go.Ground.guard }], guard := some (28, true) }) rfl (fun K hK => ?_) (AllReadyH.nil)
  rw [if_pos (by kernel_rfl)]
  go_wp2_with fail
  refine (left_any _ _ _ _ _ _ (ST.out.below hS)).mono ?_
  rintro e w' ⟨rfl, rfl⟩
  go_wp2_with fail
  refine hK.out _ _ hS (fun _ => ?_)
  clear hK
  refine wpAnyH_take (i := 31) (oi := { dst := some 90, op := Go.Op.binOp Go.BinOp.eql 3 (Go.Operand.tmp 89) (Go.Operand.const (Go.Value.int Go.IntKind.i64 0)) 3, type := 4, pos := "more.go:44", after := #[{ on := 30, ground := Go.Ground.data }, { on := 28, ground := Go.Ground.guard }], guard := some (28, true) }) (v := .bool true) rfl (by kernel_rfl) (by kernel_rfl) (by kernel_rfl) (fun _ _ _ h => h) (.inl ⟨by kernel_rfl, fun W hW => by go_simp⟩) hS ?_
  simp only [Act.put, List.setIfInBounds_toArray, List.set_cons_zero, List.set_cons_succ]
  refine wpAnyH_take (i := 32) (oi := { dst := some 91, op := Go.Op.pick (Go.Operand.tmp 87) (Go.Operand.tmp 90) (Go.Operand.const (Go.Value.bool false)), type := 4, pos := "more.go:44", after := #[{ on := 28, ground := Go.Ground.data }, { on := 31, ground := Go.Ground.data }], guard := none }) (v := .bool true) rfl (by kernel_rfl) (by kernel_rfl) (by kernel_rfl) (fun _ _ _ h => h) (.inl ⟨by kernel_rfl, fun W hW => by go_simp⟩) hS ?_
  simp only [Act.put, List.setIfInBounds_toArray, List.set_cons_zero, List.set_cons_succ]
  refine wpAnyH_take (i := 33) (oi := { dst := some 92, op := Go.Op.move (Go.Operand.tmp 91), type := 4, pos := "more.go:44", after := #[{ on := 32, ground := Go.Ground.data }, { on := 30, ground := Go.Ground.chain }], guard := none }) (v := .bool true) rfl (by kernel_rfl) (by kernel_rfl) (by kernel_rfl) (fun _ _ _ h => h) (.inl ⟨by kernel_rfl, fun W hW => by go_simp⟩) hS ?_
  simp only [Act.put, List.setIfInBounds_toArray, List.set_cons_zero, List.set_cons_succ]
  refine wpAnyH_take (i := 34) (oi := { dst := some 93, op := Go.Op.move (Go.Operand.tmp 16), type := 54, pos := "more.go:44", after := #[{ on := 33, ground := Go.Ground.guard }], guard := some (33, true) }) (v := .pointer (some ⟨bx, 0, none⟩)) rfl (by kernel_rfl) (by kernel_rfl) (by kernel_rfl) (fun _ _ _ h => h) (.inl ⟨by kernel_rfl, fun W hW => by go_simp⟩) hS ?_
  simp only [Act.put, List.setIfInBounds_toArray, List.set_cons_zero, List.set_cons_succ]
  refine wpAnyH_ready (rs := [35]) (by kernel_rfl) (by simp) ?_
  refine AllReadyH.cons (o := { dst := some 94, op := Go.Op.call { callee := Go.Callee.value (Go.Operand.func 33), args := #[Go.Operand.tmp 93], argTypes := #[54] }, type := 4, pos := "more.go:44", after := #[{ on := 34, ground := Go.Ground.data }, { on := 33, ground := Go.Ground.chain }, { on := 33, ground := Go.Ground.guard }], guard := some (33, true) }) rfl (fun K hK => ?_) (AllReadyH.nil)
  rw [if_pos (by kernel_rfl)]
  go_wp2_with fail
  refine (dead_any _ _ _ _ _ _ (ST.out.below hS)).mono ?_
  rintro e w' ⟨rfl, rfl⟩
  go_wp2_with fail
  refine hK.out _ _ hS (fun _ => ?_)
  clear hK
  refine wpAnyH_take (i := 36) (oi := { dst := some 95, op := Go.Op.unOp Go.UnOp.not 4 (Go.Operand.tmp 94), type := 4, pos := "more.go:44", after := #[{ on := 35, ground := Go.Ground.data }, { on := 33, ground := Go.Ground.guard }], guard := some (33, true) }) (v := .bool true) rfl (by kernel_rfl) (by kernel_rfl) (by kernel_rfl) (fun _ _ _ h => h) (.inl ⟨by kernel_rfl, fun W hW => by simp [execOp, go_sem]⟩) hS ?_
  simp only [Act.put, List.setIfInBounds_toArray, List.set_cons_zero, List.set_cons_succ]
  refine wpAnyH_take (i := 37) (oi := { dst := some 96, op := Go.Op.pick (Go.Operand.tmp 92) (Go.Operand.tmp 95) (Go.Operand.const (Go.Value.bool false)), type := 4, pos := "more.go:44", after := #[{ on := 33, ground := Go.Ground.data }, { on := 36, ground := Go.Ground.data }], guard := none }) (v := .bool true) rfl (by kernel_rfl) (by kernel_rfl) (by kernel_rfl) (fun _ _ _ h => h) (.inl ⟨by kernel_rfl, fun W hW => by go_simp⟩) hS ?_
  simp only [Act.put, List.setIfInBounds_toArray, List.set_cons_zero, List.set_cons_succ]
  refine wpAnyH_take (i := 38) (oi := { dst := some 12, op := Go.Op.assign (Go.Operand.tmp 96), type := 4, pos := "more.go:44", after := #[{ on := 37, ground := Go.Ground.data }, { on := 35, ground := Go.Ground.chain }, { on := 0, ground := Go.Ground.phase }, { on := 1, ground := Go.Ground.phase }, { on := 2, ground := Go.Ground.phase }, { on := 3, ground := Go.Ground.phase }, { on := 4, ground := Go.Ground.phase }, { on := 5, ground := Go.Ground.phase }, { on := 6, ground := Go.Ground.phase }, { on := 7, ground := Go.Ground.phase }, { on := 8, ground := Go.Ground.phase }, { on := 9, ground := Go.Ground.phase }, { on := 10, ground := Go.Ground.phase }, { on := 11, ground := Go.Ground.phase }, { on := 12, ground := Go.Ground.phase }, { on := 13, ground := Go.Ground.phase }, { on := 14, ground := Go.Ground.phase }, { on := 15, ground := Go.Ground.phase }, { on := 16, ground := Go.Ground.phase }, { on := 17, ground := Go.Ground.phase }, { on := 18, ground := Go.Ground.phase }, { on := 19, ground := Go.Ground.phase }, { on := 20, ground := Go.Ground.phase }, { on := 21, ground := Go.Ground.phase }, { on := 22, ground := Go.Ground.phase }, { on := 23, ground := Go.Ground.phase }, { on := 24, ground := Go.Ground.phase }, { on := 25, ground := Go.Ground.phase }, { on := 26, ground := Go.Ground.phase }, { on := 27, ground := Go.Ground.phase }, { on := 28, ground := Go.Ground.phase }, { on := 29, ground := Go.Ground.phase }, { on := 30, ground := Go.Ground.phase }, { on := 31, ground := Go.Ground.phase }, { on := 32, ground := Go.Ground.phase }, { on := 33, ground := Go.Ground.phase }, { on := 34, ground := Go.Ground.phase }, { on := 35, ground := Go.Ground.phase }, { on := 36, ground := Go.Ground.phase }, { on := 37, ground := Go.Ground.phase }], guard := none }) (v := .bool true) rfl (by kernel_rfl) (by kernel_rfl) (by kernel_rfl) (fun _ _ _ h => h) (.inl ⟨by kernel_rfl, fun W hW => by go_simp⟩) hS ?_
  simp only [Act.put, List.setIfInBounds_toArray, List.set_cons_zero, List.set_cons_succ]
  refine wpAnyH_done (by kernel_rfl) ?_ _
  go_wp2_with fail
  go_ret
  exact ⟨rfl, thn BB.out hS⟩
end Go.Proofs.Ytnhpacaoobpkhaa
