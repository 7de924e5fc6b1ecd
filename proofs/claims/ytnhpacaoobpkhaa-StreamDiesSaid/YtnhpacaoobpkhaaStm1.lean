/- Streams: a row of packets that grows. -/
import Derived.Test.YtnhpacaoobpkhaaGRead
namespace Go.Proofs.Ytnhpacaoobpkhaa
open Go.RowKit Go.Lib
set_option linter.unusedVariables false
set_option linter.unusedSimpArgs false

/-- The cells of a row of packets. -/
def pkFlat (L : List (Pk × Sv)) : List Value := L.flatMap fun x => (pkC x.1 x.2).toList
theorem pkFlat_snoc (L : List (Pk × Sv)) (x : Pk × Sv) : pkFlat (L ++ [x]) = pkFlat L ++ (pkC x.1 x.2).toList := by simp [pkFlat]
theorem pkC_len (p : Pk) (s : Sv) : (pkC p s).toList.length = 24 := rfl
theorem bs_pk1 (p : Pk) (s : Sv) (W : World) : (Instr.buildSlice 33 1 #[(0, .agg (pkC p s))]).run Try.prog W = .ok (.slice (some ⟨W.heap.size, 0, none⟩) 1 1) (W.alloc (.cells (pkC p s) 28)) := by kernel_rfl
theorem bs_pkL {ops : Array Oper} {rest : List Oper} {a : Act} {w : World} {Q : Exit → Act → World → Prop} {d : Option Tmp} {x : Operand} {ty : TypeId} {ps : String} {af : Array Edge}
    (g : Nat) (hg : w.heap.size = g) (p : Pk) (s : Sv) (hx : a.eval x = .agg (pkC p s))
    (h : wpList Try.prog ops Q rest (a.put d (.slice (some ⟨g, 0, none⟩) 1 1)) (w.alloc (.cells (pkC p s) 28))) :
    wpList Try.prog ops Q ({ dst := d, op := .buildSlice 33 1 #[(0, x)], type := ty, pos := ps, after := af, guard := none } :: rest) a w :=
  wpList_plain rfl fun K hK => by
    subst hg
    unfold Oper.wp execOp
    simp only [Sem.run_bind, List.map_toArray, List.map_cons, List.map_nil, hx, bs_pk1, Result.andThen_ok]
    exact hK _ _ h
theorem Try.infoPk : (Try.prog.info? 28).map (fun i => (i.zero, i.size, i.bytes)) = some (some (.agg (pkC pk0 sv0)), 24, 288) := by kernel_rfl
/-- 'append(l, p)'. -/
theorem app_pk {ops : Array Oper} {rest : List Oper} {a : Act} {w : World} {Q : Exit → Act → World → Prop} {d : Tmp} {x y : Operand} {ty : TypeId} {ps : String} {af : Array Edge}
    (base : Nat) (A : Option Addr) (C : Nat) (L : List (Pk × Sv)) (gn : Nat) (p : Pk) (s : Sv) (hx : a.eval x = .slice A L.length C) (hy : a.eval y = .slice (some ⟨gn, 0, none⟩) 1 1) (hown : w.ownsRow base 28 24 (.slice A L.length C) L.length (pkFlat L)) (hnew : w.heap[gn]? = some (.cells (pkC p s) 28 (0, 0))) (hl : L.length ≤ 1000000) (hb : base ≤ w.heap.size)
    (h : ∀ (A' : Option Addr) (C' : Nat) (w' : World), w'.ownsRow base 28 24 (.slice A' (L.length + 1) C') (L.length + 1) (pkFlat (L ++ [(p, s)])) → App w w' (.slice A L.length C) (.slice A' (L.length + 1) C') → wpList Try.prog ops Q rest (a.put (some d) (.slice A' (L.length + 1) C')) w') :
    wpList Try.prog ops Q ({ dst := some d, op := .call { callee := .builtin .append, args := #[x, y], argTypes := #[33, 33] }, type := ty, pos := ps, after := af, guard := none } :: rest) a w := by
  obtain ⟨i0, hi, hz0, hz1, hz2⟩ := info_parts Try.infoPk
  obtain ⟨v', w', hr, h2, h3, _, h5⟩ := run_append_own_at (P := Try.prog) (w := w) base 33 ty 28 i0 _ 24 288 Try.underlying33 hi hz0 hz1 hz2 rfl (by decide) _ L.length (pkFlat L) hown ⟨gn, 0, none⟩ 1 1 (pkC p s).toList (pkC_len p s) (fun j u hj => by
      rw [show (⟨gn, 0, none⟩ : Addr).add j = ⟨gn, j, none⟩ by unfold Addr.add; split <;> simp_all]
      rw [cell_of_row w gn j _ _ _ hnew]
      simpa using hj) (fun u hu => by
      exact List.all_eq_true.1 (pkc_one p s) u hu) (by unfold maxLen; omega) (by omega) hb
  obtain ⟨A', C', hv'⟩ : ∃ A' C', v' = .slice A' (L.length + 1) C' := by
    rcases h2.2 with ⟨_, q⟩ | ⟨g, cap, cur, q, _⟩
    · omega
    · exact ⟨_, _, q⟩
  subst hv'
  refine wpList_plain rfl fun K hK => ?_
  unfold Oper.wp execOp
  simp only [resolve, invoke, builtin, Sem.run_bind, Sem.run_pure, Result.andThen_ok, List.map_toArray, List.map_cons, List.map_nil, hx, hy, hr]
  exact hK _ _ (h _ _ _ (by rw [pkFlat_snoc]; exact h2) ⟨h3, by rcases h5 with q | q; exact .inl q; exact .inr ⟨_, q, Nat.le_refl _⟩⟩)

/-- A packet's rows lie in blocks from base on, none of them g's: whoever leaves those alone leaves the packet. -/
def Stays (W : World) (base : Nat) (g : Option Nat) (p : Pk) (s : Sv) : Prop :=
  ∀ W' : World, W.heap.size ≤ W'.heap.size → (∀ j, base ≤ j → j < W.heap.size → g ≠ some j → W'.heap[j]? = W.heap[j]?) → PkAt W' W'.heap.size p s ∧ NilOk s
theorem Stays.of {w W : World} {base : Nat} {g : Option Nat} {p : Pk} {s : Sv} (h : PkOwn W w.heap.size p s) (hb : base ≤ w.heap.size) (hg : ∀ k, g = some k → k < w.heap.size) : Stays W base g p s := fun W' hs hk => by
  have k := h.to (w' := W') fun j h1 h2 => hk j (by omega) h2 (fun e => by have := hg j e; omega)
  exact ⟨k.at_, k.nil⟩
theorem Stays.at_ {W : World} {base : Nat} {g : Option Nat} {p : Pk} {s : Sv} (h : Stays W base g p s) : PkAt W W.heap.size p s ∧ NilOk s := h W (Nat.le_refl _) fun _ _ _ _ => rfl
theorem Stays.on {W W' : World} {base : Nat} {g : Option Nat} {p : Pk} {s : Sv} (h : Stays W base g p s) (hs : W.heap.size ≤ W'.heap.size) (hk : ∀ j, base ≤ j → j < W.heap.size → g ≠ some j → W'.heap[j]? = W.heap[j]?) : Stays W' base g p s := fun W2 h1 h2 =>
  h W2 (Nat.le_trans hs h1) fun j a b c => (h2 j a (by omega) c).trans (hk j a b c)
theorem Stays.app {W W' : World} {base : Nat} {v v' : Value} {p : Pk} {s : Sv} (h : Stays W base v.ownBlock p s) (k : App W W' v v') : Stays W' base v'.ownBlock p s := fun W2 h1 h2 =>
  h W2 (Nat.le_trans k.grew.size h1) fun j a b c => by
    rw [h2 j a (Nat.lt_of_lt_of_le b k.grew.size) ?_, k.grew.block j b (fun e => c e.symm)]
    rcases k.own with e | ⟨g, e, hg⟩
    · rw [e]; exact c
    · rw [e]; intro q; injection q with q; omega
/-- A row of packets that the call has made. -/
structure PksAt (W : World) (base : Nat) (v : Value) (L : List (Pk × Sv)) : Prop where
  row : W.ownsRow base 28 24 v L.length (pkFlat L)
  each : ∀ x ∈ L, Stays W base v.ownBlock x.1 x.2
theorem PksAt.nil (W : World) (base : Nat) : PksAt W base (.slice none 0 0) [] := ⟨World.ownsRow_nil _ _ _ _, fun x hx => by cases hx⟩
theorem PksAt.on {W W' : World} {base : Nat} {v : Value} {L : List (Pk × Sv)} (h : PksAt W base v L) (hs : W.heap.size ≤ W'.heap.size) (hk : ∀ j, base ≤ j → j < W.heap.size → W'.heap[j]? = W.heap[j]?) : PksAt W' base v L :=
  ⟨own_to h.row hk, fun x hx => (h.each x hx).on hs fun j a b _ => hk j a b⟩
theorem PksAt.below {W W' : World} {base : Nat} {v : Value} {L : List (Pk × Sv)} (h : PksAt W base v L) (hb : Below W.heap.size W W') : PksAt W' base v L := h.on hb.size fun j _ b => hb.block j b
theorem pkFlat_len (L : List (Pk × Sv)) : (pkFlat L).length = L.length * 24 := by
  induction L with
  | nil => rfl
  | cons a t ih =>
    have e : pkFlat (a :: t) = (pkC a.1 a.2).toList ++ pkFlat t := by simp [pkFlat]
    rw [e, List.length_append, ih, pkC_len, List.length_cons]
    omega
/-- Packets one behind the other: what is read, how far, and why not further. -/
def pksF : Nat → List UInt8 → List Pk × Nat × Int
  | 0, _ => ([], 0, 0)
  | n + 1, b => if (rdP b).2.2 = 20 then ([], 0, 0) else if (rdP b).2.2 ≠ 0 then ([], 0, (rdP b).2.2) else
    ((rdP b).1 :: (pksF n (b.drop (rdP b).2.1.toNat)).1, (rdP b).2.1.toNat + (pksF n (b.drop (rdP b).2.1.toNat)).2.1, (pksF n (b.drop (rdP b).2.1.toNat)).2.2)
def pksP (b : List UInt8) : List Pk × Nat × Int := pksF (b.length + 1) b
theorem rd_len (b : List UInt8) (h : (rdP b).2.2 = 0) : 1 ≤ (rdP b).2.1 ∧ (rdP b).2.1 ≤ b.length := by
  rcases b with _ | ⟨c, r⟩
  · exact absurd h (by decide)
  · by_cases hz : (bndP (c :: r)).2.2 ≠ 0
    · have e : rdP (c :: r) = (pk0, 0, (bndP (c :: r)).2.2) := by simp only [rdP]; rw [if_pos hz]
      rw [e] at h
      exact absurd h hz
    · have e := fun h => (show rdP (c :: r) = _ from if_neg (c := (bndP (c :: r)).2.2 ≠ 0) h)
      rw [e hz] at h ⊢
      simp only [ne_eq, Decidable.not_not] at hz
      obtain ⟨h1, h2, h3, h4, h5, _⟩ := bnd_ok c r hz
      split
      · exact ⟨by show 1 ≤ (bndP (c :: r)).2.1; omega, h5⟩
      · rename_i q
        rw [if_neg q] at h
        exact absurd h (by decide)
theorem pksF_fuel (n m : Nat) (b : List UInt8) (hn : b.length < n) (hm : b.length < m) : pksF n b = pksF m b := by
  induction n generalizing m b with
  | zero => omega
  | succ n ih =>
    cases m with
    | zero => omega
    | succ m =>
      unfold pksF
      by_cases h1 : (rdP b).2.2 = 20
      · rw [if_pos h1, if_pos h1]
      · rw [if_neg h1, if_neg h1]
        by_cases h2 : (rdP b).2.2 ≠ 0
        · rw [if_pos h2, if_pos h2]
        · rw [if_neg h2, if_neg h2]
          simp only [ne_eq, Decidable.not_not] at h2
          obtain ⟨k1, k2⟩ := rd_len b h2
          have := ih m (b.drop (rdP b).2.1.toNat) (by rw [List.length_drop]; omega) (by rw [List.length_drop]; omega)
          rw [this]
theorem pksP_short {b : List UInt8} (h : (rdP b).2.2 = 20) : pksP b = ([], 0, 0) := by unfold pksP pksF; rw [if_pos h]
theorem pksP_bad {b : List UInt8} (h : (rdP b).2.2 ≠ 20) (k : (rdP b).2.2 ≠ 0) : pksP b = ([], 0, (rdP b).2.2) := by unfold pksP pksF; rw [if_neg h, if_pos k]
theorem pksP_step {b : List UInt8} (h : (rdP b).2.2 = 0) : pksP b = ((rdP b).1 :: (pksP (b.drop (rdP b).2.1.toNat)).1, (rdP b).2.1.toNat + (pksP (b.drop (rdP b).2.1.toNat)).2.1, (pksP (b.drop (rdP b).2.1.toNat)).2.2) := by
  obtain ⟨k1, k2⟩ := rd_len b h
  have e : pksF b.length (b.drop (rdP b).2.1.toNat) = pksP (b.drop (rdP b).2.1.toNat) := pksF_fuel _ _ _ (by rw [List.length_drop]; omega) (by omega)
  rw [← e]
  show pksF (b.length + 1) b = _
  rw [pksF, if_neg (by rw [h]; decide), if_neg (by rw [h]; decide)]
theorem pksP_le (b : List UInt8) : (pksP b).2.1 ≤ b.length := by
  have : ∀ n b, (pksF n b).2.1 ≤ b.length := by
    intro n
    induction n with
    | zero => intro b; exact Nat.zero_le _
    | succ n ih =>
      intro b
      unfold pksF
      split
      · exact Nat.zero_le _
      · split
        · exact Nat.zero_le _
        · rename_i h1 h2
          simp only [ne_eq, Decidable.not_not] at h2
          obtain ⟨k1, k2⟩ := rd_len b h2
          have := ih (b.drop (rdP b).2.1.toNat)
          rw [List.length_drop] at this
          show (rdP b).2.1.toNat + _ ≤ _
          omega
  exact this _ _
end Go.Proofs.Ytnhpacaoobpkhaa

/- stream.packets. -/
namespace Go.Proofs.Ytnhpacaoobpkhaa
open Go.RowKit Go.Lib
set_option linter.unusedVariables false
set_option linter.unusedSimpArgs false

/-- Where a slice goes on behind its first z places. -/
def slA (A : Option Addr) (cap z : Nat) : Option Addr := if cap = z then A else A.map (·.add z)
set_option maxRecDepth 100000 in
theorem sl1_wp {ops : Array Oper} {rest : List Oper} {a : Act} {w : World} {Q : Exit → Act → World → Prop} {d : Tmp} {x l : Operand} {ty : TypeId} {ps : String} {af : Array Edge}
    (A : Option Addr) (n cap z : Nat) (hx : a.eval x = .slice A n cap) (hl : a.eval l = .int .i64 (z : Int)) (hz : z ≤ n)
    (h : wpList Try.prog ops Q rest (a.put (some d) (.slice (slA A cap z) (n - z) (cap - z))) w) :
    wpList Try.prog ops Q ({ dst := some d, op := .slice 22 x (some l) none none, type := ty, pos := ps, after := af, guard := none } :: rest) a w :=
  wpList_plain rfl fun K hK => by
    have hs : (sizeOf (Try.prog.elem 22)).run Try.prog w = .ok 1 w := by kernel_rfl
    have e : sliced A z n cap 1 = .slice (slA A cap z) (n - z) (cap - z) := by
      unfold sliced slA
      split <;> simp
    unfold Oper.wp execOp
    simp only [hx, hl, Option.map_some, Option.map_none]
    simp [run_sliceAt_slice _ _ _ _ _ _ (show Try.prog.underlying 22 = some (.slice (Try.prog.elem 22)) by kernel_rfl), run_slice_l w _ A n cap (show Try.prog.underlying 22 = some (.slice (Try.prog.elem 22)) by kernel_rfl) .i64 (z : Int) (by omega) (by omega), hs, e]
    exact hK _ _ h
theorem sl1_at {w : World} {B n cap : Nat} {A : Option Addr} {b : List UInt8} (h : BytesAt w B (.slice A n cap) b) (hn : n = b.length) (z : Nat) (hz : z ≤ n) : BytesAt w B (.slice (slA A cap z) (n - z) (cap - z)) (b.drop z) := by
  subst hn
  unfold slA
  have hl : (b.drop z).length = b.length - z := List.length_drop
  by_cases hc : cap = z
  · obtain ⟨A', c', hv, hc', hm, hnn, hB, hx⟩ := h
    injection hv with v1 v2 v3
    have e : b.drop z = [] := List.drop_eq_nil_of_le (by omega)
    rw [if_pos hc, e]
    exact ⟨A, cap - z, by rw [show b.length - z = 0 by omega]; rfl, by simp, by omega, fun _ => rfl, by simp, by simp⟩
  · rw [if_neg hc]
    cases A with
    | none =>
      obtain ⟨A', c', hv, hc', hm, hnn, hB, hx⟩ := h
      injection hv with v1 v2 v3
      have e := hnn v1.symm
      subst e
      exact ⟨none, cap - z, by simp, by simp, by omega, fun _ => by simp, by simp, by simp⟩
    | some ad =>
      have := BytesAt.drop h z (by omega)
      exact this
def PksPost (w : World) (b : List UInt8) (e : Ending) (w' : World) : Prop :=
  ∃ (A : Option Addr) (C : Nat) (L : List (Pk × Sv)), e = .returned (.tuple #[.slice A L.length C, .int .i64 ((pksP b).2.1 : Nat), .int .i64 (pksP b).2.2]) ∧ L.map (·.1) = (pksP b).1 ∧ PksAt w' w.heap.size (.slice A L.length C) L ∧ Below w.heap.size w w'
def PkLoop (w : World) (b : List UInt8) (A : Option Addr) (C : Nat) (L : List (Pk × Sv)) (z : Nat) (wr : World) : Prop :=
  z ≤ b.length ∧ L.length ≤ z ∧ PksAt wr w.heap.size (.slice A L.length C) L ∧ Below w.heap.size w wr ∧ pksP b = (L.map (·.1) ++ (pksP (b.drop z)).1, z + (pksP (b.drop z)).2.1, (pksP (b.drop z)).2.2)

set_option maxRecDepth 100000 in
set_option maxHeartbeats 8000000 in
theorem packets_any (A : Option Addr) (cap : Nat) (b : List UInt8) (w : World) (hv : BytesAt w w.heap.size (.slice A b.length cap) b) (hm : b.length ≤ 1000000) :
    Calls Try.prog 59 #[.slice A b.length cap] w (PksPost w b) := by
  have HV := Lib.hid hv
  have HM := Lib.hid hm
  obtain ⟨N, hN⟩ : ∃ N, b.length = N := ⟨_, rfl⟩
  have HN := Lib.hid hN
  rw [hN]
  have hN1 : N ≤ 1000000 := by omega
  have st : PkLoop w b none 0 [] 0 w := ⟨Nat.zero_le _, Nat.le_refl _, PksAt.nil _ _, Below.refl _ _, by simp⟩
  have ST := Lib.hid st
  clear hv hm st hN
  go_enter Try.func59, Try.ntmps59
  go_wp2_with fail
  go_loopw [2, 3] (fun l sz wr => ∃ (A' : Option Addr) (C : Nat) (L : List (Pk × Sv)) (z : Nat), l = .slice A' L.length C ∧ sz = .int .i64 z ∧ z ≤ N ∧ PkLoop w b A' C L z wr) (fun _ sz _ => N + 1 - (intOf sz).toNat)
  case atStart => exact ⟨none, 0, [], 0, rfl, rfl, by omega, ST.out⟩
  case round =>
    obtain ⟨A', C, L, z, rfl, rfl, hz, hR⟩ := hrel
    obtain ⟨hz1, hLz, hP, hB, hE⟩ := hR
    clear ST
    have hbz := sl1_at ((HV.out.below hB).more hB.size) rfl z (by rw [HN.out]; exact hz)
    rw [HN.out] at hbz
    have R := wread_any (slA A cap z) (cap - z) (b.drop z) wr (by rw [List.length_drop, HN.out]; exact hbz) (by rw [List.length_drop, HN.out]; omega)
    rw [List.length_drop, HN.out] at R
    have r0 := rd_len (b.drop z)
    have r1 := @pksP_short (b.drop z)
    have r2 := @pksP_bad (b.drop z)
    have r3 := @pksP_step (b.drop z)
    rw [List.drop_drop] at r3
    rw [List.length_drop, HN.out] at r0
    generalize rdP (b.drop z) = T at *
    obtain ⟨p, k, er⟩ := T
    simp only at r0 r1 r2 r3
    have R0 := Lib.hid r0
    have R1 := Lib.hid r1
    have R2 := Lib.hid r2
    have R3 := Lib.hid r3
    have RR := Lib.hid R
    have EE := Lib.hid hE
    have PP := Lib.hid hP
    have BB := Lib.hid hB
    clear r0 r1 r2 r3 R hE hP hB hbz hz1
    go_wp2_with (refine sl1_wp A N cap z (by rfl) (by rfl) hz ?_)
    refine RR.out.mono ?_
    rintro e w2 ⟨s, rfl, ho, hb2⟩
    have O2 := Lib.hid ho
    have B2 := Lib.hid hb2
    have P2 := Lib.hid (PP.out.below hb2)
    have HG := Lib.hid (fun k hk => (PP.out.row.lt k hk).2)
    have BWR := Lib.hid BB.out.size
    have BB2 := Lib.hid (BB.out.trans (hb2.mono BB.out.size))
    have Z2 := Lib.hid (Nat.le_trans BB.out.size hb2.size)
    clear ho hb2 PP BB RR
    by_cases e20 : er = 20
    · subst e20
      have EQ := EE.out
      rw [R1.out rfl] at EQ
      have EH := Lib.hid EQ
      clear EQ EE R0 R1 R2 R3
      go_wp2_with (refine stLst (w2.heap.size) (by rfl) _ (pkC p s) (by rfl) (by rfl) (by rfl) (by rfl) (pkc_one _ _) ?_)
      go_ret3
      refine ⟨A', C, L, ?_, ?_, P2.out.below (alB (Below.refl _ _) _), alB BB2.out _⟩
      · rw [EH.out]; rfl
      · rw [EH.out]; simp
    · have q20 : (er == 20) = false := beq_eq_false_iff_ne.2 e20
      by_cases e0 : er = 0
      · have h0 := R0.out e0
        have E3 := Lib.hid (R3.out e0)
        subst e0
        obtain ⟨kn, rfl⟩ : ∃ kn : Nat, k = kn := ⟨k.toNat, by omega⟩
        have hk1 : 1 ≤ kn := by omega
        have hk2 : kn ≤ N - z := by omega
        clear h0 R0 R1 R2 R3 q20
        have PA := Lib.hid (P2.out.below (alB (alB (Below.refl w2.heap.size w2) (.cells (pkC p s) 28)) (.cells (pkC p s) 28)))
        have BA := Lib.hid (alB (alB BB2.out (.cells (pkC p s) 28)) (.cells (pkC p s) 28))
        have OA := Lib.hid ((O2.out.on (alB (alB (Below.refl w2.heap.size w2) (.cells (pkC p s) 28)) (.cells (pkC p s) 28))))
        go_wp2_with (first | (refine stLst (w2.heap.size) (by rfl) _ (pkC p s) (by rfl) (by rfl) (by rfl) (by rfl) (pkc_one _ _) ?_) | ((with_reducible show wpList _ _ _ ({ dst := _, op := Op.load 28 _, type := _, pos := _, after := _, guard := _ } :: _) _ _); refine ld_pk (w2.heap.size) (by rfl) (by rfl) (pkC p s) _ _ (by exact heap_alloc_last _ _) (by rfl) ?_) | (refine bs_pkL (w2.heap.size + 1) (by simp) p s (by rfl) ?_) | (at_builtin; refine app_pk w.heap.size A' C L (w2.heap.size + 1) p s (by rfl) (by rfl) PA.out.row (by rw [← size1 w2 (.cells (pkC p s) 28)]; exact heap_alloc_last _ _) (by omega) (by have := Z2.out; simp; omega) ?_; intro A3 C3 w3 o3 ap3; have O3 := Lib.hid o3; have AP := Lib.hid ap3; clear o3 ap3))
        have eL : L.length + 1 = (L ++ [(p, s)]).length := by simp
        have NX : PkLoop w b A3 C3 (L ++ [(p, s)]) (z + kn) w3 := by
          refine ⟨by rw [HN.out]; omega, by rw [← eL]; omega, ⟨by rw [← eL]; exact O3.out, fun x hx => ?_⟩, BA.out.trans (AP.out.below w.heap.size (by have := Z2.out; simp; omega) fun k hk => (PA.out.row.lt k hk).1), ?_⟩
          · rw [← eL]
            rcases List.mem_append.1 hx with hx | hx
            · exact (PA.out.each x hx).app AP.out
            · obtain rfl : x = (p, s) := by simpa using hx
              refine Stays.app (v := .slice A' L.length C) ?_ AP.out
              exact Stays.of (w := wr) OA.out (Nat.le_trans (Nat.le_refl _) BWR.out) HG.out
          · rw [EE.out, E3.out]
            simp only [Int.toNat_natCast, List.map_append, List.map_cons, List.map_nil, List.append_assoc, List.singleton_append, Nat.add_assoc]
        have NXH := Lib.hid NX
        clear NX EE E3 O3 AP PA BA OA P2 BB2 O2
        go_roundw
        case rel => exact ⟨A3, C3, L ++ [(p, s)], z + kn, by rw [eL], by go_num, by omega, NXH.out⟩
        case measure => simp [intOf]; omega
      · have q0 : (er != 0) = true := by simpa using e0
        have EQ := EE.out
        rw [R2.out e20 e0] at EQ
        have EH := Lib.hid EQ
        clear EQ EE R0 R1 R2 R3 e20 e0
        go_wp2_with (refine stLst (w2.heap.size) (by rfl) _ (pkC p s) (by rfl) (by rfl) (by rfl) (by rfl) (pkc_one _ _) ?_)
        go_ret3
        refine ⟨A', C, L, ?_, ?_, P2.out.below (alB (Below.refl _ _) _), alB BB2.out _⟩
        · rw [EH.out]; rfl
        · rw [EH.out]; simp
end Go.Proofs.Ytnhpacaoobpkhaa
