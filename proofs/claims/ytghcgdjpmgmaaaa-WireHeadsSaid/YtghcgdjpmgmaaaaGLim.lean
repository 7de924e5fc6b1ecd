/- The document's Read: bytes that begin no whole packet. Written by gen_dread.py. -/
import Derived.Test.YtghcgdjpmgmaaaaGParse
import Derived.Test.YtghcgdjpmgmaaaaGNum
import Derived.Test.YtghcgdjpmgmaaaaGRPub
import Derived.Test.YtghcgdjpmgmaaaaGBody
import Derived.Test.YtghcgdjpmgmaaaaGRead
namespace Go.Proofs.Ytghcgdjpmgmaaaa
open Go.RowKit Go.Lib
set_option linter.unusedVariables false

set_option maxRecDepth 100000 in
set_option maxHeartbeats 4000000 in
theorem dread_bad (A : Option Addr) (cap : Nat) (b : List UInt8) (B : Nat) (w : World) (hB : B ≤ w.heap.size) (hv : BytesAt w B (.slice A b.length cap) b) (hm : b.length ≤ 1000000) (x y z : Int) (hT : bndP b = (x, y, z)) (hz : z ≠ 0) :
    Calls Try.prog 25 #[.slice A b.length cap] w (RdPost w (pk0, 0, z)) := by
  have hbw : Below w.heap.size w (w.alloc (.cells (pkC pk0 sv0) 28)) := (Below.refl _ _).alloc (Nat.le_refl _) _
  have r0 : (w.alloc (.cells (pkC pk0 sv0) 28)).heap[w.heap.size]? = some (.cells (pkC pk0 sv0) 28 (0, 0)) := heap_alloc_last _ _
  have R0 := Lib.hid r0
  rcases b with _ | ⟨c, r⟩
  · obtain ⟨rfl, rfl, rfl⟩ : (0 : Int) = x ∧ (0 : Int) = y ∧ (20 : Int) = z := by simpa [bndP] using hT
    clear hv hm hT hz r0
    go_enter Try.func25, Try.ntmps25
    go_wp2_with ((with_reducible show wpList _ _ _ ({ dst := _, op := Op.store 28 (Operand.tmp 2) _, type := _, pos := _, after := _, guard := _ } :: _) _ _); refine stR (w.heap.size) _ (pkC pk0 sv0) (by rfl) (by rfl) (by exact R0.out) (by rfl) (by rfl) (pkc_one _ _) ?_)
    refine bodyPost_ret (results_row2 (by rfl) _ _ (w.heap.size) _ (by rfl) (ldv_pk (setRow_heap _ _ _ _ _ _ (by exact R0.out)))) (by rfl) ⟨sv0, rfl, pk0_own _ _, ?_⟩
    exact below_setRow (hbw) (Nat.le_refl _) _
  · rcases A with _ | ad
    · obtain ⟨A', c', hv1, hc, hm', hz', _⟩ := hv
      injection hv1 with v1 v2 v3
      have := hz' v1.symm
      cases this
    have z0 : ∀ C t q, (w.alloc (.cells C t q)).cell? ad = some (.int .u8 (c.toNat : Int)) := fun C t q => by have := cell_zero (hv.to hB ((Below.refl _ _).alloc (Nat.le_refl _) (.cells C t q))); exact this
    obtain ⟨a1, a2, a3, a4, a5⟩ := readT_in r
    have hd := BytesAt.drop hv 1 (by simp)
    have hcap : 1 ≤ cap ∧ cap ≤ 9223372036854775807 ∧ (c :: r).length ≤ cap := by
      obtain ⟨A', c', hv1, hc, hm', hz', _⟩ := hv
      injection hv1 with v1 v2 v3
      subst v3
      unfold maxLen at hm'
      simp at hc ⊢; omega
    have hlen : (c :: r).length = r.length + 1 := by simp
    have hr : r.length ≤ 1000000 := by omega
    have hdl : (c :: r).length - 1 = r.length := by omega
    have hu : (c.toNat : Int) ≤ 255 := by have := c.toNat_lt; omega
    have HBeg := Lib.hid (fun W => rhead_any (c.toNat : Int) (by omega) hu W)
    rw [rbeg_eq _ (by omega) hu] at HBeg
    rw [hdl] at hd
    have HD := Lib.hid hd
    have e0 : (c :: r).drop 1 = r := rfl
    rw [e0] at HD
    have ea : ad.add 1 = ⟨ad.block, ad.off + 1, none⟩ := rfl
    rw [ea] at HD
    have HR := Lib.hid (fun (W : World) (h : Below w.heap.size w W) (t1 t2 t3 : Int) (ht : readT r = (t1, t2, t3)) => rread_any _ r W B (HD.out.below (h.mono hB)) hr t1 t2 t3 ht)
    have HZ := Lib.hid (fun (W : World) (h : r = []) => rread_any (.slice (some ad) 0 0) [] W B (BytesAt.void W B ad 0 (by decide)) (by decide) 0 0 20 rfl)
    have hT0 : r = [] → readT r = (0, 0, 20) := fun e => by rw [e]; rfl
    have hnil : cap = 1 → r = [] := fun e => List.eq_nil_of_length_eq_zero (by omega)
    have HN := Lib.hid hnil
    clear hnil
    have hbn : bndP (c :: r) = if begP c.toNat = false then (0, 0, 21) else if (readT r).2.2 ≠ 0 then (0, 0, (readT r).2.2) else if (readT r).1 > 8192 then (0, 0, 22) else if 1 + (readT r).2.1 + (readT r).1 > (c :: r).length then (0, 0, 20) else (1 + (readT r).2.1, 1 + (readT r).2.1 + (readT r).1, 0) := rfl
    rw [hbn] at hT
    rw [hlen] at hT ⊢
    rw [hlen] at hcap
    clear hv hd e0 hbn hdl hlen ea r0
    generalize begP c.toNat = bg at *
    have HT0 := Lib.hid hT0
    clear hT0
    generalize hR : readT r = T at *
    obtain ⟨t1, t2, t3⟩ := T
    simp only at a1 a2 a3 a4 a5 hT
    have HR2 := Lib.hid (fun W h => HR.out W h t1 t2 t3 rfl)
    have HC : Hid (cap = 1 → t3 = 20) := Lib.hid (fun e => by have := HT0.out (HN.out e); injection this with _ q; injection q)
    clear HR hR HT0
    generalize r.length = L at *
    cases bg with
    | false =>
      obtain ⟨rfl, rfl, rfl⟩ : (0 : Int) = x ∧ (0 : Int) = y ∧ (21 : Int) = z := by simpa using hT
      clear hz hT
      go_enter Try.func25, Try.ntmps25
      go_wp2_with fail
      refine (HBeg.out _).mono ?_
      rintro e w1 ⟨rfl, rfl⟩
      go_wp2_with ((with_reducible show wpList _ _ _ ({ dst := _, op := Op.store 28 (Operand.tmp 2) _, type := _, pos := _, after := _, guard := _ } :: _) _ _); refine stR (w.heap.size) _ (pkC pk0 sv0) (by rfl) (by rfl) (by exact R0.out) (by rfl) (by rfl) (pkc_one _ _) ?_)
      refine bodyPost_ret (results_row2 (by rfl) _ _ (w.heap.size) _ (by rfl) (ldv_pk (setRow_heap _ _ _ _ _ _ (by exact R0.out)))) (by rfl) ⟨sv0, rfl, pk0_own _ _, ?_⟩
      exact below_setRow (hbw) (Nat.le_refl _) _
    | true =>
      simp only [Bool.true_eq_false, if_false] at hT
      by_cases q2 : t3 ≠ 0
      · obtain ⟨rfl, rfl, rfl⟩ : (0 : Int) = x ∧ (0 : Int) = y ∧ t3 = z := by simpa [q2] using hT
        have q2b : (t3 != 0) = true := by simpa using q2
        clear hT q2 a5 hz
        by_cases hc1 : cap = 1
        · subst hc1
          have HZ2 := Lib.hid (fun W => HZ.out W (HN.out rfl))
          have e3 := HC.out rfl
          subst e3
          clear HZ HR2 HN HC
          have hL : L = 0 := by omega
          subst hL
          go_enter Try.func25, Try.ntmps25
          go_wp2_with fail
          refine (HBeg.out _).mono ?_
          rintro e w1 ⟨rfl, rfl⟩
          go_wp2_with fail
          refine (HZ2.out _).mono ?_
          rintro e w2 ⟨rfl, rfl⟩
          go_wp2_with ((with_reducible show wpList _ _ _ ({ dst := _, op := Op.store 28 (Operand.tmp 2) _, type := _, pos := _, after := _, guard := _ } :: _) _ _); refine stR (w.heap.size) _ (pkC pk0 sv0) (by rfl) (by rfl) (by exact R0.out) (by rfl) (by rfl) (pkc_one _ _) ?_)
          refine bodyPost_ret (results_row2 (by rfl) _ _ (w.heap.size) _ (by rfl) (ldv_pk (setRow_heap _ _ _ _ _ _ (by exact R0.out)))) (by rfl) ⟨sv0, rfl, pk0_own _ _, ?_⟩
          exact below_setRow (hbw) (Nat.le_refl _) _
        clear HZ HN HC
        go_enter Try.func25, Try.ntmps25
        go_wp2_with fail
        refine (HBeg.out _).mono ?_
        rintro e w1 ⟨rfl, rfl⟩
        go_wp2_with fail
        refine (HR2.out _ hbw).mono ?_
        rintro e w2 ⟨rfl, rfl⟩
        go_wp2_with ((with_reducible show wpList _ _ _ ({ dst := _, op := Op.store 28 (Operand.tmp 2) _, type := _, pos := _, after := _, guard := _ } :: _) _ _); refine stR (w.heap.size) _ (pkC pk0 sv0) (by rfl) (by rfl) (by exact R0.out) (by rfl) (by rfl) (pkc_one _ _) ?_)
        refine bodyPost_ret (results_row2 (by rfl) _ _ (w.heap.size) _ (by rfl) (ldv_pk (setRow_heap _ _ _ _ _ _ (by exact R0.out)))) (by rfl) ⟨sv0, rfl, pk0_own _ _, ?_⟩
        exact below_setRow (hbw) (Nat.le_refl _) _
      · simp only [ne_eq, Decidable.not_not] at q2
        subst q2
        simp only [ne_eq, not_true_eq_false, if_false] at hT
        clear a5
        have hc1 : cap ≠ 1 := fun e => by have := HC.out e; omega
        clear HZ HN HC
        by_cases q3 : t1 > 8192
        · obtain ⟨rfl, rfl, rfl⟩ : (0 : Int) = x ∧ (0 : Int) = y ∧ (22 : Int) = z := by simpa [q3] using hT
          clear hT hz
          go_enter Try.func25, Try.ntmps25
          go_wp2_with fail
          refine (HBeg.out _).mono ?_
          rintro e w1 ⟨rfl, rfl⟩
          go_wp2_with fail
          refine (HR2.out _ hbw).mono ?_
          rintro e w2 ⟨rfl, rfl⟩
          go_wp2_with ((with_reducible show wpList _ _ _ ({ dst := _, op := Op.store 28 (Operand.tmp 2) _, type := _, pos := _, after := _, guard := _ } :: _) _ _); refine stR (w.heap.size) _ (pkC pk0 sv0) (by rfl) (by rfl) (by exact R0.out) (by rfl) (by rfl) (pkc_one _ _) ?_)
          refine bodyPost_ret (results_row2 (by rfl) _ _ (w.heap.size) _ (by rfl) (ldv_pk (setRow_heap _ _ _ _ _ _ (by exact R0.out)))) (by rfl) ⟨sv0, rfl, pk0_own _ _, ?_⟩
          exact below_setRow (hbw) (Nat.le_refl _) _
        simp only [q3, if_false] at hT
        by_cases q4 : 1 + t2 + t1 > ((L + 1 : Nat) : Int)
        · obtain ⟨rfl, rfl, rfl⟩ : (0 : Int) = x ∧ (0 : Int) = y ∧ (20 : Int) = z := by rw [if_pos q4] at hT; simpa using hT
          clear hT hz
          go_enter Try.func25, Try.ntmps25
          go_wp2_with fail
          refine (HBeg.out _).mono ?_
          rintro e w1 ⟨rfl, rfl⟩
          go_wp2_with fail
          refine (HR2.out _ hbw).mono ?_
          rintro e w2 ⟨rfl, rfl⟩
          go_wp2_with ((with_reducible show wpList _ _ _ ({ dst := _, op := Op.store 28 (Operand.tmp 2) _, type := _, pos := _, after := _, guard := _ } :: _) _ _); refine stR (w.heap.size) _ (pkC pk0 sv0) (by rfl) (by rfl) (by exact R0.out) (by rfl) (by rfl) (pkc_one _ _) ?_)
          refine bodyPost_ret (results_row2 (by rfl) _ _ (w.heap.size) _ (by rfl) (ldv_pk (setRow_heap _ _ _ _ _ _ (by exact R0.out)))) (by rfl) ⟨sv0, rfl, pk0_own _ _, ?_⟩
          exact below_setRow (hbw) (Nat.le_refl _) _
        · rw [if_neg q4] at hT
          injection hT with _ hT
          injection hT with _ hT
          exact absurd hT.symm hz
end Go.Proofs.Ytghcgdjpmgmaaaa

/- hubbublaw3.WireLimits, walked. -/
namespace Go.Proofs.Ytghcgdjpmgmaaaa
open Go.RowKit Go.Lib
set_option linter.unusedVariables false

def zC (l : List UInt8) : Array Value := (l.map fun b => Value.int .u8 (b.toNat : Int)).toArray
end Go.Proofs.Ytghcgdjpmgmaaaa
