/- A packet's fields, appended: publishes, codes, filters. -/
import Derived.Test.YtkeocnobninaaaaHead
import Derived.Deep.RegionHeld3
namespace Go.Proofs.Ytkeocnobninaaaa
open Go.RowKit Go.Lib

/-- A row that is another than v's own stays. -/
theorem App.row {w w' : World} {v v' : Value} {g : Nat} {o : Obj} (h : App w w' v v') (hg : w.heap[g]? = some o) (hne : v.ownBlock ≠ some g) : w'.heap[g]? = some o ∧ v'.ownBlock ≠ some g := by
  have hl : g < w.heap.size := (Array.getElem?_eq_some_iff.1 hg).1
  refine ⟨by rw [h.grew.block g hl (fun e => hne e.symm), hg], ?_⟩
  rcases h.own with e | ⟨k, e, hk⟩
  · rw [e]; exact hne
  · rw [e]; intro q; injection q with q; omega
theorem row_cells {w : World} {g : Nat} {cs : Array Value} {t : TypeId} {fr : Nat × Nat} (h : w.heap[g]? = some (.cells cs t fr)) : ∀ k, w.cell? ⟨g, k, none⟩ = cs[k]? := fun k => cell_of_row w g k cs t fr h
theorem own_ne {w : World} {base n : Nat} {v : Value} {xs : List Value} (h : w.ownsRow base 5 1 v n xs) : v.ownBlock ≠ some w.heap.size := fun e => by have := (h.lt _ e).2; omega

def textL (s : ByteArray) : List UInt8 := pairL s.size ++ s.data.toList
def lumpL (l : List UInt8) : List UInt8 := pairL l.length ++ l
def pubL (p : Pk) : List UInt8 := textL p.top ++ ((if p.qos == 0 then [] else pairL p.id) ++ p.pay)

set_option maxRecDepth 100000 in
set_option maxHeartbeats 2000000 in
theorem addPublish_any (p : Pk) (s : Sv) (base : Nat) (A : Option Addr) (c n : Nat) (l : List UInt8) (B : Nat) (w : World) (hown : w.ownsRow base 5 1 (.slice A n c) n (Lib.byteCells l)) (hn : n = l.length) (hl : l.length ≤ 1000) (hb : base ≤ w.heap.size)
    (hv : BytesAt w B (.slice s.pA p.pay.length s.pC) p.pay) (hz : s.pA = none → s.pC = 0) (hB : B ≤ base) (h1 : p.top.size ≤ 65535) (h2 : p.pay.length ≤ 65535) (h3 : 0 ≤ p.id) (h4 : p.id ≤ 65535) :
    Calls Try.prog 64 #[.slice A n c, pkV p s] w (AppPost base (.slice A n c) w (l ++ pubL p)) := by
  subst hn
  have hbw : Below w.heap.size w (w.alloc (.cells (pkC p s) 28)) := (Below.refl _ _).alloc (Nat.le_refl _) _
  have hne := own_ne hown
  have hp := addText_any base A c l.length l p.top (w.alloc (.cells (pkC p s) 28)) (hown.alloc _) rfl (by omega) (by simp; omega) h1
  have hlt := fun k hk => (hown.lt k hk).1
  have HV := Lib.hid hv
  have HNE := Lib.hid hne
  clear hv hne
  have hkk : (l ++ (pairL (p.top.size : Int) ++ p.top.data.toList)).length ≤ 70000 := by simp [pairL]; omega
  rcases eq : (p.qos == 0) with _ | _
  · have EQ := Lib.hid eq
    have eq2 : (p.qos != 0) = true := by show (!(p.qos == 0)) = true; rw [eq]; rfl
    go_enter Try.func64, Try.ntmps64
    go_wp2_with fail
    refine hp.mono ?_
    rintro e w1 ⟨A1, c1, rfl, ho, ha⟩
    obtain ⟨r1, n1⟩ := ha.row (heap_alloc_last _ _) HNE.out
    have q1 := row_cells r1
    have a1 := ha.pre hbw
    have hb1 : base ≤ w1.heap.size := Nat.le_trans hb a1.grew.size
    generalize hL1 : l ++ (pairL (p.top.size : Int) ++ p.top.data.toList) = L1 at *
    have HL1 := Lib.hid hL1
    clear hL1 hp ha
    go_wp2_with fail
    refine (addPair_any base A1 c1 L1.length L1 p.id w1 ho rfl (by omega) hb1 h3 h4).mono ?_
    rintro e w2 ⟨A2, c2, rfl, ho2, ha2⟩
    obtain ⟨r2, n2⟩ := ha2.row r1 n1
    have q2 := row_cells r2
    have a2 := a1.trans ha2
    have hb2 : base ≤ w2.heap.size := Nat.le_trans hb a2.grew.size
    have hk2 : (L1 ++ pairL p.id).length ≤ 70002 := by simp [pairL]; omega
    generalize hL2 : L1 ++ pairL p.id = L2 at *
    have HL2 := Lib.hid hL2
    clear hL2 q1 r1 ha2
    have hbl := a2.below base hb hlt
    go_wp2_with (at_builtin; go_must (refine ap_bytes base A2 c2 L2.length L2 B s.pA s.pC p.pay.length p.pay (by rfl) (by rfl) ho2 (HV.out.below (hbl.mono hB)) hz (by omega) hb2 ?_))
    intro A' c' w' h2 h3
    have e : l ++ pubL p = L2 ++ p.pay := by rw [← HL2.out, ← HL1.out]; unfold pubL textL; rw [EQ.out]; simp
    have E := Lib.hid e
    clear e
    go_wp2_with fail
    go_ret
    unfold AppPost
    rw [E.out, List.length_append]
    exact ⟨A', c', rfl, h2, a2.trans h3⟩
  · have EQ := Lib.hid eq
    have eq2 : (p.qos != 0) = false := by show (!(p.qos == 0)) = false; rw [eq]; rfl
    go_enter Try.func64, Try.ntmps64
    go_wp2_with fail
    refine hp.mono ?_
    rintro e w1 ⟨A1, c1, rfl, ho, ha⟩
    obtain ⟨r1, n1⟩ := ha.row (heap_alloc_last _ _) HNE.out
    have q1 := row_cells r1
    have a1 := ha.pre hbw
    have hb1 : base ≤ w1.heap.size := Nat.le_trans hb a1.grew.size
    generalize hL1 : l ++ (pairL (p.top.size : Int) ++ p.top.data.toList) = L1 at *
    have HL1 := Lib.hid hL1
    clear hL1 hp ha
    have hbl := a1.below base hb hlt
    go_wp2_with (at_builtin; go_must (refine ap_bytes base A1 c1 L1.length L1 B s.pA s.pC p.pay.length p.pay (by rfl) (by rfl) ho (HV.out.below (hbl.mono hB)) hz (by omega) hb1 ?_))
    intro A' c' w' h2 h3
    have e : l ++ pubL p = L1 ++ p.pay := by rw [← HL1.out]; unfold pubL textL; rw [EQ.out]; simp
    have E := Lib.hid e
    clear e
    go_wp2_with fail
    go_ret
    unfold AppPost
    rw [E.out, List.length_append]
    exact ⟨A', c', rfl, h2, a1.trans h3⟩
end Go.Proofs.Ytkeocnobninaaaa
