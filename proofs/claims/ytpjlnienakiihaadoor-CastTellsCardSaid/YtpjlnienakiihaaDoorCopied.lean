/- A packet that shares no memory with what it was made of: cast.copied. -/
import Derived.Test.YtpjlnienakiihaaDoorRowConv
import Derived.Test.YtpjlnienakiihaaDoorCast4
import Derived.Deep.RegionHeld3
import Derived.Laws.OwnMore
namespace Go.Proofs.YtpjlnienakiihaaDoor
open Go.RowKit Go.Lib

theorem setCell_same {w : World} {g i : Nat} {cs : Array Value} {t : TypeId} {fr : Nat × Nat} {v : Value} (h : w.heap[g]? = some (.cells cs t fr)) (hv : cs[i]? = some v) : w.setCell ⟨g, i, none⟩ v = w := by
  obtain ⟨hl, he⟩ := Array.getElem?_eq_some_iff.1 h
  obtain ⟨hl2, he2⟩ := Array.getElem?_eq_some_iff.1 hv
  unfold World.setCell
  congr 1
  apply Array.ext_getElem?
  intro j
  rw [Array.getElem?_modify]
  by_cases e : g = j
  · subst e
    have e2 : cs.setIfInBounds i v = cs := by
      apply Array.ext_getElem?
      intro k
      rw [Array.getElem?_setIfInBounds]
      by_cases e3 : i = k
      · subst e3; simp [hl2, he2]
      · simp [e3]
    simp [h, e2]
  · simp [e]
theorem row_cells {w : World} {g : Nat} {cs : Array Value} {t : TypeId} {fr : Nat × Nat} (h : w.heap[g]? = some (.cells cs t fr)) : ∀ k, w.cell? ⟨g, k, none⟩ = cs[k]? := fun k => cell_of_row w g k cs t fr h
theorem own_below {w w' : World} {base n size : Nat} {E : TypeId} {v : Value} {xs : List Value} (h : w.ownsRow base E size v n xs) (hb : Below w.heap.size w w') : w'.ownsRow base E size v n xs := by
  refine ⟨h.1, ?_⟩
  rcases h.2 with q | ⟨g, cap, cur, h1, h2, h3, h4⟩
  · exact .inl q
  · exact .inr ⟨g, cap, cur, h1, h2, heap_below hb h3, h4⟩

theorem own_mono {w : World} {base base' n size : Nat} {E : TypeId} {v : Value} {xs : List Value} (h : w.ownsRow base E size v n xs) (hb : base' ≤ base) : w.ownsRow base' E size v n xs := by
  refine ⟨h.1, ?_⟩
  rcases h.2 with q | ⟨g, cap, cur, h1, h2, h3⟩
  · exact .inl q
  · exact .inr ⟨g, cap, cur, h1, Nat.le_trans hb h2, h3⟩

theorem own_setRow {w : World} {base n size g : Nat} {E : TypeId} {v : Value} {xs : List Value} {cs : Array Value} (h : w.ownsRow base E size v n xs) (hg : g < base) : (w.setRow g cs).ownsRow base E size v n xs := by
  refine ⟨h.1, ?_⟩
  rcases h.2 with q | ⟨g', cap, cur, h1, h2, h3, h4⟩
  · exact .inl q
  · refine .inr ⟨g', cap, cur, h1, h2, ?_, h4⟩
    unfold World.setRow
    rw [Array.getElem?_modify, if_neg (by omega)]
    exact h3

/-- Under way in 'copied': the packet's own box, the result's, and the rest as it was. -/
structure CpSt (w : World) (p : Pk) (s : Sv) (W : World) : Prop where
  row : W.heap[w.heap.size]? = some (.cells (pkC p s) 28 (0, 0))
  res : W.heap[w.heap.size + 1]? = some (.cells pk0C 28 (0, 0))
  bel : Below w.heap.size w W
theorem CpSt.size {w W : World} {p : Pk} {s : Sv} (h : CpSt w p s W) : w.heap.size + 2 ≤ W.heap.size := (Array.getElem?_eq_some_iff.1 h.res).1
theorem CpSt.call {w W W' : World} {p : Pk} {s : Sv} (h : CpSt w p s W) (hb : Below W.heap.size W W') : CpSt w p s W' :=
  ⟨heap_below hb h.row, heap_below hb h.res, h.bel.trans (hb.mono h.bel.size)⟩
theorem CpSt.put {w W : World} {p : Pk} {s : Sv} (h : CpSt w p s W) (i : Nat) (v : Value) (s' : Sv) (e : (pkC p s).setIfInBounds i v = pkC p s') : CpSt w p s' (W.setCell ⟨w.heap.size, i, none⟩ v) := by
  refine ⟨?_, ?_, h.bel.setCell (by simp) _⟩
  · rw [← e]; exact heap_setCell_same W _ i _ _ v h.row
  · rw [heap_setCell_other W _ _ _ (by simp)]; exact h.res
theorem CpSt.cells {w W : World} {p : Pk} {s : Sv} (h : CpSt w p s W) : ∀ k, W.cell? ⟨w.heap.size, k, none⟩ = (pkC p s)[k]? := row_cells h.row
theorem CpSt.frozen {w W : World} {p : Pk} {s : Sv} (h : CpSt w p s W) : ∀ k, W.frozen? ⟨w.heap.size, k, none⟩ = false := fun k => frozen_of_row W _ k _ _ h.row
theorem CpSt.same {w W : World} {p : Pk} {s : Sv} (h : CpSt w p s W) (i : Nat) (v : Value) (e : (pkC p s)[i]? = some v) : W.setCell ⟨w.heap.size, i, none⟩ v = W := setCell_same h.row e

/-- The same, and the new rows so far. -/
structure CpLp (w : World) (p : Pk) (s : Sv) (W : World) : Prop where
  st : CpSt w p s W
  pay : W.ownsRow (w.heap.size + 2) 5 1 (.slice s.pA p.pay.length s.pC) p.pay.length (Lib.byteCells p.pay)
  wpay : W.ownsRow (w.heap.size + 2) 5 1 (.slice s.wA p.wpay.length s.wC) p.wpay.length (Lib.byteCells p.wpay)
  pass : W.ownsRow (w.heap.size + 2) 5 1 (.slice s.uA p.pass.length s.uC) p.pass.length (Lib.byteCells p.pass)
  subs : W.ownsRow (w.heap.size + 2) 58 2 (.slice s.sA p.subs.length s.sC) p.subs.length (subCells p.subs)
theorem CpLp.call {w W W' : World} {p : Pk} {s : Sv} (h : CpLp w p s W) (hb : Below W.heap.size W W') : CpLp w p s W' :=
  ⟨h.st.call hb, own_below h.pay hb, own_below h.wpay hb, own_below h.pass hb, own_below h.subs hb⟩
theorem CpLp.drew {w W : World} {p : Pk} {s : Sv} (h : CpLp w p s W) : CpLp w p s W.drew := h.call (Below.drew (Below.refl _ _))
theorem subs_at {W : World} {base n C : Nat} {A : Option Addr} {l : List (ByteArray × Int)} (h : W.ownsRow base 58 2 (.slice A n C) n (subCells l)) (hn : n = l.length) (k : Nat) (hk : k < l.length) :
    ∃ ad, A = some ad ∧ k < C ∧ base ≤ ad.block ∧ ∀ W' : World, W'.ownsRow base 58 2 (.slice (some ad) n C) n (subCells l) → W'.cell? (ad.add (k * 2)) = some (.string l[k].1) ∧ W'.frozen? (ad.add (k * 2)) = false ∧ W'.setCell (ad.add (k * 2)) (.string l[k].1) = W' := by
  subst hn
  rcases h.2 with ⟨q, h0⟩ | ⟨g, cap, cur, q, h1, h2, h3, h4, h5, h6⟩
  · omega
  · injection q with q1 q2 q3
    subst q1; subst q3
    refine ⟨_, rfl, by omega, h1, fun W' h' => ?_⟩
    have e0 : (⟨g, 0, none⟩ : Addr).add (k * 2) = ⟨g, k * 2, none⟩ := by unfold Addr.add; split <;> simp_all
    obtain ⟨e1, e2⟩ := subCells_at l k l[k] (List.getElem?_eq_getElem hk)
    rw [e0]
    refine ⟨by rw [h'.cellAt (k * 2) (by omega)]; exact e1, h'.frozenAt (k * 2), ?_⟩
    have e3 := h'.cellAt (k * 2) (by omega)
    rw [e1] at e3
    rcases h'.2 with ⟨q, h0⟩ | ⟨g', cap', cur', q, h1', h2', _⟩
    · omega
    · injection q with q1
      injection q1 with q1
      injection q1 with q1
      subst q1
      rw [row_cells h2'] at e3
      exact setCell_same h2' e3

/-- A packet whose slices are the call's own, in blocks from base on. -/
structure PkOwn (W : World) (base : Nat) (p : Pk) (s : Sv) : Prop where
  pay : W.ownsRow base 5 1 (.slice s.pA p.pay.length s.pC) p.pay.length (Lib.byteCells p.pay)
  wpay : W.ownsRow base 5 1 (.slice s.wA p.wpay.length s.wC) p.wpay.length (Lib.byteCells p.wpay)
  pass : W.ownsRow base 5 1 (.slice s.uA p.pass.length s.uC) p.pass.length (Lib.byteCells p.pass)
  subs : W.ownsRow base 58 2 (.slice s.sA p.subs.length s.sC) p.subs.length (subCells p.subs)
  codes : W.ownsRow base 3 1 (.slice s.cA p.codes.length s.cC) p.codes.length (intCells p.codes)
theorem PkOwn.at_ {W : World} {base : Nat} {p : Pk} {s : Sv} (h : PkOwn W base p s) : PkAt W W.heap.size p s := ⟨ownsBytes h.pay, ownsBytes h.wpay, ownsBytes h.pass, ownsSubs h.subs, ownsInts' h.codes⟩
theorem PkOwn.nil {W : World} {base : Nat} {p : Pk} {s : Sv} (h : PkOwn W base p s) : NilOk s := ⟨ownsNil h.pay, ownsNil h.wpay, ownsNil h.pass, ownsNil h.subs, ownsNil h.codes⟩
theorem PkOwn.below {W W' : World} {base : Nat} {p : Pk} {s : Sv} (h : PkOwn W base p s) (hb : Below W.heap.size W W') : PkOwn W' base p s := ⟨own_below h.pay hb, own_below h.wpay hb, own_below h.pass hb, own_below h.subs hb, own_below h.codes hb⟩
theorem PkOwn.mono {W : World} {base base' : Nat} {p : Pk} {s : Sv} (h : PkOwn W base p s) (hb : base' ≤ base) : PkOwn W base' p s := ⟨own_mono h.pay hb, own_mono h.wpay hb, own_mono h.pass hb, own_mono h.subs hb, own_mono h.codes hb⟩
theorem PkOwn.setRow {W : World} {base g : Nat} {cs : Array Value} {p : Pk} {s : Sv} (h : PkOwn W base p s) (hg : g < base) : PkOwn (W.setRow g cs) base p s := ⟨own_setRow h.pay hg, own_setRow h.wpay hg, own_setRow h.pass hg, own_setRow h.subs hg, own_setRow h.codes hg⟩
theorem PkOwn.setCell {W : World} {base : Nat} {a : Addr} {v : Value} {p : Pk} {s : Sv} (h : PkOwn W base p s) (hg : a.block < base) : PkOwn (W.setCell a v) base p s := ⟨ownsRow_setCell_below h.pay hg v, ownsRow_setCell_below h.wpay hg v, ownsRow_setCell_below h.pass hg v, ownsRow_setCell_below h.subs hg v, ownsRow_setCell_below h.codes hg v⟩

/-- What copying a packet hands back. -/
def CopyPost (w : World) (p : Pk) (e : Ending) (w' : World) : Prop :=
  ∃ s' : Sv, e = .returned (pkV p s') ∧ PkOwn w' w.heap.size p s' ∧ Below w.heap.size w w'

set_option maxRecDepth 100000 in
set_option maxHeartbeats 4000000 in
theorem copied_any (p : Pk) (s : Sv) (B : Nat) (w : World) (hp : PkAt w B p s) (hB : B ≤ w.heap.size) (ok : PkOk p) (hn : NilOk s) :
    Calls Tryd.prog 21 #[pkV p s] w (CopyPost w p) := by
  have HP := Lib.hid hp
  have HN := Lib.hid hn
  have OK := Lib.hid ok
  clear hp hn ok
  go_enter Tryd.func21, Tryd.ntmps21
  go_wp2_with fail
  have s0 : CpSt w p s ((w.alloc (.cells (pkC p s) 28)).alloc (.cells pk0C 28)) := ⟨heap_alloc2_old _ _ _, heap_alloc2_new _ _ _, by (repeat (first | assumption | exact Below.refl _ _ | exact (Below.refl _ _).alloc (Nat.le_refl _) _ | (refine thn ?_ (by assumption)) | (refine alB ?_ _) | (refine dwN ?_ _) | (refine Below.drew ?_)))⟩
  refine (clone_any p.top _ (by have := OK.out.top; omega)).mono ?_
  rintro e w1 ⟨rfl, hb⟩
  have s1 := s0.call hb
  clear s0 hb
  have C := s1.cells
  have F := s1.frozen
  go_wp2_with fail
  rw [s1.same 5 (.string p.top) rfl]
  clear C F
  refine (cloneU8 s.pA s.pC p.pay.length (Lib.byteCells p.pay) _ ((HP.out.pay.to hB s1.bel).cellsAt) (by have := OK.out.pay; omega) HN.out.pay).mono ?_
  rintro e w2 ⟨A_pay, C_pay, rfl, o_pay, hb⟩
  have s2' := s1.call hb
  replace o_pay := own_mono o_pay s1.size
  clear s1 hb
  have C := s2'.cells
  have F := s2'.frozen
  go_wp2_with fail
  clear C F
  have s2 := s2'.put 6 (.slice A_pay p.pay.length C_pay) { s with pA := A_pay, pC := C_pay } rfl
  replace o_pay := ownsRow_setCell_below o_pay (a := ⟨w.heap.size, 6, none⟩) (show w.heap.size < w.heap.size + 2 by omega) (.slice A_pay p.pay.length C_pay)
  clear s2'
  generalize w2.setCell _ _ = W2 at *
  refine (clone_any p.cli _ (by have := OK.out.cli; omega)).mono ?_
  rintro e w3 ⟨rfl, hb⟩
  have s3 := s2.call hb
  replace o_pay := own_below o_pay hb
  clear s2 hb
  have C := s3.cells
  have F := s3.frozen
  go_wp2_with fail
  rw [s3.same 8 (.string p.cli) rfl]
  clear C F
  refine (clone_any p.wtop _ (by have := OK.out.wtop; omega)).mono ?_
  rintro e w4 ⟨rfl, hb⟩
  have s4 := s3.call hb
  replace o_pay := own_below o_pay hb
  clear s3 hb
  have C := s4.cells
  have F := s4.frozen
  go_wp2_with fail
  rw [s4.same 12 (.string p.wtop) rfl]
  clear C F
  refine (cloneU8 s.wA s.wC p.wpay.length (Lib.byteCells p.wpay) _ ((HP.out.wpay.to hB s4.bel).cellsAt) (by have := OK.out.wpay; omega) HN.out.wpay).mono ?_
  rintro e w5 ⟨A_wpay, C_wpay, rfl, o_wpay, hb⟩
  have s5' := s4.call hb
  replace o_pay := own_below o_pay hb
  replace o_wpay := own_mono o_wpay s4.size
  clear s4 hb
  have C := s5'.cells
  have F := s5'.frozen
  go_wp2_with fail
  clear C F
  have s5 := s5'.put 13 (.slice A_wpay p.wpay.length C_wpay) { s with pA := A_pay, pC := C_pay, wA := A_wpay, wC := C_wpay } rfl
  replace o_pay := ownsRow_setCell_below o_pay (a := ⟨w.heap.size, 13, none⟩) (show w.heap.size < w.heap.size + 2 by omega) (.slice A_wpay p.wpay.length C_wpay)
  replace o_wpay := ownsRow_setCell_below o_wpay (a := ⟨w.heap.size, 13, none⟩) (show w.heap.size < w.heap.size + 2 by omega) (.slice A_wpay p.wpay.length C_wpay)
  clear s5'
  generalize w5.setCell _ _ = W5 at *
  refine (clone_any p.user _ (by have := OK.out.user; omega)).mono ?_
  rintro e w6 ⟨rfl, hb⟩
  have s6 := s5.call hb
  replace o_pay := own_below o_pay hb
  replace o_wpay := own_below o_wpay hb
  clear s5 hb
  have C := s6.cells
  have F := s6.frozen
  go_wp2_with fail
  rw [s6.same 18 (.string p.user) rfl]
  clear C F
  refine (cloneU8 s.uA s.uC p.pass.length (Lib.byteCells p.pass) _ ((HP.out.pass.to hB s6.bel).cellsAt) (by have := OK.out.pass; omega) HN.out.pass).mono ?_
  rintro e w7 ⟨A_pass, C_pass, rfl, o_pass, hb⟩
  have s7' := s6.call hb
  replace o_pay := own_below o_pay hb
  replace o_wpay := own_below o_wpay hb
  replace o_pass := own_mono o_pass s6.size
  clear s6 hb
  have C := s7'.cells
  have F := s7'.frozen
  go_wp2_with fail
  clear C F
  have s7 := s7'.put 19 (.slice A_pass p.pass.length C_pass) { s with pA := A_pay, pC := C_pay, wA := A_wpay, wC := C_wpay, uA := A_pass, uC := C_pass } rfl
  replace o_pay := ownsRow_setCell_below o_pay (a := ⟨w.heap.size, 19, none⟩) (show w.heap.size < w.heap.size + 2 by omega) (.slice A_pass p.pass.length C_pass)
  replace o_wpay := ownsRow_setCell_below o_wpay (a := ⟨w.heap.size, 19, none⟩) (show w.heap.size < w.heap.size + 2 by omega) (.slice A_pass p.pass.length C_pass)
  replace o_pass := ownsRow_setCell_below o_pass (a := ⟨w.heap.size, 19, none⟩) (show w.heap.size < w.heap.size + 2 by omega) (.slice A_pass p.pass.length C_pass)
  clear s7'
  generalize w7.setCell _ _ = W7 at *
  refine (cloneSub s.sA s.sC p.subs.length (subCells p.subs) _ ((HP.out.subs.to hB s7.bel).cellsAt) (by have := OK.out.subs; omega) HN.out.subs).mono ?_
  rintro e w8 ⟨A_subs, C_subs, rfl, o_subs, hb⟩
  have s8' := s7.call hb
  replace o_pay := own_below o_pay hb
  replace o_wpay := own_below o_wpay hb
  replace o_pass := own_below o_pass hb
  replace o_subs := own_mono o_subs s7.size
  clear s7 hb
  have C := s8'.cells
  have F := s8'.frozen
  go_wp2_with fail
  clear C F
  have s8 := s8'.put 22 (.slice A_subs p.subs.length C_subs) { s with pA := A_pay, pC := C_pay, wA := A_wpay, wC := C_wpay, uA := A_pass, uC := C_pass, sA := A_subs, sC := C_subs } rfl
  replace o_pay := ownsRow_setCell_below o_pay (a := ⟨w.heap.size, 22, none⟩) (show w.heap.size < w.heap.size + 2 by omega) (.slice A_subs p.subs.length C_subs)
  replace o_wpay := ownsRow_setCell_below o_wpay (a := ⟨w.heap.size, 22, none⟩) (show w.heap.size < w.heap.size + 2 by omega) (.slice A_subs p.subs.length C_subs)
  replace o_pass := ownsRow_setCell_below o_pass (a := ⟨w.heap.size, 22, none⟩) (show w.heap.size < w.heap.size + 2 by omega) (.slice A_subs p.subs.length C_subs)
  replace o_subs := ownsRow_setCell_below o_subs (a := ⟨w.heap.size, 22, none⟩) (show w.heap.size < w.heap.size + 2 by omega) (.slice A_subs p.subs.length C_subs)
  clear s8'
  generalize w8.setCell _ _ = W8 at *
  have hL : CpLp w p ⟨A_pay, C_pay, A_wpay, C_wpay, A_pass, C_pass, A_subs, C_subs, s.cA, s.cC⟩ W8 := ⟨s8, o_pay, o_wpay, o_pass, o_subs⟩
  clear s8 o_pay o_wpay o_pass o_subs
  have hl := OK.out.subs
  go_loopw [43] (fun i wr => ∃ k : Nat, k ≤ p.subs.length ∧ i = .int .i64 k ∧ CpLp w p ⟨A_pay, C_pay, A_wpay, C_wpay, A_pass, C_pass, A_subs, C_subs, s.cA, s.cC⟩ wr) (fun i _ => p.subs.length - (intOf i).toNat)
  case atStart => exact ⟨0, Nat.zero_le _, rfl, hL⟩
  case round =>
    obtain ⟨k, hk, rfl, hS⟩ := hrel
    clear hL
    by_cases hlt : k < p.subs.length
    · obtain ⟨ad, rfl, hkc, hBk, hfx⟩ := subs_at hS.subs rfl k hlt
      have HX := Lib.hid hfx
      clear hfx
      have hsz := (OK.out.sub p.subs[k] (List.getElem_mem hlt)).1
      generalize p.subs[k].1 = f at *
      go_wp2_with fail
      refine wp_region_held_drew (S := fun W => CpLp w p ⟨A_pay, C_pay, A_wpay, C_wpay, A_pass, C_pass, some ad, C_subs, s.cA, s.cC⟩ W) (by rfl) hS.drew ?_
      clear hS
      intro hT
      apply wpAnyH_take (i := 0) (v := .pointer (some ⟨w.heap.size, 22, none⟩))
      case hi => rfl
      case hs => kernel_rfl
      case hf => kernel_rfl
      case hr => kernel_rfl
      case hQ => exact fun _ _ _ h => h
      case hS => exact hT
      case hy => exact .inl ⟨by rfl, fun W _ => by simp [execOp, go_sem]⟩
      apply wpAnyH_take (i := 1) (v := .slice (some ad) p.subs.length C_subs)
      case hi => rfl
      case hs => kernel_rfl
      case hf => kernel_rfl
      case hr => kernel_rfl
      case hQ => exact fun _ _ _ h => h
      case hS => exact hT
      case hy => exact .inl ⟨by rfl, fun W hW => by simp [execOp, go_sem, hW.st.cells]⟩
      apply wpAnyH_take (i := 2) (v := .int .i64 (k : Int))
      case hi => rfl
      case hs => kernel_rfl
      case hf => kernel_rfl
      case hr => kernel_rfl
      case hQ => exact fun _ _ _ h => h
      case hS => exact hT
      case hy => exact .inl ⟨by rfl, fun W _ => rfl⟩
      apply wpAnyH_take (i := 3) (v := .pointer (some ⟨w.heap.size, 22, none⟩))
      case hi => rfl
      case hs => kernel_rfl
      case hf => kernel_rfl
      case hr => kernel_rfl
      case hQ => exact fun _ _ _ h => h
      case hS => exact hT
      case hy => exact .inl ⟨by rfl, fun W _ => by simp [execOp, go_sem]⟩
      apply wpAnyH_take (i := 4) (v := .slice (some ad) p.subs.length C_subs)
      case hi => rfl
      case hs => kernel_rfl
      case hf => kernel_rfl
      case hr => kernel_rfl
      case hQ => exact fun _ _ _ h => h
      case hS => exact hT
      case hy => exact .inl ⟨by rfl, fun W hW => by simp [execOp, go_sem, hW.st.cells]⟩
      apply wpAnyH_take (i := 5) (v := .int .i64 (k : Int))
      case hi => rfl
      case hs => kernel_rfl
      case hf => kernel_rfl
      case hr => kernel_rfl
      case hQ => exact fun _ _ _ h => h
      case hS => exact hT
      case hy => exact .inl ⟨by rfl, fun W _ => rfl⟩
      apply wpAnyH_take (i := 6) (v := .pointer (some (ad.add (k * 2))))
      case hi => rfl
      case hs => kernel_rfl
      case hf => kernel_rfl
      case hr => kernel_rfl
      case hQ => exact fun _ _ _ h => h
      case hS => exact hT
      case hy => exact .inl ⟨by rfl, fun W _ => by simp [execOp, go_sem, hlt]⟩
      apply wpAnyH_take (i := 7) (v := .pointer (some (ad.add (k * 2))))
      case hi => rfl
      case hs => kernel_rfl
      case hf => kernel_rfl
      case hr => kernel_rfl
      case hQ => exact fun _ _ _ h => h
      case hS => exact hT
      case hy => exact .inl ⟨by rfl, fun W _ => by simp [execOp, go_sem]⟩
      apply wpAnyH_take (i := 8) (v := .string f)
      case hi => rfl
      case hs => kernel_rfl
      case hf => kernel_rfl
      case hr => kernel_rfl
      case hQ => exact fun _ _ _ h => h
      case hS => exact hT
      case hy => exact .inl ⟨by rfl, fun W hW => by simp [execOp, go_sem, (HX.out W hW.subs).1]⟩
      refine wpAnyH_ready (rs := [9]) (by kernel_rfl) (by simp) (AllReadyH.cons (by rfl) ?_ AllReadyH.nil)
      intro K' hK
      rw [if_pos (by rfl)]
      go_wp2_with fail
      refine (clone_any f _ (by omega)).mono ?_
      rintro e w9 ⟨rfl, hb⟩
      have hT9 := hT.call hb
      go_wp2_with fail
      refine hK.out _ _ hT9 ?_
      clear hK K' hT hb
      intro hT
      apply wpAnyH_take (i := 10) (v := .pointer (some (ad.add (k * 2))))
      case hi => rfl
      case hs => kernel_rfl
      case hf => kernel_rfl
      case hr => kernel_rfl
      case hQ => exact fun _ _ _ h => h
      case hS => exact hT
      case hy => exact .inl ⟨by rfl, fun W _ => by simp [execOp, go_sem, hlt]⟩
      apply wpAnyH_take (i := 11) (v := .pointer (some (ad.add (k * 2))))
      case hi => rfl
      case hs => kernel_rfl
      case hf => kernel_rfl
      case hr => kernel_rfl
      case hQ => exact fun _ _ _ h => h
      case hS => exact hT
      case hy => exact .inl ⟨by rfl, fun W _ => by simp [execOp, go_sem]⟩
      refine wpAnyH_ready (rs := [12]) (by kernel_rfl) (by simp) (AllReadyH.cons (by rfl) ?_ AllReadyH.nil)
      intro K' hK
      rw [if_pos (by rfl)]
      obtain ⟨x1, x2, x3⟩ := HX.out w9 hT.subs
      have X3 := Lib.hid x3
      clear x3
      go_wp2_with fail
      refine hK.out _ _ (by rw [X3.out]; exact hT) ?_
      rw [X3.out]
      clear hK K'
      intro _
      refine wpAnyH_done (by kernel_rfl) ?_ _
      go_wp2_with fail
      go_roundw
      case rel => exact ⟨k + 1, hlt, by go_num, hT⟩
      case measure => simp [intOf]; omega
    · have C := hS.st.cells
      have F := hS.st.frozen
      have hc0 := OK.out.codes
      go_wp2_with fail
      refine (cloneInt s.cA s.cC p.codes.length (intCells p.codes) _ ((HP.out.codes.to hB hS.st.bel).cellsAt) (by omega) HN.out.codes).mono ?_
      rintro e w9 ⟨A_codes, C_codes, rfl, o_codes, hb⟩
      have hT := hS.call hb
      replace o_codes := own_mono o_codes hS.st.size
      clear C F hb
      have C := hT.st.cells
      have F := hT.st.frozen
      have hP := hT.st.put 23 (.slice A_codes p.codes.length C_codes) ⟨A_pay, C_pay, A_wpay, C_wpay, A_pass, C_pass, A_subs, C_subs, A_codes, C_codes⟩ rfl
      have ow := fun {E : TypeId} {size n : Nat} {v : Value} {xs : List Value} (h : w9.ownsRow (w.heap.size + 2) E size v n xs) => ownsRow_setCell_below h (a := ⟨w.heap.size, 23, none⟩) (show w.heap.size < w.heap.size + 2 by omega) (.slice A_codes p.codes.length C_codes)
      have q1 := ow hT.pay
      have q2 := ow hT.wpay
      have q3 := ow hT.pass
      have q4 := ow hT.subs
      have q5 := ow o_codes
      clear hS hT o_codes ow hl
      have Q1 := Lib.hid q1
      have Q2 := Lib.hid q2
      have Q3 := Lib.hid q3
      have Q4 := Lib.hid q4
      have Q5 := Lib.hid q5
      clear q1 q2 q3 q4 q5
      go_wp2_with (first
        | ((with_reducible show wpList _ _ _ ({ dst := _, op := Op.load 28 _, type := _, pos := _, after := _, guard := _ } :: _) _ _); refine ld_pk w.heap.size (by rfl) (by rfl) _ _ _ hP.row (by rfl) ?_)
        | ((with_reducible show wpList _ _ _ ({ dst := _, op := Op.store 28 _ _, type := _, pos := _, after := _, guard := _ } :: _) _ _); refine stR (w.heap.size + 1) _ (pkC p ⟨A_pay, C_pay, A_wpay, C_wpay, A_pass, C_pass, A_subs, C_subs, A_codes, C_codes⟩) (by rfl) (by rfl) hP.res (by rfl) (by rfl) pk_sz (pk_one _ _) ?_))
      generalize w9.setCell _ _ = W9 at *
      refine bodyPost_ret (v := .agg (pkC p ⟨A_pay, C_pay, A_wpay, C_wpay, A_pass, C_pass, A_subs, C_subs, A_codes, C_codes⟩)) (results_cell_row (by rfl) _ _ (w.heap.size + 1) 28 _ (0, 0) _ (by rfl) (setRow_heap _ _ _ _ _ _ hP.res) Tryd.underlying28 (by rfl) (by exact pk_sz)) (by rfl) ⟨_, rfl, ?_, below_setRow hP.bel (by omega) _⟩
      have ho : PkOwn W9 (w.heap.size + 2) p ⟨A_pay, C_pay, A_wpay, C_wpay, A_pass, C_pass, A_subs, C_subs, A_codes, C_codes⟩ := ⟨Q1.out, Q2.out, Q3.out, Q4.out, Q5.out⟩
      exact (ho.setRow (by omega)).mono (by omega)

end Go.Proofs.YtpjlnienakiihaaDoor
