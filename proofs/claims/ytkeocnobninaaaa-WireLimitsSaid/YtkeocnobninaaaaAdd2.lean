/- A packet's codes and filters, appended. -/
import Derived.Test.YtkeocnobninaaaaAdd
namespace Go.Proofs.Ytkeocnobninaaaa
open Go.RowKit Go.Lib

def codesL (l : List Int) : List UInt8 := l.map fun c => UInt8.ofNat c.toNat
theorem codes_take (l : List Int) (k : Nat) (h : k < l.length) : codesL (l.take (k + 1)) = codesL (l.take k) ++ [UInt8.ofNat l[k].toNat] := by
  unfold codesL; rw [List.take_succ_eq_append_getElem h, List.map_append]; rfl
theorem one_cell {x : Int} (h0 : 0 ≤ x) (h1 : x ≤ 255) : (#[Value.int .u8 x] : Array Value) = (([UInt8.ofNat x.toNat] : List UInt8).map fun b => Value.int .u8 (b.toNat : Int)).toArray := by
  simp only [List.map_cons, List.map_nil]; rw [u8c h0 h1]

set_option maxRecDepth 100000 in
set_option maxHeartbeats 2000000 in
theorem addCodes_any (base : Nat) (A : Option Addr) (c n : Nat) (l : List UInt8) (B : Nat) (A2 : Option Addr) (c2 m : Nat) (cs : List Int) (w : World) (hown : w.ownsRow base 5 1 (.slice A n c) n (Lib.byteCells l)) (hn : n = l.length) (hl : l.length ≤ 1000) (hb : base ≤ w.heap.size)
    (hv : IntsAt w B (.slice A2 m c2) cs) (hm : m = cs.length) (hB : B ≤ base) (h1 : cs.length ≤ 65535) (h2 : ∀ x ∈ cs, 0 ≤ x ∧ x ≤ 255) :
    Calls Try.prog 67 #[.slice A n c, .slice A2 m c2] w (AppPost base (.slice A n c) w (l ++ codesL cs)) := by
  subst hn; subst hm
  have hlt := fun k hk => (hown.lt k hk).1
  have HV := Lib.hid hv
  have H2 := Lib.hid h2
  clear hv h2
  go_enter Try.func67, Try.ntmps67
  go_wp2
  go_loopw [0, 9] (fun b i wr => ∃ (k : Nat) (A' : Option Addr) (c' : Nat), k ≤ cs.length ∧ i = .int .i64 k ∧ b = .slice A' (l.length + k) c' ∧ wr.ownsRow base 5 1 (.slice A' (l.length + k) c') (l.length + k) (Lib.byteCells (l ++ codesL (cs.take k))) ∧ App w wr (.slice A l.length c) (.slice A' (l.length + k) c')) (fun _ i _ => cs.length - (intOf i).toNat)
  case atStart => exact ⟨0, A, c, Nat.zero_le _, rfl, rfl, by simpa [codesL] using hown, App.refl _ _⟩
  case round =>
    obtain ⟨k, A', c', hk, rfl, rfl, ho, ha⟩ := hrel
    have hb1 : base ≤ wr.heap.size := Nat.le_trans hb ha.grew.size
    by_cases hlt2 : k < cs.length
    · obtain ⟨ad, rfl, hkc, q1⟩ := (HV.out.below ((ha.below base hb hlt).mono hB)).at_ k hlt2
      obtain ⟨x0, x1⟩ := H2.out cs[k] (List.getElem_mem hlt2)
      have hst := Lib.hid (codes_take cs k hlt2)
      generalize cs[k] = x at *
      go_wp2_with (at_builtin; go_must (refine ap_bytes base A' c' (l.length + k) (l ++ codesL (cs.take k)) (wr.heap.size + 1) (some ⟨wr.heap.size, 0, none⟩) 1 1 [UInt8.ofNat x.toNat] (by rfl) (by rfl) (ho.alloc _) (bytesAt_new wr [UInt8.ofNat x.toNat] _ (0, 0) (one_cell x0 x1) (by simp [maxLen])) (by simp) (by omega) (by simp; omega) ?_))
      intro A3 c3 w3 h3 h4
      go_wp2_with fail
      go_roundw
      case rel =>
        refine ⟨k + 1, A3, c3, hlt2, by go_num, rfl, ?_, ha.trans (h4.pre ((Below.refl _ _).alloc (Nat.le_refl _) _))⟩
        rw [hst.out, ← List.append_assoc]; exact h3
      case measure => simp [intOf]; omega
    · obtain rfl : k = cs.length := by omega
      have e : (l ++ codesL cs).length = l.length + cs.length := by simp [codesL]
      have E := Lib.hid e
      clear e
      rw [List.take_length] at ho
      go_wp2
      go_ret
      unfold AppPost
      rw [E.out]
      exact ⟨A', c', rfl, ho, ha⟩

def subL (q : Bool) (x : ByteArray × Int) : List UInt8 := textL x.1 ++ (if q then [UInt8.ofNat x.2.toNat] else [])
def subsL (q : Bool) (l : List (ByteArray × Int)) : List UInt8 := l.flatMap (subL q)
theorem subs_take (q : Bool) (l : List (ByteArray × Int)) (k : Nat) (h : k < l.length) : subsL q (l.take (k + 1)) = subsL q (l.take k) ++ (pairL (l[k].1.size : Int) ++ l[k].1.data.toList ++ (if q then [UInt8.ofNat l[k].2.toNat] else [])) := by
  unfold subsL; rw [List.take_succ_eq_append_getElem h, List.flatMap_append]; simp [subL, textL]
theorem subs_le (q : Bool) (l : List (ByteArray × Int)) (k : Nat) : (subsL q (l.take k)).length ≤ (subsL q l).length := by
  have e : subsL q l = subsL q (l.take k) ++ subsL q (l.drop k) := by unfold subsL; rw [← List.flatMap_append, List.take_append_drop]
  rw [e, List.length_append]; omega

set_option maxRecDepth 100000 in
set_option maxHeartbeats 4000000 in
theorem addSubs_any (p : Pk) (s : Sv) (q : Bool) (base : Nat) (A : Option Addr) (c n : Nat) (l : List UInt8) (B : Nat) (w : World) (hown : w.ownsRow base 5 1 (.slice A n c) n (Lib.byteCells l)) (hn : n = l.length) (hl : l.length ≤ 1000) (hb : base ≤ w.heap.size)
    (hv : SubsAt w B (.slice s.sA p.subs.length s.sC) p.subs) (hB : B ≤ base) (h1 : p.subs.length ≤ 65535) (h2 : ∀ x ∈ p.subs, x.1.size ≤ 65535 ∧ 0 ≤ x.2 ∧ x.2 ≤ 255) (hk : (p.kind == 8) = q) (hL : (subsL q p.subs).length ≤ 100000) :
    Calls Try.prog 66 #[.slice A n c, pkV p s] w (AppPost base (.slice A n c) w (l ++ subsL q p.subs)) := by
  subst hn
  have hlt := fun k hk => (hown.lt k hk).1
  have hbw : Below w.heap.size w (w.alloc (.cells (pkC p s) 28)) := (Below.refl _ _).alloc (Nat.le_refl _) _
  have HNE := Lib.hid (own_ne hown)
  have HV := Lib.hid hv
  have H2 := Lib.hid h2
  have HL := Lib.hid hL
  clear hv h2 hL
  rcases hA : s.sA with _ | ad
  · have e0 : p.subs = [] := by
      obtain ⟨A3, c3, hv3, _, _, hn3, _⟩ := HV.out
      injection hv3 with q1 q2 q3
      exact hn3 (by rw [← q1]; exact hA)
    have e1 : p.subs.length = 0 := by rw [e0]; rfl
    have E0 : Hid (l ++ subsL q p.subs = l) := Lib.hid (by rw [e0]; simp [subsL])
    clear e0
    go_enter Try.func66, Try.ntmps66
    go_wp2
    go_loopw [0, 10] (fun b i wr => i = .int .i64 0 ∧ b = .slice A l.length c ∧ wr = w.alloc (.cells (pkC p s) 28)) (fun _ _ _ => 0)
    case atStart => exact ⟨rfl, rfl, rfl⟩
    case round =>
      obtain ⟨rfl, rfl, rfl⟩ := hrel
      go_wp2
      go_ret
      unfold AppPost
      rw [E0.out]
      exact ⟨A, c, rfl, hown.alloc _, (App.refl _ _).pre hbw⟩
  · go_enter Try.func66, Try.ntmps66
    go_wp2
    go_loopw [0, 10] (fun b i wr => ∃ (k : Nat) (A' : Option Addr) (c' : Nat) (L : List UInt8), k ≤ p.subs.length ∧ i = .int .i64 k ∧ b = .slice A' L.length c' ∧ Hid (l ++ subsL q (p.subs.take k) = L) ∧ wr.ownsRow base 5 1 (.slice A' L.length c') L.length (Lib.byteCells L) ∧ App w wr (.slice A l.length c) (.slice A' L.length c') ∧ wr.heap[w.heap.size]? = some (.cells (pkC p s) 28 (0, 0)) ∧ (Value.slice A' L.length c').ownBlock ≠ some w.heap.size) (fun _ i _ => p.subs.length - (intOf i).toNat)
    case atStart => exact ⟨0, A, c, l, Nat.zero_le _, rfl, rfl, Lib.hid (by simp [subsL]), hown.alloc _, (App.refl _ _).pre hbw, heap_alloc_last _ _, HNE.out⟩
    case round =>
      obtain ⟨k, A', c', L, hk2, rfl, rfl, hLL, ho, ha, hr, hne⟩ := hrel
      have hb1 : base ≤ wr.heap.size := Nat.le_trans hb ha.grew.size
      have hlen : L.length ≤ 101000 := by rw [← hLL.out, List.length_append]; have := subs_le q p.subs k; have := HL.out; omega
      by_cases hlt2 : k < p.subs.length
      · obtain ⟨ad', hAd, hkc, q1, q2⟩ := (HV.out.below ((ha.below base hb hlt).mono hB)).at_ k hlt2
        obtain ⟨x0, x1, x2⟩ := H2.out p.subs[k] (List.getElem_mem hlt2)
        have hst := Lib.hid (subs_take q p.subs k hlt2)
        rw [hA] at hAd
        obtain rfl : ad = ad' := by injection hAd
        have hrc := row_cells hr
        have hgw : w.heap.size < wr.heap.size := (Array.getElem?_eq_some_iff.1 hr).1
        generalize p.subs[k].1 = x at *
        generalize p.subs[k].2 = y at *
        have hp := addText_any base A' c' L.length L x (wr.alloc (.cells #[.string x, .int .i64 y] 70)) (ho.alloc _) rfl (by omega) (by simp; omega) x0
        go_wp2_with fail
        refine hp.mono ?_
        rintro e w1 ⟨A1, c1, rfl, ho1, ha1⟩
        have n0 := own_ne ho
        obtain ⟨r1, n1⟩ := ha1.row (heap_alloc_last _ _) n0
        obtain ⟨r2, n2⟩ := ha1.row (heap_keep hr) hne
        have t1 := row_cells r1
        have t2 := row_cells r2
        have a1 := ha.trans (ha1.pre ((Below.refl _ _).alloc (Nat.le_refl _) _))
        have hb2 : base ≤ w1.heap.size := Nat.le_trans hb a1.grew.size
        have hl1 : (L ++ (pairL (x.size : Int) ++ x.data.toList)).length ≤ 170000 := by simp [pairL]; omega
        generalize hL1 : L ++ (pairL (x.size : Int) ++ x.data.toList) = L1 at *
        have HL1 := Lib.hid hL1
        clear hL1 hp ha1 r1
        cases q with
        | false =>
          go_wp2_with fail
          go_roundw
          case rel =>
            refine ⟨k + 1, A1, c1, L1, hlt2, by go_num, rfl, Lib.hid ?_, ho1, a1, r2, n2⟩
            rw [hst.out, ← HL1.out, ← hLL.out]; simp
          case measure => simp [intOf]; omega
        | true =>
          go_wp2_with (at_builtin; go_must (refine ap_bytes base A1 c1 L1.length L1 (w1.heap.size + 1) (some ⟨w1.heap.size, 0, none⟩) 1 1 [UInt8.ofNat y.toNat] (by rfl) (by rfl) (ho1.alloc _) (bytesAt_new w1 [UInt8.ofNat y.toNat] _ (0, 0) (one_cell x1 x2) (by simp [maxLen])) (by simp) (by omega) (by simp; omega) ?_))
          intro A3 c3 w3 h3 h4
          obtain ⟨r3, n3⟩ := h4.row (heap_keep r2) n2
          have hl3 : (L1 ++ [UInt8.ofNat y.toNat]).length = L1.length + 1 := by simp
          go_wp2_with fail
          go_roundw
          case rel =>
            refine ⟨k + 1, A3, c3, L1 ++ [UInt8.ofNat y.toNat], hlt2, by go_num, by rw [hl3], Lib.hid ?_, by rw [hl3]; exact h3, by rw [hl3]; exact a1.trans (h4.pre ((Below.refl _ _).alloc (Nat.le_refl _) _)), r3, by rw [hl3]; exact n3⟩
            rw [hst.out, ← HL1.out, ← hLL.out]; simp
          case measure => simp [intOf]; omega
      · obtain rfl : k = p.subs.length := by omega
        rw [List.take_length] at hLL
        go_wp2
        go_ret
        unfold AppPost
        rw [hLL.out]
        exact ⟨A', c', rfl, ho, ha⟩
end Go.Proofs.Ytkeocnobninaaaa
