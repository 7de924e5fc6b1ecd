/- The document's test of two packets that are the same: hubbubref3.Same says yes. -/
import Derived.Test.YtpjlnienakiihaaDoorKnown4
import Derived.Deep.QuietTactic
import Derived.BigQuiet
namespace Go.Proofs.YtpjlnienakiihaaDoor
open Go.RowKit Go.Lib

set_option maxRecDepth 100000 in
set_option maxHeartbeats 2000000 in
theorem rsw_yes (p : Pk) (s t : Sv) (B : Nat) (w : World) (hp : PkAt w B p s) (hq : PkAt w B p t) (hB : B ≤ w.heap.size) :
    Calls Tryd.prog 25 #[wlV p s, wlV p t] w fun e w' => e = .returned (.bool true) ∧ Below w.heap.size w w' := by
  have H1 := Lib.hid hp.wpay
  have H2 := Lib.hid hq.wpay
  clear hp hq
  have c1 : ∀ W, Below w.heap.size w W → (convert 22 9 (.slice s.wA p.wpay.length s.wC)).run Tryd.prog W = .ok (.string ⟨p.wpay.toArray⟩) W := fun W hW => (H1.out.to hB hW).conv
  have c2 : ∀ W, Below w.heap.size w W → (convert 22 9 (.slice t.wA p.wpay.length t.wC)).run Tryd.prog W = .ok (.string ⟨p.wpay.toArray⟩) W := fun W hW => (H2.out.to hB hW).conv
  have d1 := c1 _ (((Below.refl _ _).alloc (Nat.le_refl _) (.cells #[.string p.wtop, .slice s.wA p.wpay.length s.wC, .int .i64 p.wqos, .bool p.wret] 24)).alloc (by simp) (.cells #[.string p.wtop, .slice t.wA p.wpay.length t.wC, .int .i64 p.wqos, .bool p.wret] 24))
  have d2 := c2 _ (((Below.refl _ _).alloc (Nat.le_refl _) (.cells #[.string p.wtop, .slice s.wA p.wpay.length s.wC, .int .i64 p.wqos, .bool p.wret] 24)).alloc (by simp) (.cells #[.string p.wtop, .slice t.wA p.wpay.length t.wC, .int .i64 p.wqos, .bool p.wret] 24))
  clear c1 c2
  go_enter Tryd.func25, Tryd.ntmps25
  go_wp2
  all_goals (go_ret; exact ⟨ret_bool (by simp [*]), by (repeat (first | assumption | exact Below.refl _ _ | exact (Below.refl _ _).alloc (Nat.le_refl _) _ | (refine thn ?_ (by assumption)) | (refine alB ?_ _) | (refine dwN ?_ _) | (refine Below.drew ?_)))⟩)

set_option maxRecDepth 100000 in
set_option maxHeartbeats 4000000 in
theorem refSame_yes (p : Pk) (s t : Sv) (B : Nat) (w : World) (hp : PkAt w B p s) (hq : PkAt w B p t) (hB : B ≤ w.heap.size) (ok : PkOk p) :
    Calls Tryd.prog 14 #[pkV p s, pkV p t] w fun e w' => e = .returned (.bool true) ∧ Below w.heap.size w w' := by
  have H1 := Lib.hid hp
  have H2 := Lib.hid hq
  have OK := Lib.hid ok
  have l1 := ok.subs
  have l2 := ok.codes
  clear hp hq ok
  have bw : Below w.heap.size w ((w.alloc (.cells (pkC p s) 28)).alloc (.cells (pkC p t) 28)) := by (repeat (first | assumption | exact Below.refl _ _ | exact (Below.refl _ _).alloc (Nat.le_refl _) _ | (refine thn ?_ (by assumption)) | (refine alB ?_ _) | (refine dwN ?_ _) | (refine Below.drew ?_)))
  have d1 := (H1.out.pay.to hB bw).conv
  have d2 := (H2.out.pay.to hB bw).conv
  have d3 := (H1.out.pass.to hB bw).conv
  have d4 := (H2.out.pass.to hB bw).conv
  have BW := Lib.hid bw
  clear bw
  go_enter Tryd.func14, Tryd.ntmps14
  go_wp2_with (first
    | ((with_reducible show wpList _ _ _ ({ dst := _, op := Op.load 24 _, type := _, pos := _, after := _, guard := _ } :: _) _ _); refine ld_wl (w.heap.size) p s (by rfl) (by rfl) _ _ (by (first | assumption | exact heap_alloc_last _ _ | (repeat (first | assumption | exact heap_alloc_last _ _ | exact heap_last2 _ _ _ | refine heap_keep ?_ | refine heap_below (by assumption) ?_)))) ?_)
    | ((with_reducible show wpList _ _ _ ({ dst := _, op := Op.load 24 _, type := _, pos := _, after := _, guard := _ } :: _) _ _); refine ld_wl ((w.heap.size + 1)) p t (by rfl) (by rfl) _ _ (by (first | assumption | exact heap_alloc_last _ _ | (repeat (first | assumption | exact heap_alloc_last _ _ | exact heap_last2 _ _ _ | refine heap_keep ?_ | refine heap_below (by assumption) ?_)))) ?_))
  refine (rsw_yes p s t B _ (H1.out.to hB BW.out) (H2.out.to hB BW.out) (by simp; omega)).mono ?_
  rintro e w2 ⟨rfl, hb2⟩
  have r1 := heap_below hb2 (heap_alloc2_old w _ _)
  have r2 := heap_below hb2 (heap_alloc2_new w _ _)
  have b2 : Below w.heap.size w w2 := by (repeat (first | assumption | exact Below.refl _ _ | exact (Below.refl _ _).alloc (Nat.le_refl _) _ | (refine thn ?_ (by assumption)) | (refine alB ?_ _) | (refine dwN ?_ _) | (refine Below.drew ?_)))
  clear hb2 d1 d2 d3 d4
  go_wp2_with fail
  go_loopw [5] (fun i wr => ∃ k : Nat, k ≤ p.subs.length ∧ i = .int .i64 k ∧ Below w.heap.size w wr ∧ wr.heap[w.heap.size]? = some (.cells (pkC p s) 28 (0, 0)) ∧ wr.heap[w.heap.size + 1]? = some (.cells (pkC p t) 28 (0, 0))) (fun i _ => p.subs.length - (intOf i).toNat)
  case atStart => exact ⟨0, Nat.zero_le _, rfl, b2, r1, r2⟩
  case round =>
    obtain ⟨k, hk, rfl, hb, h1, h2⟩ := hrel
    have C1 := row_cells h1
    have C2 := row_cells h2
    by_cases hlt : k < p.subs.length
    · obtain ⟨ad, hA, hkc, c1, c2⟩ := (H1.out.subs.to hB hb).at_ k hlt
      obtain ⟨ad', hA', hkc', c1', c2'⟩ := (H2.out.subs.to hB hb).at_ k hlt
      generalize p.subs[k].1 = x at *
      generalize p.subs[k].2 = y at *
      have R1 := Lib.hid h1
      have R2 := Lib.hid h2
      clear r1 r2 h1 h2
      go_wp2_with fail
      go_quiet (fail)
      go_wp2_with fail
      go_roundw
      case rel => exact ⟨k + 1, hlt, by go_num, by (repeat (first | assumption | exact Below.refl _ _ | exact (Below.refl _ _).alloc (Nat.le_refl _) _ | (refine thn ?_ (by assumption)) | (refine alB ?_ _) | (refine dwN ?_ _) | (refine Below.drew ?_))), R1.out, R2.out⟩
      case measure => simp [intOf]; omega
    · have R1 := Lib.hid h1
      have R2 := Lib.hid h2
      clear r1 r2 h1 h2
      go_wp2_with fail
      go_loopw [6] (fun i wr' => ∃ k : Nat, k ≤ p.codes.length ∧ i = .int .i64 k ∧ Below w.heap.size w wr' ∧ wr'.heap[w.heap.size]? = some (.cells (pkC p s) 28 (0, 0)) ∧ wr'.heap[w.heap.size + 1]? = some (.cells (pkC p t) 28 (0, 0))) (fun i _ => p.codes.length - (intOf i).toNat)
      case atStart => exact ⟨0, Nat.zero_le _, rfl, hb, R1.out, R2.out⟩
      case round =>
        clear R1 R2 C1 C2 hb
        obtain ⟨j, hj, rfl, hb, h1, h2⟩ := hrel
        have C1 := row_cells h1
        have C2 := row_cells h2
        by_cases hlt2 : j < p.codes.length
        · obtain ⟨ad, hA, hkc, c1⟩ := (H1.out.codes.to hB hb).at_ j hlt2
          obtain ⟨ad', hA', hkc', c1'⟩ := (H2.out.codes.to hB hb).at_ j hlt2
          generalize p.codes[j] = x at *
          have R1 := Lib.hid h1
          have R2 := Lib.hid h2
          clear h1 h2
          go_wp2_with fail
          go_quiet (fail)
          go_wp2_with fail
          go_roundw
          case rel => exact ⟨j + 1, hlt2, by go_num, by (repeat (first | assumption | exact Below.refl _ _ | exact (Below.refl _ _).alloc (Nat.le_refl _) _ | (refine thn ?_ (by assumption)) | (refine alB ?_ _) | (refine dwN ?_ _) | (refine Below.drew ?_))), R1.out, R2.out⟩
          case measure => simp [intOf]; omega
        · clear h1 h2
          go_wp2_with fail
          all_goals
            go_ret
            exact ⟨ret_bool (by simp [*]), hb⟩

end Go.Proofs.YtpjlnienakiihaaDoor
