/- The document's test of a packet: hubbubref3.Right where a password stands behind a user. -/
import Derived.Test.YtghcgdjpmgmaaaaGRR
namespace Go.Proofs.Ytghcgdjpmgmaaaa
open Go.RowKit Go.Lib
set_option linter.unusedVariables false

set_option maxRecDepth 100000 in
set_option maxHeartbeats 8000000 in
theorem rright_pw (p : Pk) (s : Sv) (B : Nat) (w : World) (hp : PkAt w B p s) (hB : B ≤ w.heap.size) (ok : PkOk p)
    (hc1 : rc1 p = true) (e1 : inI p.level 0 255 = true) (e2 : inI p.keep 0 65535 = true) (e3 : p.hp = true) (e4 : p.hu = true) (e5 : inI p.code 0 5 = true) (e6 : p.pres = false) (q8 : (p.kind == 8) = false) (q10 : (p.kind == 10) = false) (q9 : (p.kind == 9) = false) (hs : p.subs.length = 0) (hc : p.codes.length = 0)
    (hbody : ∀ W, PkAt W B p s → B ≤ W.heap.size → Calls Try.prog 39 #[pkV p s] W (NewPost W (bodyL p))) :
    Calls Try.prog 20 #[pkV p s] w fun e w' => e = .returned (.bool (decide (lenP p ≤ 8192))) ∧ Below w.heap.size w w' := by
  obtain ⟨pA, pC, wA, wC, uA, uC, sA, sC, cA, cC⟩ := s
  have HP := Lib.hid hp
  have OK := Lib.hid ok
  have HBD := Lib.hid hbody
  have c8 := ok.subs
  have c9 := ok.codes
  clear hbody
  go_enter Try.func20, Try.ntmps20
  go_upto_region 1 with fail
  refine rr1_main (RRT.ops ⟨by kernel_rfl, by kernel_rfl, by kernel_rfl, by kernel_rfl, by kernel_rfl, by kernel_rfl, by kernel_rfl, by kernel_rfl, by kernel_rfl, by kernel_rfl, by kernel_rfl, by kernel_rfl, by kernel_rfl, by kernel_rfl, by kernel_rfl, by kernel_rfl, by kernel_rfl, by kernel_rfl, by kernel_rfl, by kernel_rfl, by kernel_rfl, by kernel_rfl, by kernel_rfl, by kernel_rfl, by kernel_rfl, by kernel_rfl, by kernel_rfl, by kernel_rfl, by kernel_rfl, by kernel_rfl, by kernel_rfl, by kernel_rfl, by kernel_rfl, by kernel_rfl, by kernel_rfl, by kernel_rfl, by kernel_rfl, by kernel_rfl, by kernel_rfl, by kernel_rfl, by kernel_rfl, by kernel_rfl, by kernel_rfl, by kernel_rfl, by kernel_rfl, by kernel_rfl, by kernel_rfl, by kernel_rfl, by kernel_rfl, by kernel_rfl, by kernel_rfl, by kernel_rfl, by kernel_rfl, by kernel_rfl, by kernel_rfl, by kernel_rfl, by kernel_rfl, by kernel_rfl, by kernel_rfl, by kernel_rfl, by kernel_rfl, by kernel_rfl, by kernel_rfl, by kernel_rfl, by kernel_rfl, by kernel_rfl, by kernel_rfl, by kernel_rfl, by kernel_rfl, by kernel_rfl, by kernel_rfl, by kernel_rfl⟩) (by kernel_rfl) (rd_all (by kernel_rfl)) (by kernel_rfl) ⟨by kernel_rfl, by kernel_rfl, by kernel_rfl⟩ p ⟨pA, pC, wA, wC, uA, uC, sA, sC, cA, cC⟩ B w hp hB ok (fun c a a' w h1 h2 => ⟨h1.trans h2.1, h2.2⟩) _ _ ⟨⟨by rfl, fun x hx => ?_⟩, by rfl⟩ ⟨heap_alloc_last _ _, alB (Below.refl _ _) _⟩ ?_
  · simp only [List.mem_cons, List.not_mem_nil, or_false] at hx
    rcases hx with rfl | rfl | rfl <;> rfl
  clear hp ok
  intro a W F hS
  generalize z1 : (!rc1 p) = b1 at F
  obtain ⟨g, hg⟩ := frame_r a p ⟨pA, pC, wA, wC, uA, uC, sA, sC, cA, cC⟩ w.heap.size _ F
  subst hg
  clear F
  have ROW := Lib.hid hS.1
  have BW := hS.2
  have RC := row_cells hS.1
  clear hS
  rcases b1 with _ | _
  rotate_left 1
  · go_wp2_with fail
    go_ret
    exact absurd (hc1.symm.trans (show rc1 p = false by simpa using z1)) (by decide)
  have HL := Lib.hid (body_len p)
  clear z1 hc1
  go_wp2_with (go_at_call 44; refine (rin_any _ _ _ _).mono ?_; rintro e w' ⟨rfl, rfl⟩)
  go_loopw [3] (fun i wr => i = .int .i64 0 ∧ wr = W) (fun _ _ => 0)
  case atStart => exact ⟨rfl, rfl⟩
  case round =>
    obtain ⟨rfl, rfl⟩ := hrel
    go_wp2_with fail
    go_loopw [4] (fun i wr' => i = .int .i64 0 ∧ wr' = wr) (fun _ _ => 0)
    case atStart => exact ⟨rfl, rfl⟩
    case round =>
      obtain ⟨rfl, rfl⟩ := hrel
      go_wp2_with ((with_reducible show wpList _ _ _ ({ dst := _, op := Op.load 28 _, type := _, pos := _, after := _, guard := _ } :: _) _ _); refine ld_pk (w.heap.size) (by rfl) (by rfl) (pkC p ⟨pA, pC, wA, wC, uA, uC, sA, sC, cA, cC⟩) _ _ (by exact ROW.out) (by rfl) ?_)
      refine (HBD.out _ (HP.out.to hB BW) (Nat.le_trans hB BW.size)).mono ?_
      rintro e w2 ⟨A, c, rfl, ho, hb2⟩
      have hle : ((bodyL p).length : Int) = lenP p := HL.out
      generalize (bodyL p).length = n at *
      have HLe := Lib.hid hle
      clear ho HL hle
      go_wp2_with fail
      go_ret
      exact ⟨ret_bool (by rw [← HLe.out]), thn BW hb2⟩
end Go.Proofs.Ytghcgdjpmgmaaaa

/- The document's test of a packet: hubbubref3.Right of an answer that says a session was there. -/
namespace Go.Proofs.Ytghcgdjpmgmaaaa
open Go.RowKit Go.Lib
set_option linter.unusedVariables false

set_option maxRecDepth 100000 in
set_option maxHeartbeats 8000000 in
theorem rright_pres (p : Pk) (s : Sv) (B : Nat) (w : World) (hp : PkAt w B p s) (hB : B ≤ w.heap.size) (ok : PkOk p)
    (hc1 : rc1 p = true) (e1 : inI p.level 0 255 = true) (e2 : inI p.keep 0 65535 = true) (e3 : p.hp = false) (e5 : inI p.code 0 5 = true) (e6 : p.pres = true) (e7 : (p.code != 0) = false) (q8 : (p.kind == 8) = false) (q10 : (p.kind == 10) = false) (q9 : (p.kind == 9) = false) (hs : p.subs.length = 0) (hc : p.codes.length = 0)
    (hbody : ∀ W, PkAt W B p s → B ≤ W.heap.size → Calls Try.prog 39 #[pkV p s] W (NewPost W (bodyL p))) :
    Calls Try.prog 20 #[pkV p s] w fun e w' => e = .returned (.bool (decide (lenP p ≤ 8192))) ∧ Below w.heap.size w w' := by
  obtain ⟨pA, pC, wA, wC, uA, uC, sA, sC, cA, cC⟩ := s
  have HP := Lib.hid hp
  have OK := Lib.hid ok
  have HBD := Lib.hid hbody
  have c8 := ok.subs
  have c9 := ok.codes
  clear hbody
  go_enter Try.func20, Try.ntmps20
  go_upto_region 1 with fail
  refine rr1_main (RRT.ops ⟨by kernel_rfl, by kernel_rfl, by kernel_rfl, by kernel_rfl, by kernel_rfl, by kernel_rfl, by kernel_rfl, by kernel_rfl, by kernel_rfl, by kernel_rfl, by kernel_rfl, by kernel_rfl, by kernel_rfl, by kernel_rfl, by kernel_rfl, by kernel_rfl, by kernel_rfl, by kernel_rfl, by kernel_rfl, by kernel_rfl, by kernel_rfl, by kernel_rfl, by kernel_rfl, by kernel_rfl, by kernel_rfl, by kernel_rfl, by kernel_rfl, by kernel_rfl, by kernel_rfl, by kernel_rfl, by kernel_rfl, by kernel_rfl, by kernel_rfl, by kernel_rfl, by kernel_rfl, by kernel_rfl, by kernel_rfl, by kernel_rfl, by kernel_rfl, by kernel_rfl, by kernel_rfl, by kernel_rfl, by kernel_rfl, by kernel_rfl, by kernel_rfl, by kernel_rfl, by kernel_rfl, by kernel_rfl, by kernel_rfl, by kernel_rfl, by kernel_rfl, by kernel_rfl, by kernel_rfl, by kernel_rfl, by kernel_rfl, by kernel_rfl, by kernel_rfl, by kernel_rfl, by kernel_rfl, by kernel_rfl, by kernel_rfl, by kernel_rfl, by kernel_rfl, by kernel_rfl, by kernel_rfl, by kernel_rfl, by kernel_rfl, by kernel_rfl, by kernel_rfl, by kernel_rfl, by kernel_rfl, by kernel_rfl⟩) (by kernel_rfl) (rd_all (by kernel_rfl)) (by kernel_rfl) ⟨by kernel_rfl, by kernel_rfl, by kernel_rfl⟩ p ⟨pA, pC, wA, wC, uA, uC, sA, sC, cA, cC⟩ B w hp hB ok (fun c a a' w h1 h2 => ⟨h1.trans h2.1, h2.2⟩) _ _ ⟨⟨by rfl, fun x hx => ?_⟩, by rfl⟩ ⟨heap_alloc_last _ _, alB (Below.refl _ _) _⟩ ?_
  · simp only [List.mem_cons, List.not_mem_nil, or_false] at hx
    rcases hx with rfl | rfl | rfl <;> rfl
  clear hp ok
  intro a W F hS
  generalize z1 : (!rc1 p) = b1 at F
  obtain ⟨g, hg⟩ := frame_r a p ⟨pA, pC, wA, wC, uA, uC, sA, sC, cA, cC⟩ w.heap.size _ F
  subst hg
  clear F
  have ROW := Lib.hid hS.1
  have BW := hS.2
  have RC := row_cells hS.1
  clear hS
  rcases b1 with _ | _
  rotate_left 1
  · go_wp2_with fail
    go_ret
    exact absurd (hc1.symm.trans (show rc1 p = false by simpa using z1)) (by decide)
  have HL := Lib.hid (body_len p)
  clear z1 hc1
  go_wp2_with (go_at_call 44; refine (rin_any _ _ _ _).mono ?_; rintro e w' ⟨rfl, rfl⟩)
  go_loopw [3] (fun i wr => i = .int .i64 0 ∧ wr = W) (fun _ _ => 0)
  case atStart => exact ⟨rfl, rfl⟩
  case round =>
    obtain ⟨rfl, rfl⟩ := hrel
    go_wp2_with fail
    go_loopw [4] (fun i wr' => i = .int .i64 0 ∧ wr' = wr) (fun _ _ => 0)
    case atStart => exact ⟨rfl, rfl⟩
    case round =>
      obtain ⟨rfl, rfl⟩ := hrel
      go_wp2_with ((with_reducible show wpList _ _ _ ({ dst := _, op := Op.load 28 _, type := _, pos := _, after := _, guard := _ } :: _) _ _); refine ld_pk (w.heap.size) (by rfl) (by rfl) (pkC p ⟨pA, pC, wA, wC, uA, uC, sA, sC, cA, cC⟩) _ _ (by exact ROW.out) (by rfl) ?_)
      refine (HBD.out _ (HP.out.to hB BW) (Nat.le_trans hB BW.size)).mono ?_
      rintro e w2 ⟨A, c, rfl, ho, hb2⟩
      have hle : ((bodyL p).length : Int) = lenP p := HL.out
      generalize (bodyL p).length = n at *
      have HLe := Lib.hid hle
      clear ho HL hle
      go_wp2_with fail
      go_ret
      exact ⟨ret_bool (by rw [← HLe.out]), thn BW hb2⟩
end Go.Proofs.Ytghcgdjpmgmaaaa
