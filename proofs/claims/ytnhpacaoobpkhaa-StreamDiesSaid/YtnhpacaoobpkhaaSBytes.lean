/- The help's bytes of a right packet. -/
import Derived.Test.YtnhpacaoobpkhaaGRAny
import Derived.Test.YtnhpacaoobpkhaaSeat
namespace Go.Proofs.Ytnhpacaoobpkhaa
open Go.RowKit Go.Lib
set_option linter.unusedVariables false
set_option linter.unusedSimpArgs false

theorem lite_right {p : Pk} (h : rightP p = true) : Lite p := by
  have f := right_f p h
  exact ⟨by have := f.pay; omega, f.subs, f.subsL, f.codes⟩
set_option maxRecDepth 100000 in
set_option maxHeartbeats 4000000 in
theorem sbytes_any (p : Pk) (s : Sv) (w : World) (hp : PkAt w w.heap.size p s) (hn : NilOk s) (g : GoodPk p) :
    Calls Try.prog 24 #[pkV p s] w (NewPost w (encP p)) := by
  have hb : Below w.heap.size w (w.alloc (.cells (pkC p s) 28)) := (Below.refl _ _).alloc (Nat.le_refl _) _
  have HP := Lib.hid (dput_all_yes p s _ (w.alloc (.cells (pkC p s) 28)) (hp.on hb) (Nat.le_refl _) g.1 hn.p (lite_right g.2) g.2)
  have HB := Lib.hid hb
  clear hb hp hn g
  go_enter Try.func24, Try.ntmps24
  go_wp2_with ((with_reducible show wpList _ _ _ ({ dst := _, op := Op.load 28 _, type := _, pos := _, after := _, guard := _ } :: _) _ _); refine ld_pk (w.heap.size) (by rfl) (by rfl) (pkC p s) _ _ (by exact heap_alloc_last _ _) (by rfl) ?_)
  refine HP.out.mono ?_
  rintro e w2 ⟨A, c, rfl, o2, hb2⟩
  have O2 := Lib.hid o2
  have B2 := Lib.hid hb2
  clear o2 hb2
  go_wp2_with fail
  go_ret
  exact ⟨A, c, rfl, own_mono3 O2.out (by simp), thn HB.out B2.out⟩
end Go.Proofs.Ytnhpacaoobpkhaa
