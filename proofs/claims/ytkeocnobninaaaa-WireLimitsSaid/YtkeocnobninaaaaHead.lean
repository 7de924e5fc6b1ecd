/- A packet's first byte, and a greeting's flags. -/
import Derived.Test.YtkeocnobninaaaaApp
import Derived.Test.YtkeocnobninaaaaFits
namespace Go.Proofs.Ytkeocnobninaaaa
open Go.RowKit Go.Lib

def flagI (b : Bool) (f : Int) : Int := if b then f else 0
theorem flagI_in (b : Bool) (f : Int) (h : 0 ≤ f) : 0 ≤ flagI b f ∧ flagI b f ≤ f := by unfold flagI; split <;> omega

set_option maxHeartbeats 400000 in
theorem flag_any (b : Bool) (f : Int) (w : World) :
    Calls Try.prog 63 #[.bool b, .int .i64 f] w fun e w' => e = .returned (.int .i64 (flagI b f)) ∧ w = w' := by
  go_enter Try.func63, Try.ntmps63
  cases b <;> (go_wp2; go_ret; exact ⟨rfl, rfl⟩)

theorem flag_q (b : Bool) (f : Int) (w : World) :
    Calls Try.prog 63 #[.bool b, .int .i64 f] w fun e w' => e = .returned (.int .i64 (flagI b f)) ∧ w' = w := (flag_any b f w).mono fun _ _ ⟨h, k⟩ => ⟨h, k.symm⟩

def cflagsP (p : Pk) : Int := flagI p.clean 2 + flagI p.hw 4 + p.wqos * 8 + flagI p.wret 32 + flagI p.hp 64 + flagI p.hu 128
def headP (p : Pk) : Int := p.kind * 16 + (if p.kind == 3 then flagI p.dup 8 + p.qos * 2 + flagI p.ret 1 else if p.kind == 6 || p.kind == 8 || p.kind == 10 then 2 else 0)

set_option maxRecDepth 100000 in
set_option maxHeartbeats 2000000 in
theorem cflags_any (p : Pk) (s : Sv) (w : World) (h0 : 0 ≤ p.wqos) (h1 : p.wqos ≤ 2) :
    Calls Try.prog 95 #[pkV p s] w fun e w' => e = .returned (.int .i64 (cflagsP p)) ∧ Below w.heap.size w w' := by
  obtain ⟨a1, b1⟩ := flagI_in p.clean 2 (by omega)
  obtain ⟨a2, b2⟩ := flagI_in p.hw 4 (by omega)
  obtain ⟨a3, b3⟩ := flagI_in p.wret 32 (by omega)
  obtain ⟨a4, b4⟩ := flagI_in p.hp 64 (by omega)
  obtain ⟨a5, b5⟩ := flagI_in p.hu 128 (by omega)
  go_enter Try.func95, Try.ntmps95
  go_wp2_with fail
  go_quiet ((go_at_call 63; exact Calls.quiet_of_same (flag_q _ _ _)))
  go_wp2_with fail
  go_ret
  exact ⟨rfl, by (repeat (first | assumption | exact Below.refl _ _ | exact (Below.refl _ _).alloc (Nat.le_refl _) _ | (refine thn ?_ (by assumption)) | (refine alB ?_ _) | (refine dwN ?_ _) | (refine Below.drew ?_)))⟩

set_option maxRecDepth 100000 in
set_option maxHeartbeats 4000000 in
theorem head_any (p : Pk) (s : Sv) (w : World) (k0 : 0 ≤ p.kind) (k15 : p.kind ≤ 15) (h0 : 0 ≤ p.qos) (h1 : p.qos ≤ 3) :
    Calls Try.prog 61 #[pkV p s] w fun e w' => e = .returned (.int .u8 (headP p)) ∧ Below w.heap.size w w' := by
  obtain ⟨a1, b1⟩ := flagI_in p.dup 8 (by omega)
  obtain ⟨a2, b2⟩ := flagI_in p.ret 1 (by omega)
  rcases e3 : (p.kind == 3) with _ | _
  · rcases e6 : (p.kind == 6) with _ | _ <;> rcases e8 : (p.kind == 8) with _ | _ <;> rcases e10 : (p.kind == 10) with _ | _
    all_goals
      go_enter Try.func61, Try.ntmps61
      go_wp2
      go_ret
      exact ⟨by unfold headP; simp [*], by (repeat (first | assumption | exact Below.refl _ _ | exact (Below.refl _ _).alloc (Nat.le_refl _) _ | (refine thn ?_ (by assumption)) | (refine alB ?_ _) | (refine dwN ?_ _) | (refine Below.drew ?_)))⟩
  · go_enter Try.func61, Try.ntmps61
    go_wp2_with fail
    go_quiet ((go_at_call 63; exact Calls.quiet_of_same (flag_q _ _ _)))
    go_wp2_with fail
    go_ret
    exact ⟨by unfold headP; simp [*], by (repeat (first | assumption | exact Below.refl _ _ | exact (Below.refl _ _).alloc (Nat.le_refl _) _ | (refine thn ?_ (by assumption)) | (refine alB ?_ _) | (refine dwN ?_ _) | (refine Below.drew ?_)))⟩
end Go.Proofs.Ytkeocnobninaaaa
