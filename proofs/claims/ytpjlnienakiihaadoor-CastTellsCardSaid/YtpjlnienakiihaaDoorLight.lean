/- Which packets may be asked: hubbubhelp.LightPacket. -/
import Derived.Test.YtpjlnienakiihaaDoorOpen
namespace Go.Proofs.YtpjlnienakiihaaDoor
open Go.RowKit Go.Lib

def lsum (p : Pk) : Int := (p.top.size : Int) + p.pay.length + p.cli.size + p.user.size + p.pass.length + p.wtop.size + p.wpay.length
def lightP (p : Pk) : Bool := decide (p.subs.length ≤ 10) && decide (p.codes.length ≤ 20) && decide (lsum p ≤ 300) && p.subs.all fun x => decide (x.1.size ≤ 60)
theorem light_ok {p : Pk} (h : PkIn p) (hl : lightP p = true) : PkOk p := by
  unfold lightP lsum at hl
  simp only [Bool.and_eq_true, decide_eq_true_eq, List.all_eq_true] at hl
  obtain ⟨⟨⟨h1, h2⟩, h3⟩, h4⟩ := hl
  exact ⟨h.kind, h.qos, h.id, h.level, h.keep, h.wqos, h.code, by omega, by omega, by omega, by omega, by omega, by omega, by omega, by omega, by omega, fun x hx => ⟨by have := h4 x hx; omega, (h.sub x hx).2⟩, h.cod⟩

theorem all_take' {α : Type} (f : α → Bool) (l : List α) (k : Nat) (h : k < l.length) : (l.take (k + 1)).all f = ((l.take k).all f && f l[k]) := by
  rw [List.take_succ_eq_append_getElem h, List.all_append]; simp
theorem all_false' {α : Type} (f : α → Bool) (l : List α) (k : Nat) (h : k < l.length) (hf : f l[k] = false) : l.all f = false := by
  rw [List.all_eq_false]; exact ⟨l[k], List.getElem_mem h, by simp [hf]⟩

set_option maxRecDepth 100000 in
set_option maxHeartbeats 4000000 in
theorem light_any (p : Pk) (s : Sv) (B : Nat) (w : World) (hp : PkAt w B p s) (hB : B ≤ w.heap.size) (hi : PkIn p) (hr : PkReach p) :
    Calls Tryd.prog 7 #[pkV p s] w fun e w' => e = .returned (.bool (lightP p)) ∧ Below w.heap.size w w' := by
  have b1 := hr.top
  have b2 := hr.pay
  have b3 := hr.cli
  have b4 := hr.user
  have b5 := hr.pass
  have b6 := hr.wtop
  have b7 := hr.wpay
  have b8 := hi.subs
  have b9 := hi.codes
  have HS := Lib.hid hp.subs
  unfold reachBytes at b1 b2 b3 b4 b5 b6 b7
  unfold maxLen at b8 b9
  clear hi hp hr
  by_cases h1 : 10 < p.subs.length
  · have R : Hid (lightP p = false) := Lib.hid (by unfold lightP; simp; omega)
    go_enter Tryd.func7, Tryd.ntmps7
    go_wp2
    go_ret
    exact ⟨ret_bool R.out.symm, by (repeat (first | assumption | exact Below.refl _ _ | exact (Below.refl _ _).alloc (Nat.le_refl _) _ | (refine thn ?_ (by assumption)) | (refine alB ?_ _) | (refine dwN ?_ _) | (refine Below.drew ?_)))⟩
  · by_cases h2 : 20 < p.codes.length
    · have R : Hid (lightP p = false) := Lib.hid (by unfold lightP; simp; omega)
      go_enter Tryd.func7, Tryd.ntmps7
      go_wp2
      go_ret
      exact ⟨ret_bool R.out.symm, by (repeat (first | assumption | exact Below.refl _ _ | exact (Below.refl _ _).alloc (Nat.le_refl _) _ | (refine thn ?_ (by assumption)) | (refine alB ?_ _) | (refine dwN ?_ _) | (refine Below.drew ?_)))⟩
    · by_cases h3 : 300 < (p.top.size : Int) + p.pay.length + p.cli.size + p.user.size + p.pass.length + p.wtop.size + p.wpay.length
      · have R : Hid (lightP p = false) := Lib.hid (by unfold lightP lsum; simp; omega)
        go_enter Tryd.func7, Tryd.ntmps7
        go_wp2
        go_ret
        exact ⟨ret_bool R.out.symm, by (repeat (first | assumption | exact Below.refl _ _ | exact (Below.refl _ _).alloc (Nat.le_refl _) _ | (refine thn ?_ (by assumption)) | (refine alB ?_ _) | (refine dwN ?_ _) | (refine Below.drew ?_)))⟩
      · have R : Hid (lightP p = p.subs.all fun x => decide (x.1.size ≤ 60)) := Lib.hid (by
          unfold lightP lsum
          rw [decide_eq_true (show p.subs.length ≤ 10 by omega), decide_eq_true (show p.codes.length ≤ 20 by omega), decide_eq_true (show _ ≤ (300 : Int) by omega)]; rfl)
        go_enter Tryd.func7, Tryd.ntmps7
        go_wp2
        go_loopw [3] (fun i wr => ∃ k : Nat, k ≤ p.subs.length ∧ i = .int .i64 k ∧ Below w.heap.size w wr ∧ wr.heap[w.heap.size]? = some (.cells (pkC p s) 28 (0, 0)) ∧ Hid (((p.subs.take k).all fun x => decide (x.1.size ≤ 60)) = true)) (fun i _ => p.subs.length - (intOf i).toNat)
        case atStart => exact ⟨0, Nat.zero_le _, rfl, by (repeat (first | assumption | exact Below.refl _ _ | exact (Below.refl _ _).alloc (Nat.le_refl _) _ | (refine thn ?_ (by assumption)) | (refine alB ?_ _) | (refine dwN ?_ _) | (refine Below.drew ?_))), heap_alloc_new _ _, Lib.hid rfl⟩
        case round =>
          obtain ⟨k, hk, rfl, hb, hr, hal⟩ := hrel
          have C := fun j => cell_of_row wr w.heap.size j _ _ _ hr
          by_cases hlt : k < p.subs.length
          · obtain ⟨ad, hA, hkc, c1, c2⟩ := (HS.out.to hB hb).at_ k hlt
            have hst := Lib.hid (all_take' (fun x : ByteArray × Int => decide (x.1.size ≤ 60)) p.subs k hlt)
            have hfl := Lib.hid (all_false' (fun x : ByteArray × Int => decide (x.1.size ≤ 60)) p.subs k hlt)
            generalize p.subs[k].1 = x at *
            have HR := Lib.hid hr
            clear hr
            by_cases hx : 60 < x.size
            · go_wp2_with fail
              go_ret
              exact ⟨ret_bool (by rw [R.out]; exact (hfl.out (decide_eq_false (by omega))).symm), by (repeat (first | assumption | exact Below.refl _ _ | exact (Below.refl _ _).alloc (Nat.le_refl _) _ | (refine thn ?_ (by assumption)) | (refine alB ?_ _) | (refine dwN ?_ _) | (refine Below.drew ?_)))⟩
            · go_wp2_with fail
              go_roundw
              case rel => exact ⟨k + 1, hlt, by go_num, hb, HR.out, Lib.hid (by rw [hst.out, hal.out]; simp; omega)⟩
              case measure => simp [intOf]; omega
          · go_wp2_with fail
            go_ret
            exact ⟨ret_bool (by rw [R.out]; have e := hal.out; rw [List.take_of_length_le (by omega)] at e; exact e.symm), hb⟩

end Go.Proofs.YtpjlnienakiihaaDoor
