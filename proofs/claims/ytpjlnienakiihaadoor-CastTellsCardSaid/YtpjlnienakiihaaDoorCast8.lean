/- The same of whatever Any told; the law's own names and its known answers. -/
import Derived.Test.YtpjlnienakiihaaDoorCast7
namespace Go.Proofs.YtpjlnienakiihaaDoor
open Go.RowKit Go.Lib

theorem i64_0 : i64In 0 := ⟨by decide, by decide⟩
theorem pk0_ok : PkOk pk0 := ⟨i64_0, i64_0, i64_0, i64_0, i64_0, i64_0, i64_0, by decide, by decide, by decide, by decide, by decide, by decide, by decide, by decide, by decide, by simp [pk0], by simp [pk0]⟩
theorem nil_bytes (w : World) (B : Nat) : BytesAt w B (.slice none 0 0) [] := ⟨none, 0, rfl, by simp, by decide, fun _ => rfl, by simp, by simp⟩
theorem pk0_at (w : World) (B : Nat) : PkAt w B pk0 sv0 :=
  ⟨nil_bytes w B, nil_bytes w B, nil_bytes w B, ⟨none, 0, rfl, by simp [pk0], by decide, fun _ => rfl, by simp [pk0], by simp [pk0]⟩, ⟨none, 0, rfl, by simp [pk0], by decide, fun _ => rfl, by simp [pk0], by simp [pk0]⟩⟩
theorem sv0_nil : NilOk sv0 := ⟨fun _ => rfl, fun _ => rfl, fun _ => rfl, fun _ => rfl, fun _ => rfl⟩
theorem pk0_own (w : World) (B : Nat) : PkOwn w B pk0 sv0 := ⟨World.ownsRow_nil _ _ _ _, World.ownsRow_nil _ _ _ _, World.ownsRow_nil _ _ _ _, World.ownsRow_nil _ _ _ _, World.ownsRow_nil _ _ _ _⟩
theorem uw_ok {p : Pk} (h : PkOk p) : PkOk (uwP p) := by unfold uwP; split; exact pk0_ok; exact h
theorem uw_at {w : World} {B : Nat} {p : Pk} {s : Sv} (h : PkAt w B p s) : PkAt w B (uwP p) (uwS p s) := by unfold uwP uwS; split; exact pk0_at w B; exact h
theorem uw_nil {p : Pk} {s : Sv} (h : NilOk s) : NilOk (uwS p s) := by unfold uwS; split; exact sv0_nil; exact h

theorem Packet_any (p : Pk) (s : Sv) (B : Nat) (w : World) (hp : PkAt w B p s) (hB : B ≤ w.heap.size) (ok : PkOk p) (hn : NilOk s) :
    Calls Tryd.prog 10 #[wrapV p s] w (PacketPost w (uwP p) (formK p.kind)) :=
  Packet_of _ _ _ _ B w (fun W => unwrap_any p s W) (uw_at hp) hB (uw_ok ok) (uw_nil hn)
theorem Name_any (p : Pk) (s : Sv) (w : World) (hN : NamesAt w) :
    Calls Tryd.prog 13 #[wrapV p s] w fun e w' => e = .returned (.string (nameB (formK p.kind))) ∧ Below w.heap.size w w' :=
  Name_of _ _ _ rfl (pk_one _ _) w hN (fun W => unwrap_any p s W) (form_cases p.kind)

/-- What Try finds. -/
def tyP (p : Pk) : Pk := if formK p.kind == 1 then p else pk0
def TryPost2 (w : World) (p : Pk) (e : Ending) (w' : World) : Prop :=
  ∃ s' : Sv, e = .returned (.tuple #[pkV (tyP p) s', .bool (formK p.kind == 1)]) ∧ PkOwn w' w.heap.size (tyP p) s' ∧ Below w.heap.size w w'
theorem Try_none (x : Value) (p : Pk) (w : World) (hf : (formK p.kind == 1) = false) (h : ∀ W, Calls Tryd.prog 31 #[x] W (PanicPost W)) : Calls Tryd.prog 11 #[x] w (TryPost2 w p) := by
  refine (try_no x w h).mono ?_
  rintro e w' ⟨rfl, hb⟩
  unfold TryPost2 tyP
  rw [hf]
  exact ⟨sv0, rfl, pk0_own _ _, hb⟩
theorem Try_any (p : Pk) (s : Sv) (B : Nat) (w : World) (hp : PkAt w B p s) (hB : B ≤ w.heap.size) (ok : PkOk p) (hn : NilOk s) :
    Calls Tryd.prog 11 #[wrapV p s] w (TryPost2 w p) := by
  rcases form_cases p.kind with h | h | h | h | h | h
  · unfold wrapV; rw [h]; exact Try_none _ p w (by rw [h]; rfl) (fun W => claim_no _ _ (by decide) W)
  · unfold wrapV; rw [h]
    refine (try_yes p s B w hp hB ok hn).mono ?_
    rintro e w' ⟨s', rfl, ho, hb⟩
    unfold TryPost2 tyP
    rw [h]
    exact ⟨s', rfl, ho, hb⟩
  · unfold wrapV; rw [h]; exact Try_none _ p w (by rw [h]; rfl) (fun W => claim_no _ _ (by decide) W)
  · unfold wrapV; rw [h]; exact Try_none _ p w (by rw [h]; rfl) (fun W => claim_no _ _ (by decide) W)
  · unfold wrapV; rw [h]; exact Try_none _ p w (by rw [h]; rfl) (fun W => claim_no _ _ (by decide) W)
  · unfold wrapV; rw [h]; exact Try_none _ p w (by rw [h]; rfl) (fun W => claim_nil W)

set_option maxRecDepth 100000 in
set_option maxHeartbeats 2000000 in
theorem lawName_any (k : Int) (w : World) :
    Calls Tryd.prog 12 #[.int .i64 k] w fun e w' => e = .returned (.string (nameB (formK k))) ∧ w = w' := by
  rcases kf k with ⟨k1, k2, k3, k4, k5, k6, k7, k8, k9, k10, k11, k12, k13, k14⟩ | ⟨k1, k2, k3, k4, k5, k6, k7, k8, k9, k10, k11, k12, k13, k14⟩ | ⟨k1, k2, k3, k4, k5, k6, k7, k8, k9, k10, k11, k12, k13, k14⟩ | ⟨k1, k2, k3, k4, k5, k6, k7, k8, k9, k10, k11, k12, k13, k14⟩ | ⟨k1, k2, k3, k4, k5, k6, k7, k8, k9, k10, k11, k12, k13, k14⟩ | ⟨k1, k2, k3, k4, k5, k6, k7, k8, k9, k10, k11, k12, k13, k14⟩ | ⟨k1, k2, k3, k4, k5, k6, k7, k8, k9, k10, k11, k12, k13, k14⟩ | ⟨k1, k2, k3, k4, k5, k6, k7, k8, k9, k10, k11, k12, k13, k14⟩ | ⟨k1, k2, k3, k4, k5, k6, k7, k8, k9, k10, k11, k12, k13, k14⟩ | ⟨k1, k2, k3, k4, k5, k6, k7, k8, k9, k10, k11, k12, k13, k14⟩ | ⟨k1, k2, k3, k4, k5, k6, k7, k8, k9, k10, k11, k12, k13, k14⟩ | ⟨k1, k2, k3, k4, k5, k6, k7, k8, k9, k10, k11, k12, k13, k14⟩ | ⟨k1, k2, k3, k4, k5, k6, k7, k8, k9, k10, k11, k12, k13, k14⟩ | ⟨k1, k2, k3, k4, k5, k6, k7, k8, k9, k10, k11, k12, k13, k14⟩ | ⟨k1, k2, k3, k4, k5, k6, k7, k8, k9, k10, k11, k12, k13, k14⟩ <;>
  (go_enter Tryd.func12, Tryd.ntmps12
   go_wp2
   go_ret
   exact ⟨ret_str (by unfold nameB formK; simp only [k1, k2, k3, k4, k5, k6, k7, k8, k9, k10, k11, k12, k13, k14]; rfl), rfl⟩)

end Go.Proofs.YtpjlnienakiihaaDoor
