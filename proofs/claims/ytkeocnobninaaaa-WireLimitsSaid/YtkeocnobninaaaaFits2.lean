/- Which packets fit: wire.fits, of any kind. -/
import Derived.Test.YtkeocnobninaaaaFits
namespace Go.Proofs.Ytkeocnobninaaaa
open Go.RowKit Go.Lib

def fitsP (p : Pk) : Bool :=
  if p.kind == 1 then cfitsP p
  else if p.kind == 2 then inI p.code 0 5 && (p.code == 0 || !p.pres)
  else if p.kind == 3 then pfitsP p
  else if p.kind == 4 || p.kind == 5 || p.kind == 6 || p.kind == 7 || p.kind == 11 then inI p.id 1 65535
  else if p.kind == 8 then inI p.id 1 65535 && (sfitsP 2 p.subs && decide (0 < p.subs.length))
  else if p.kind == 10 then inI p.id 1 65535 && (sfitsP 0 p.subs && decide (0 < p.subs.length))
  else if p.kind == 9 then inI p.id 1 65535 && (cdfitsP p.codes && decide (0 < p.codes.length))
  else p.kind == 12 || p.kind == 13 || p.kind == 14

set_option maxRecDepth 100000 in
set_option maxHeartbeats 4000000 in
theorem fits_any (p : Pk) (s : Sv) (B : Nat) (w : World) (hp : PkAt w B p s) (hB : B ≤ w.heap.size) (ok : PkOk p) :
    Calls Try.prog 43 #[pkV p s] w fun e w' => e = .returned (.bool (fitsP p)) ∧ Below w.heap.size w w' := by
  obtain ⟨a1, a2, a3, hS, hC⟩ := hp
  obtain ⟨b1, b2, b3, b4, b5, b6, b7, c1, c2, c3, c4, c5, c6, c7, c8, c9, c10, c11⟩ := ok
  have HS := Lib.hid hS
  have HC := Lib.hid hC
  have HT := Lib.hid c10
  clear a1 a2 a3 b1 b2 b3 b4 b5 b6 b7 hS hC c10 c11
  rcases kf p.kind with ⟨k1, k2, k3, k4, k5, k6, k7, k8, k9, k10, k11, k12, k13, k14⟩ | ⟨k1, k2, k3, k4, k5, k6, k7, k8, k9, k10, k11, k12, k13, k14⟩ | ⟨k1, k2, k3, k4, k5, k6, k7, k8, k9, k10, k11, k12, k13, k14⟩ | ⟨k1, k2, k3, k4, k5, k6, k7, k8, k9, k10, k11, k12, k13, k14⟩ | ⟨k1, k2, k3, k4, k5, k6, k7, k8, k9, k10, k11, k12, k13, k14⟩ | ⟨k1, k2, k3, k4, k5, k6, k7, k8, k9, k10, k11, k12, k13, k14⟩ | ⟨k1, k2, k3, k4, k5, k6, k7, k8, k9, k10, k11, k12, k13, k14⟩ | ⟨k1, k2, k3, k4, k5, k6, k7, k8, k9, k10, k11, k12, k13, k14⟩ | ⟨k1, k2, k3, k4, k5, k6, k7, k8, k9, k10, k11, k12, k13, k14⟩ | ⟨k1, k2, k3, k4, k5, k6, k7, k8, k9, k10, k11, k12, k13, k14⟩ | ⟨k1, k2, k3, k4, k5, k6, k7, k8, k9, k10, k11, k12, k13, k14⟩ | ⟨k1, k2, k3, k4, k5, k6, k7, k8, k9, k10, k11, k12, k13, k14⟩ | ⟨k1, k2, k3, k4, k5, k6, k7, k8, k9, k10, k11, k12, k13, k14⟩ | ⟨k1, k2, k3, k4, k5, k6, k7, k8, k9, k10, k11, k12, k13, k14⟩ | ⟨k1, k2, k3, k4, k5, k6, k7, k8, k9, k10, k11, k12, k13, k14⟩
  all_goals
    go_enter Try.func43, Try.ntmps43
    go_wp2_with (first
      | ((with_reducible show wpList _ _ _ ({ dst := _, op := Op.load 28 _, type := _, pos := _, after := _, guard := _ } :: _) _ _); refine ld_pk (w.heap.size) (by rfl) (by rfl) _ _ _ (by (first | assumption | exact heap_alloc_last _ _ | (repeat (first | assumption | exact heap_alloc_last _ _ | exact heap_last2 _ _ _ | refine heap_keep ?_ | refine heap_below (by assumption) ?_)))) (by rfl) ?_)
      | (go_at_call 75; refine (within_any _ _ _ _).mono ?_; rintro e w' ⟨rfl, rfl⟩)
      | (go_at_call 77; refine (isId_any _ _).mono ?_; rintro e w' ⟨rfl, rfl⟩)
      | (go_at_call 74; refine (cfits_any p s _ c3 c6 c4).mono ?_; rintro e w' ⟨rfl, hb⟩; obtain ⟨hc, hf⟩ := bcell hb; have hz : w.heap.size < w'.heap.size := (by have := hb.size; (try simp at this); omega))
      | (go_at_call 76; refine (pfits_any p s _ c1).mono ?_; rintro e w' ⟨rfl, hb⟩; obtain ⟨hc, hf⟩ := bcell hb; have hz : w.heap.size < w'.heap.size := (by have := hb.size; (try simp at this); omega))
      | (go_at_call 78; refine (sfits_any _ _ _ p.subs _ B _ (HS.out.to hB (by (repeat (first | assumption | exact Below.refl _ _ | exact (Below.refl _ _).alloc (Nat.le_refl _) _ | (refine thn ?_ (by assumption)) | (refine alB ?_ _) | (refine dwN ?_ _) | (refine Below.drew ?_))))) rfl (by simp; omega) c8 (fun x hx => (HT.out x hx).1)).mono ?_; rintro e w' ⟨rfl, hb⟩; obtain ⟨hc, hf⟩ := bcell hb; have hz : w.heap.size < w'.heap.size := (by have := hb.size; (try simp at this); omega))
      | (go_at_call 79; refine (cdfits_any _ _ _ p.codes B _ (HC.out.to hB (by (repeat (first | assumption | exact Below.refl _ _ | exact (Below.refl _ _).alloc (Nat.le_refl _) _ | (refine thn ?_ (by assumption)) | (refine alB ?_ _) | (refine dwN ?_ _) | (refine Below.drew ?_))))) rfl c9).mono ?_; rintro e w' ⟨rfl, rfl⟩))
    all_goals (go_ret; exact ⟨ret_bool (by (try simp only [Bool.not_eq_true'] at *); (try simp only [Bool.not_eq_false'] at *); (try simp only [bne_eq_false_iff_eq] at *); (try simp only [bne_iff_ne] at *); unfold fitsP; simp [*]; try rfl), by (repeat (first | assumption | exact Below.refl _ _ | exact (Below.refl _ _).alloc (Nat.le_refl _) _ | (refine thn ?_ (by assumption)) | (refine alB ?_ _) | (refine dwN ?_ _) | (refine Below.drew ?_)))⟩)
end Go.Proofs.Ytkeocnobninaaaa
