/- Which packets' fields fit: wire.fits and what it calls. -/
import Derived.Test.YtkeocnobninaaaaPkt
namespace Go.Proofs.Ytkeocnobninaaaa
open Go.RowKit Go.Lib

theorem kf (k : Int) : ((k == 1) = true ∧ (k == 2) = false ∧ (k == 3) = false ∧ (k == 4) = false ∧ (k == 5) = false ∧ (k == 6) = false ∧ (k == 7) = false ∧ (k == 8) = false ∧ (k == 9) = false ∧ (k == 10) = false ∧ (k == 11) = false ∧ (k == 12) = false ∧ (k == 13) = false ∧ (k == 14) = false) ∨ ((k == 1) = false ∧ (k == 2) = true ∧ (k == 3) = false ∧ (k == 4) = false ∧ (k == 5) = false ∧ (k == 6) = false ∧ (k == 7) = false ∧ (k == 8) = false ∧ (k == 9) = false ∧ (k == 10) = false ∧ (k == 11) = false ∧ (k == 12) = false ∧ (k == 13) = false ∧ (k == 14) = false) ∨ ((k == 1) = false ∧ (k == 2) = false ∧ (k == 3) = true ∧ (k == 4) = false ∧ (k == 5) = false ∧ (k == 6) = false ∧ (k == 7) = false ∧ (k == 8) = false ∧ (k == 9) = false ∧ (k == 10) = false ∧ (k == 11) = false ∧ (k == 12) = false ∧ (k == 13) = false ∧ (k == 14) = false) ∨ ((k == 1) = false ∧ (k == 2) = false ∧ (k == 3) = false ∧ (k == 4) = true ∧ (k == 5) = false ∧ (k == 6) = false ∧ (k == 7) = false ∧ (k == 8) = false ∧ (k == 9) = false ∧ (k == 10) = false ∧ (k == 11) = false ∧ (k == 12) = false ∧ (k == 13) = false ∧ (k == 14) = false) ∨ ((k == 1) = false ∧ (k == 2) = false ∧ (k == 3) = false ∧ (k == 4) = false ∧ (k == 5) = true ∧ (k == 6) = false ∧ (k == 7) = false ∧ (k == 8) = false ∧ (k == 9) = false ∧ (k == 10) = false ∧ (k == 11) = false ∧ (k == 12) = false ∧ (k == 13) = false ∧ (k == 14) = false) ∨ ((k == 1) = false ∧ (k == 2) = false ∧ (k == 3) = false ∧ (k == 4) = false ∧ (k == 5) = false ∧ (k == 6) = true ∧ (k == 7) = false ∧ (k == 8) = false ∧ (k == 9) = false ∧ (k == 10) = false ∧ (k == 11) = false ∧ (k == 12) = false ∧ (k == 13) = false ∧ (k == 14) = false) ∨ ((k == 1) = false ∧ (k == 2) = false ∧ (k == 3) = false ∧ (k == 4) = false ∧ (k == 5) = false ∧ (k == 6) = false ∧ (k == 7) = true ∧ (k == 8) = false ∧ (k == 9) = false ∧ (k == 10) = false ∧ (k == 11) = false ∧ (k == 12) = false ∧ (k == 13) = false ∧ (k == 14) = false) ∨ ((k == 1) = false ∧ (k == 2) = false ∧ (k == 3) = false ∧ (k == 4) = false ∧ (k == 5) = false ∧ (k == 6) = false ∧ (k == 7) = false ∧ (k == 8) = true ∧ (k == 9) = false ∧ (k == 10) = false ∧ (k == 11) = false ∧ (k == 12) = false ∧ (k == 13) = false ∧ (k == 14) = false) ∨ ((k == 1) = false ∧ (k == 2) = false ∧ (k == 3) = false ∧ (k == 4) = false ∧ (k == 5) = false ∧ (k == 6) = false ∧ (k == 7) = false ∧ (k == 8) = false ∧ (k == 9) = true ∧ (k == 10) = false ∧ (k == 11) = false ∧ (k == 12) = false ∧ (k == 13) = false ∧ (k == 14) = false) ∨ ((k == 1) = false ∧ (k == 2) = false ∧ (k == 3) = false ∧ (k == 4) = false ∧ (k == 5) = false ∧ (k == 6) = false ∧ (k == 7) = false ∧ (k == 8) = false ∧ (k == 9) = false ∧ (k == 10) = true ∧ (k == 11) = false ∧ (k == 12) = false ∧ (k == 13) = false ∧ (k == 14) = false) ∨ ((k == 1) = false ∧ (k == 2) = false ∧ (k == 3) = false ∧ (k == 4) = false ∧ (k == 5) = false ∧ (k == 6) = false ∧ (k == 7) = false ∧ (k == 8) = false ∧ (k == 9) = false ∧ (k == 10) = false ∧ (k == 11) = true ∧ (k == 12) = false ∧ (k == 13) = false ∧ (k == 14) = false) ∨ ((k == 1) = false ∧ (k == 2) = false ∧ (k == 3) = false ∧ (k == 4) = false ∧ (k == 5) = false ∧ (k == 6) = false ∧ (k == 7) = false ∧ (k == 8) = false ∧ (k == 9) = false ∧ (k == 10) = false ∧ (k == 11) = false ∧ (k == 12) = true ∧ (k == 13) = false ∧ (k == 14) = false) ∨ ((k == 1) = false ∧ (k == 2) = false ∧ (k == 3) = false ∧ (k == 4) = false ∧ (k == 5) = false ∧ (k == 6) = false ∧ (k == 7) = false ∧ (k == 8) = false ∧ (k == 9) = false ∧ (k == 10) = false ∧ (k == 11) = false ∧ (k == 12) = false ∧ (k == 13) = true ∧ (k == 14) = false) ∨ ((k == 1) = false ∧ (k == 2) = false ∧ (k == 3) = false ∧ (k == 4) = false ∧ (k == 5) = false ∧ (k == 6) = false ∧ (k == 7) = false ∧ (k == 8) = false ∧ (k == 9) = false ∧ (k == 10) = false ∧ (k == 11) = false ∧ (k == 12) = false ∧ (k == 13) = false ∧ (k == 14) = true) ∨ ((k == 1) = false ∧ (k == 2) = false ∧ (k == 3) = false ∧ (k == 4) = false ∧ (k == 5) = false ∧ (k == 6) = false ∧ (k == 7) = false ∧ (k == 8) = false ∧ (k == 9) = false ∧ (k == 10) = false ∧ (k == 11) = false ∧ (k == 12) = false ∧ (k == 13) = false ∧ (k == 14) = false) := by
  by_cases h1 : 1 ≤ k ∧ k ≤ 14
  · have : k = 1 ∨ k = 2 ∨ k = 3 ∨ k = 4 ∨ k = 5 ∨ k = 6 ∨ k = 7 ∨ k = 8 ∨ k = 9 ∨ k = 10 ∨ k = 11 ∨ k = 12 ∨ k = 13 ∨ k = 14 := by omega
    rcases this with rfl | rfl | rfl | rfl | rfl | rfl | rfl | rfl | rfl | rfl | rfl | rfl | rfl | rfl <;> simp
  · have e : ∀ i : Int, 1 ≤ i → i ≤ 14 → (k == i) = false := fun i a b => beq_eq_false_iff_ne.2 (by omega)
    iterate 14 apply Or.inr
    refine ⟨?_, ?_, ?_, ?_, ?_, ?_, ?_, ?_, ?_, ?_, ?_, ?_, ?_, ?_⟩ <;> exact e _ (by omega) (by omega)

def cfitsP (p : Pk) : Bool := inI p.level 0 255 && inI p.keep 0 65535 && txt p.cli && txt p.user && txt p.wtop && inI p.wqos 0 2 && (p.hu || !p.hp)
def pfitsP (p : Pk) : Bool := txt p.top && inI p.qos 0 2 && (if p.qos == 0 then !p.dup else inI p.id 1 65535)
def sfitsP (m : Int) (l : List (ByteArray × Int)) : Bool := l.all fun x => txt x.1 && inI x.2 0 m
def cdfitsP (l : List Int) : Bool := l.all fun c => inI c 0 2 || c == 128

set_option maxRecDepth 100000 in
set_option maxHeartbeats 2000000 in
theorem cfits_any (p : Pk) (s : Sv) (w : World) (h1 : p.cli.size ≤ 1000000) (h2 : p.user.size ≤ 1000000) (h3 : p.wtop.size ≤ 1000000) :
    Calls Try.prog 74 #[pkV p s] w fun e w' => e = .returned (.bool (cfitsP p)) ∧ Below w.heap.size w w' := by
  go_enter Try.func74, Try.ntmps74
  go_wp2_with (first
    | (go_at_call 75; refine (within_any _ _ _ _).mono ?_; rintro e w' ⟨rfl, rfl⟩)
    | (go_at_call 98; refine (isQos_any _ _).mono ?_; rintro e w' ⟨rfl, rfl⟩)
    | (go_at_call 97; refine (isText_any _ _ (by assumption)).mono ?_; rintro e w' ⟨rfl, hb⟩; obtain ⟨hc, hf⟩ := bcell hb; have hz : w.heap.size < w'.heap.size := (by have := hb.size; (try simp at this); omega)))
  all_goals (go_ret; exact ⟨ret_bool (by unfold cfitsP; simp [*]), by (repeat (first | assumption | exact Below.refl _ _ | exact (Below.refl _ _).alloc (Nat.le_refl _) _ | (refine thn ?_ (by assumption)) | (refine alB ?_ _) | (refine dwN ?_ _) | (refine Below.drew ?_)))⟩)

set_option maxRecDepth 100000 in
set_option maxHeartbeats 2000000 in
theorem pfits_any (p : Pk) (s : Sv) (w : World) (h1 : p.top.size ≤ 1000000) :
    Calls Try.prog 76 #[pkV p s] w fun e w' => e = .returned (.bool (pfitsP p)) ∧ Below w.heap.size w w' := by
  go_enter Try.func76, Try.ntmps76
  go_wp2_with (first
    | (go_at_call 77; refine (isId_any _ _).mono ?_; rintro e w' ⟨rfl, rfl⟩)
    | (go_at_call 98; refine (isQos_any _ _).mono ?_; rintro e w' ⟨rfl, rfl⟩)
    | (go_at_call 97; refine (isText_any _ _ (by assumption)).mono ?_; rintro e w' ⟨rfl, hb⟩; obtain ⟨hc, hf⟩ := bcell hb; have hz : w.heap.size < w'.heap.size := (by have := hb.size; (try simp at this); omega)))
  all_goals
    go_ret
    exact ⟨ret_bool (by (try simp only [Bool.not_eq_true'] at *); (try simp only [Bool.not_eq_false'] at *); (try simp only [bne_eq_false_iff_eq] at *); (try simp only [bne_iff_ne] at *); unfold pfitsP; simp [*]), by (repeat (first | assumption | exact Below.refl _ _ | exact (Below.refl _ _).alloc (Nat.le_refl _) _ | (refine thn ?_ (by assumption)) | (refine alB ?_ _) | (refine dwN ?_ _) | (refine Below.drew ?_)))⟩

theorem all_take {α : Type} (f : α → Bool) (l : List α) (k : Nat) (h : k < l.length) : (l.take (k + 1)).all f = ((l.take k).all f && f l[k]) := by
  rw [List.take_succ_eq_append_getElem h, List.all_append]; simp
theorem all_false {α : Type} (f : α → Bool) (l : List α) (k : Nat) (h : k < l.length) (hf : f l[k] = false) : l.all f = false := by
  rw [List.all_eq_false]; exact ⟨l[k], List.getElem_mem h, by simp [hf]⟩

theorem sfits_step (m : Int) (l : List (ByteArray × Int)) (k : Nat) (h : k < l.length) (ha : sfitsP m (l.take k) = true) : sfitsP m (l.take (k + 1)) = (txt l[k].1 && inI l[k].2 0 m) := by
  unfold sfitsP at *; rw [all_take _ _ _ h, ha]; rfl
theorem sfits_false (m : Int) (l : List (ByteArray × Int)) (k : Nat) (h : k < l.length) (hf : (txt l[k].1 && inI l[k].2 0 m) = false) : sfitsP m l = false := all_false _ l k h hf
theorem cdfits_step (l : List Int) (k : Nat) (h : k < l.length) (ha : cdfitsP (l.take k) = true) : cdfitsP (l.take (k + 1)) = (inI l[k] 0 2 || l[k] == 128) := by
  unfold cdfitsP at *; rw [all_take _ _ _ h, ha]; rfl
theorem cdfits_false (l : List Int) (k : Nat) (h : k < l.length) (hf : (inI l[k] 0 2 || l[k] == 128) = false) : cdfitsP l = false := all_false _ l k h hf

set_option maxRecDepth 100000 in
set_option maxHeartbeats 2000000 in
theorem sfits_any (A : Option Addr) (c n : Nat) (l : List (ByteArray × Int)) (m : Int) (B : Nat) (w : World) (hv : SubsAt w B (.slice A n c) l) (hn : n = l.length) (hB : B ≤ w.heap.size) (hl : l.length ≤ 1000000) (ht : ∀ x ∈ l, x.1.size ≤ 1000000) :
    Calls Try.prog 78 #[.slice A n c, .int .i64 m] w fun e w' => e = .returned (.bool (sfitsP m l && decide (0 < l.length))) ∧ Below w.heap.size w w' := by
  subst hn
  have HT := Lib.hid ht
  clear ht
  go_enter Try.func78, Try.ntmps78
  go_wp2
  go_loopw [9] (fun i w' => ∃ k : Nat, k ≤ l.length ∧ i = .int .i64 k ∧ Below w.heap.size w w' ∧ Hid (sfitsP m (l.take k) = true)) (fun i _ => l.length - (intOf i).toNat)
  case atStart => exact ⟨0, Nat.zero_le _, rfl, Below.refl _ _, Lib.hid (by simp [sfitsP])⟩
  case round =>
    obtain ⟨k, hk, rfl, hb, hal⟩ := hrel
    by_cases hlt : k < l.length
    · obtain ⟨ad, rfl, hkc, c1, c2⟩ := (hv.below (hb.mono hB)).at_ k hlt
      have hts := HT.out l[k] (List.getElem_mem hlt)
      have hst := Lib.hid (sfits_step m l k hlt hal.out)
      have hfl := Lib.hid (sfits_false m l k hlt)
      generalize l[k].1 = x1 at *
      generalize l[k].2 = x2 at *
      clear hv
      go_wp2_with (first
        | (go_at_call 75; refine (within_any _ _ _ _).mono ?_; rintro e w' ⟨rfl, rfl⟩)
        | (go_at_call 97; refine (isText_any _ _ hts).mono ?_; rintro e w' ⟨rfl, hb⟩; obtain ⟨hc, hf⟩ := bcell hb; have hz : wr.heap.size < w'.heap.size := (by have := hb.size; (try simp at this); omega)))
      all_goals first
        | (go_roundw
           case rel => exact ⟨k + 1, hlt, by go_num, by (repeat (first | assumption | exact Below.refl _ _ | exact (Below.refl _ _).alloc (Nat.le_refl _) _ | (refine thn ?_ (by assumption)) | (refine alB ?_ _) | (refine dwN ?_ _) | (refine Below.drew ?_))), Lib.hid (by rw [hst.out]; (try simp only [Bool.not_eq_true'] at *); (try simp only [Bool.not_eq_false'] at *); (try simp only [bne_eq_false_iff_eq] at *); (try simp only [bne_iff_ne] at *); simp [*])⟩
           case measure => simp [intOf]; omega)
        | (go_ret
           exact ⟨ret_bool (by rw [hfl.out (by (try simp only [Bool.not_eq_true'] at *); (try simp only [Bool.not_eq_false'] at *); (try simp only [bne_eq_false_iff_eq] at *); (try simp only [bne_iff_ne] at *); simp [*])]; rfl), by (repeat (first | assumption | exact Below.refl _ _ | exact (Below.refl _ _).alloc (Nat.le_refl _) _ | (refine thn ?_ (by assumption)) | (refine alB ?_ _) | (refine dwN ?_ _) | (refine Below.drew ?_)))⟩)
    · go_wp2
      all_goals (go_ret; exact ⟨ret_bool (by have e := hal.out; rw [List.take_of_length_le (by omega)] at e; rw [e]; rfl), by (repeat (first | assumption | exact Below.refl _ _ | exact (Below.refl _ _).alloc (Nat.le_refl _) _ | (refine thn ?_ (by assumption)) | (refine alB ?_ _) | (refine dwN ?_ _) | (refine Below.drew ?_)))⟩)

set_option maxRecDepth 100000 in
set_option maxHeartbeats 2000000 in
theorem cdfits_any (A : Option Addr) (c n : Nat) (l : List Int) (B : Nat) (w : World) (hv : IntsAt w B (.slice A n c) l) (hn : n = l.length) (hl : l.length ≤ 1000000) :
    Calls Try.prog 79 #[.slice A n c] w fun e w' => e = .returned (.bool (cdfitsP l && decide (0 < l.length))) ∧ w = w' := by
  subst hn
  go_enter Try.func79, Try.ntmps79
  go_wp2
  go_loop [7] (fun i => ∃ k : Nat, k ≤ l.length ∧ i = .int .i64 k ∧ Hid (cdfitsP (l.take k) = true)) (fun i => l.length - (intOf i).toNat)
  case atStart => exact ⟨0, Nat.zero_le _, rfl, Lib.hid (by simp [cdfitsP])⟩
  case round =>
    obtain ⟨k, hk, rfl, hal⟩ := hrel
    by_cases hlt : k < l.length
    · obtain ⟨ad, rfl, hkc, c1⟩ := hv.at_ k hlt
      have hst := Lib.hid (cdfits_step l k hlt hal.out)
      have hfl := Lib.hid (cdfits_false l k hlt)
      generalize l[k] = x1 at *
      clear hv
      go_wp2_with (go_at_call 98; refine (isQos_any _ _).mono ?_; rintro e w' ⟨rfl, rfl⟩)
      all_goals first
        | (go_round
           case rel => exact ⟨k + 1, hlt, by go_num, Lib.hid (by rw [hst.out]; (try simp only [Bool.not_eq_true'] at *); (try simp only [Bool.not_eq_false'] at *); (try simp only [bne_eq_false_iff_eq] at *); (try simp only [bne_iff_ne] at *); simp [*])⟩
           case measure => simp [intOf]; omega)
        | (go_ret
           exact ⟨ret_bool (by rw [hfl.out (by (try simp only [Bool.not_eq_true'] at *); (try simp only [Bool.not_eq_false'] at *); (try simp only [bne_eq_false_iff_eq] at *); (try simp only [bne_iff_ne] at *); simp [*])]; rfl), rfl⟩)
    · go_wp2
      all_goals (go_ret; exact ⟨ret_bool (by have e := hal.out; rw [List.take_of_length_le (by omega)] at e; rw [e]; rfl), rfl⟩)
end Go.Proofs.Ytkeocnobninaaaa
