/- What the laws' help runes comes to, at two lists that are the same. -/
import Derived.Test.YtdefmeffdcpcaaaCheck
import Derived.Deep.RegionHeld3
import Derived.Deep.DrawnRows
namespace Go.Proofs.Ytdefmeffdcpcaaa
open Go.RowKit Go.Lib

attribute [local go_sem ↓] Go.wp_at_zero Go.wp_at_succ

theorem RunesAt.on {w w' : World} {v : Value} {l : List Int} (h : RunesAt w w.heap.size v l) (hb : Below w.heap.size w w') : RunesAt w' w'.heap.size v l := (h.below hb).more hb.size
theorem ownsOn {w w' : World} {base : Nat} {e : TypeId} {n : Nat} {v : Value} {xs : List Value} (h : w.ownsRow base e 1 v n xs) (hb : Below w.heap.size w w') : w'.ownsRow base e 1 v n xs := by
  obtain ⟨h1, h2⟩ := h
  refine ⟨h1, ?_⟩
  rcases h2 with h2 | ⟨g, cap, cur, hv, hg, hh, r⟩
  · exact .inl h2
  · exact .inr ⟨g, cap, cur, hv, hg, (hb.block g (Array.getElem?_eq_some_iff.1 hh).1).trans hh, r⟩
theorem ownsRunes {w : World} {base : Nat} {v : Value} {l : List Int} (h : w.ownsRow base 21 1 v l.length (l.map (Value.int .i32))) : RunesAt w w.heap.size v l := by
  rcases h.2 with ⟨rfl, h0⟩ | ⟨g, cap, cur, rfl, _, hg, hc, hm, _, _⟩
  · have : l = [] := List.eq_nil_of_length_eq_zero h0
    subst this
    exact ⟨none, 0, rfl, by simp, fun _ => rfl, by simp, by simp⟩
  · refine ⟨_, cap, rfl, hc, by simp, fun ad had _ => ?_, fun ad had j x hj => ?_⟩
    · injection had with had; subst had
      exact (h.lt g rfl).2
    · injection had with had; subst had
      exact h.cells rfl j _ (by rw [List.getElem?_map, hj]; rfl)

set_option maxRecDepth 100000 in
set_option maxHeartbeats 1000000 in
theorem runes_some (a b : Addr) (ca cb : Nat) (l : List Int) (w : World) (hl : l.length ≤ 1000000)
    (ha : ∀ (j : Nat) (x : Int), l[j]? = some x → w.cell? (a.add j) = some (.int .i32 x)) (hb : ∀ (j : Nat) (x : Int), l[j]? = some x → w.cell? (b.add j) = some (.int .i32 x)) :
    Calls Try.prog 15 #[.slice (some a) l.length ca, .slice (some b) l.length cb] w fun e w' => e = .returned (.bool true) ∧ Below w.heap.size w w' := by
  have HA := Lib.hid ha
  have HB := Lib.hid hb
  clear ha hb
  go_enter Try.func15, Try.ntmps15
  go_wp2
  go_loopw [5] (fun i wr => ∃ (k n : Nat), k ≤ l.length ∧ i = .int .i64 k ∧ wr = w.drewN n) (fun i _ => l.length - (intOf i).toNat)
  case atStart => exact ⟨0, 0, Nat.zero_le _, rfl, rfl⟩
  case round =>
    obtain ⟨k, n, hk, rfl, rfl⟩ := hrel
    by_cases hlt : k < l.length
    · have h1 : w.cell? (a.add k) = some (.int .i32 l[k]) := HA.out k _ (List.getElem?_eq_getElem hlt)
      have h2 : w.cell? (b.add k) = some (.int .i32 l[k]) := HB.out k _ (List.getElem?_eq_getElem hlt)
      generalize l[k] = x at *
      have hk0 : (0 : Int) ≤ (k : Int) := by omega
      have hkl : (k : Int) < (l.length : Int) := by omega
      go_wp2
      go_quiet (fail)
      go_wp2
      go_roundw
      case rel => exact ⟨k + 1, _, by omega, by go_num, rfl⟩
      case measure => simp [intOf]; omega
    · go_wp2
      go_ret
      exact ⟨rfl, ((Below.refl _ _) : Below w.heap.size w w).trans ⟨rfl, rfl, rfl, Nat.le_refl _, fun _ _ => rfl⟩⟩
set_option maxRecDepth 100000 in
set_option maxHeartbeats 1000000 in
theorem runes_none (A B : Option Addr) (ca cb : Nat) (w : World) :
    Calls Try.prog 15 #[.slice A 0 ca, .slice B 0 cb] w fun e w' => e = .returned (.bool true) ∧ Below w.heap.size w w' := by
  go_enter Try.func15, Try.ntmps15
  go_wp2
  go_loopw [5] (fun i wr => i = .int .i64 0 ∧ wr = w) (fun _ _ => 0)
  case atStart => exact ⟨rfl, rfl⟩
  case round =>
    obtain ⟨rfl, rfl⟩ := hrel
    go_wp2
    go_ret
    exact ⟨rfl, Below.refl _ _⟩

/-- Two values that read as the same runes: true. -/
theorem runes_eq (va vb : Value) (l : List Int) (w : World) (B B' : Nat) (hl : l.length ≤ 1000000) (ha : RunesAt w B va l) (hb : RunesAt w B' vb l) :
    Calls Try.prog 15 #[va, vb] w fun e w' => e = .returned (.bool true) ∧ Below w.heap.size w w' := by
  obtain ⟨A1, c1, rfl, _, n1, _, x1⟩ := ha
  obtain ⟨A2, c2, rfl, _, n2, _, x2⟩ := hb
  by_cases h : l = []
  · subst h; exact runes_none A1 A2 c1 c2 w
  · cases A1 with
    | none => exact absurd (n1 rfl) h
    | some a =>
      cases A2 with
      | none => exact absurd (n2 rfl) h
      | some b => exact runes_some a b c1 c2 l w hl (x1 a rfl) (x2 b rfl)
end Go.Proofs.Ytdefmeffdcpcaaa
