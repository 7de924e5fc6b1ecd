/- The law VarlenShort: its walk. -/
import Derived.Test.YtdacgfhlgpbccaaKnown2
import Derived.Test.YtdacgfhlgpbccaaLen
namespace Go.Proofs.Ytdacgfhlgpbccaa
open Go.RowKit Go.Lib

theorem BytesAt.take {w : World} {B : Nat} {A : Option Addr} {n c : Nat} {l : List UInt8} (h : BytesAt w B (.slice A n c) l) (i : Nat) (hi : i ≤ l.length) : BytesAt w B (.slice A i c) (l.take i) := by
  obtain ⟨A', c', hv, hc, hm, hn, hB, hx⟩ := h
  injection hv with v1 v2 v3
  subst v1 v3
  have hlen : (l.take i).length = i := by rw [List.length_take]; omega
  refine ⟨A, c, by rw [hlen], by omega, hm, fun e => by rw [hn e]; simp, fun ad had hne => hB ad had (fun e => hne (by rw [e]; simp)), fun ad had j x hj => hx ad had j x ?_⟩
  rw [List.getElem?_take] at hj
  split at hj
  · exact hj
  · cases hj

theorem u32_of {n : Int} (h : (Lit.int .u32 n).wf = true) : 0 ≤ n ∧ n ≤ 4294967295 := by
  have e1 : IntKind.u32.min = 0 := rfl
  have e2 : IntKind.u32.max = 4294967295 := rfl
  simp only [Lit.wf, Bool.and_eq_true, decide_eq_true_eq, e1, e2] at h
  exact h

set_option maxRecDepth 100000 in
set_option maxHeartbeats 1000000 in
theorem short_walk (n : Int) (hn0 : 0 ≤ n) (hn1 : n ≤ 4294967295) (k : Nat) (hk : k < 256) (w : World) :
    Calls Try.prog 5 #[.int .u32 n, .int .u8 k] w fun e w' => e = .returned (.bool true) ∧ Below w.heap.size w w' := by
  have hx0 : 0 ≤ n % 268435456 := by omega
  have hx1 : n % 268435456 ≤ 268435455 := by omega
  go_enter Try.func5, Try.ntmps5
  go_wp2_with fail
  refine (known_any _).mono ?_
  rintro e w1 ⟨rfl, hb1⟩
  go_wp2_with fail
  generalize n % 268435456 = x at *
  refine (put_ok x hx0 hx1 _).mono ?_
  rintro e w2 ⟨A, c, rfl, hv, hb2⟩
  have hsz := putL_size x hx0 hx1
  have hsp := size_pos x hx0 hx1
  obtain ⟨L, hL⟩ : ∃ L, (putL x).length = L := ⟨_, rfl⟩
  have hRD : ∀ i : Nat, i < L → Calls Try.prog 12 #[.slice A i c] w2 fun e w' => e = .returned (.tuple #[.int .i64 0, .int .i64 0, .int .i64 20]) ∧ w2 = w' := fun i hi =>
    read_any _ _ _ _ (hv.take i (by omega)) (by have := putL_len x; rw [List.length_take]; omega) _ _ _ (short_T x hx0 hx1 i (by omega))
  have hi0 : k % L < L := Nat.mod_lt _ (by omega)
  have RD := Lib.hid (hRD _ hi0)
  have hcL : L ≤ c := by
    obtain ⟨_, _, hw, hw2, _⟩ := hv
    injection hw with _ _ hw3
    omega
  obtain ⟨ad, rfl⟩ : ∃ ad, A = some ad := by
    obtain ⟨A', _, hw, _, _, hw2, _⟩ := hv
    injection hw with hw1
    cases A with
    | some ad => exact ⟨ad, rfl⟩
    | none =>
      have := hw2 hw1.symm
      rw [this] at hsz
      simp at hsz
      omega
  have hL1 : 1 ≤ L := by omega
  have hL4 : L ≤ 4 := by have := putL_len x; omega
  rw [hL]
  clear hv hRD hsz hsp hL
  go_wp2_with fail
  refine RD.out.mono ?_
  rintro e w3 ⟨rfl, rfl⟩
  go_wp2_with fail
  go_ret
  exact ⟨rfl, thn hb1 hb2⟩
end Go.Proofs.Ytdacgfhlgpbccaa
