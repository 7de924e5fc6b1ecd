/- What the document's Runes, Place, Cut come to. -/
import Derived.Test.YtdefmeffdcpcaaaRefCheck
import Derived.Test.YtdefmeffdcpcaaaRunes
import Derived.Test.YtdefmeffdcpcaaaJoins
namespace Go.Proofs.Ytdefmeffdcpcaaa
open Go.RowKit Go.Lib

theorem st_rune (l : List UInt8) : ((decodeL l).1 : Int) = if stOk l then stR l else 65533 := by
  unfold stR
  cases h : stOk l with
  | true => rfl
  | false =>
    unfold stOk at h
    have h1 : (decodeL l).1 = 65533 := by simp at h; exact h.1
    rw [h1]
    rfl

/-- A string's bytes in new memory. -/
theorem bytes_conv (s : ByteArray) (w : World) : ∃ (W1 : World) (c : Nat), (convert 9 22 (.string s)).run Try.prog w = .ok (.slice (some ⟨w.heap.size, 0, none⟩) s.size c) W1 ∧ Below w.heap.size w W1 ∧ W1.heap.size = w.heap.size + 1 ∧ s.size ≤ c ∧
    ∀ (j : Nat) (x : UInt8), s.data.toList[j]? = some x → W1.cell? (Addr.add ⟨w.heap.size, 0, none⟩ j) = some (.int .u8 (x.toNat : Int)) := by
  have h := run_bytes_of_string (P := Try.prog) w 9 22 5 s Try.underlying9 Try.underlying22 Try.underlying5
  have hge := grownCap_ge w s.size 0 5
  generalize grownCap w s.size 0 5 = c at *
  refine ⟨_, c, h, (Below.refl _ _).drew.alloc (Nat.le_refl _) _, by simp, hge, fun j x hj => ?_⟩
  rw [show (Addr.add ⟨w.heap.size, 0, none⟩ j) = ⟨w.heap.size, j, none⟩ by simp [Addr.add]; exact fun h => h.symm]
  have hjl : j < s.data.size := by
    have := (List.getElem?_eq_some_iff.1 hj).1
    simpa using this
  refine (World.cell?_alloc_mark w.drew _ _ _ j).trans ?_
  rw [bytesRow_at s c j hjl]
  have e : s.data.toList[j]? = some s.data[j] := by simp
  rw [e] at hj
  injection hj with hj
  rw [hj]

/-- A string's bytes in new memory. -/
theorem bytes_convM (s : ByteArray) (w : World) (hm : s.size ≤ 1000000) : ∃ (W1 : World) (c : Nat), (convert 9 22 (.string s)).run Try.prog w = .ok (.slice (some ⟨w.heap.size, 0, none⟩) s.size c) W1 ∧ Below w.heap.size w W1 ∧ W1.heap.size = w.heap.size + 1 ∧ s.size ≤ c ∧
    (∀ (j : Nat) (x : UInt8), s.data.toList[j]? = some x → W1.cell? (Addr.add ⟨w.heap.size, 0, none⟩ j) = some (.int .u8 (x.toNat : Int))) ∧ c ≤ maxLen := by
  have h := run_bytes_of_string (P := Try.prog) w 9 22 5 s Try.underlying9 Try.underlying22 Try.underlying5
  have hge := grownCap_ge w s.size 0 5
  have hcm := grownCap_le_maxLen w s.size 0 5 (by unfold maxLen; omega)
  generalize grownCap w s.size 0 5 = c at *
  refine ⟨_, c, h, (Below.refl _ _).drew.alloc (Nat.le_refl _) _, by simp, hge, fun j x hj => ?_, hcm⟩
  rw [show (Addr.add ⟨w.heap.size, 0, none⟩ j) = ⟨w.heap.size, j, none⟩ by simp [Addr.add]; exact fun h => h.symm]
  have hjl : j < s.data.size := by
    have := (List.getElem?_eq_some_iff.1 hj).1
    simpa using this
  refine (World.cell?_alloc_mark w.drew _ _ _ j).trans ?_
  rw [bytesRow_at s c j hjl]
  have e : s.data.toList[j]? = some s.data[j] := by simp
  rw [e] at hj
  injection hj with hj
  rw [hj]

theorem BytesAt.size_le {w : World} {B c : Nat} {A : Option Addr} {n : Nat} {l : List UInt8} (h : BytesAt w B (.slice A n c) l) : l.length ≤ c := by
  obtain ⟨A', c', hv, hc, _⟩ := h
  injection hv with _ _ h3
  omega

theorem step_blk (b c : Nat) (l : List UInt8) (p : Nat) (w : World) (h : p < l.length) (hm : l.length ≤ 1000000) (hx : ∀ (j : Nat) (x : UInt8), l[j]? = some x → w.cell? (Addr.add ⟨b, 0, none⟩ j) = some (.int .u8 (x.toNat : Int))) :
    Calls Try.prog 23 #[.slice (some ⟨b, p, none⟩) (l.length - p) (c - p)] w fun e w' => e = .returned (.tuple #[.int .i32 (stR (l.drop p)), .int .i64 ((decodeL (l.drop p)).2 : Nat), .bool (stOk (l.drop p))]) ∧ w = w' := by
  have h2 := step_at ⟨b, 0, none⟩ c l p w h hm hx
  rw [show Addr.add ⟨b, 0, none⟩ p = ⟨b, p, none⟩ by simp [Addr.add]; exact fun h => h.symm] at h2
  exact h2

set_option maxRecDepth 100000 in
set_option maxHeartbeats 400000 in
/-- The document's Runes. -/
theorem rrunes_any (s : ByteArray) (w : World) (hs : s.size ≤ 1000000) :
    Calls Try.prog 11 #[.string s] w fun e w' => ∃ v, e = .returned v ∧ RunesAt w' w'.heap.size v (rnsL s.data.toList) ∧ Below w.heap.size w w' := by
  obtain ⟨i0, hi, hz0, hz1, hz2⟩ := info_parts Try.info21
  obtain ⟨W1, c, hcv, hb1, hsz, hge, hx⟩ := bytes_conv s w
  have HX := Lib.hid hx
  have HS := Lib.hid hsz
  clear hx hsz
  have hsl : s.data.toList.length = s.size := size_list s
  have HL := Lib.hid hsl
  clear hsl
  generalize hll : s.data.toList = l at *
  clear hll
  go_enter Try.func11, Try.ntmps11
  go_wp2
  go_loopw [3, 5] (fun v i wr => ∃ (p : Nat) (done : List Int), p ≤ s.size ∧ i = .int .i64 p ∧ wr.ownsRow (w.heap.size + 1) 21 1 v done.length (done.map (Value.int .i32)) ∧ Hid (done ++ rnsL (l.drop p) = rnsL l) ∧ done.length ≤ p ∧ Below W1.heap.size W1 wr) (fun _ i _ => s.size - (intOf i).toNat)
  case atStart => exact ⟨0, [], Nat.zero_le _, rfl, World.ownsRow_nil _ _ _ _, rfl, by simp, Below.refl _ _⟩
  case round =>
    obtain ⟨p, done, hp, rfl, hown, hk, hd, hb2⟩ := hrel
    by_cases hlt : p < s.size
    · have hcp : p < c := by omega
      have hlt2 : p < l.length := by rw [HL.out]; exact hlt
      have fS := step_blk w.heap.size c l p wr hlt2 (by rw [HL.out]; exact hs) (fun j x hj => by
        rw [hb2.cell (p := Addr.add ⟨w.heap.size, 0, none⟩ j) (by rw [HS.out]; simpa [Addr.add] using (by split <;> simp))]
        exact HX.out j x hj)
      have hst : Hid (rnsL (l.drop p) = (if stOk (l.drop p) then stR (l.drop p) else 65533) :: rnsL (l.drop (p + (decodeL (l.drop p)).2))) := by
        have hne : l.drop p ≠ [] := by
          intro e
          have := congrArg List.length e
          rw [List.length_drop, List.length_nil] at this
          omega
        unfold Hid
        rw [rnsL_cons _ hne, List.drop_drop, st_rune]
      obtain ⟨hw1, hw2⟩ := drop_w l p hlt2
      rw [HL.out] at fS hw2
      generalize (decodeL (l.drop p)).2 = wd at *
      generalize stOk (l.drop p) = ok at *
      generalize stR (l.drop p) = r at *
      have hsw := hb2.size
      have hs1 : w.heap.size + 1 ≤ wr.heap.size := by have := HS.out; omega
      cases ok with
      | false =>
        have hfin : Hid ((done ++ [65533]) ++ rnsL (l.drop (p + wd)) = rnsL l) := by
          have hk := hk.out
          rw [hst.out] at hk
          unfold Hid
          rw [List.append_assoc]
          exact hk
        go_wp2_with fail
        refine fS.mono ?_
        rintro e w' ⟨rfl, rfl⟩
        go_wp2_with (at_builtin; refine wpList_append_own _ rfl _ _ 26 rfl (w.heap.size + 1) 21 i0 (.int .i32 0) 1 4 Try.underlying26 hi hz0 hz1 hz2 rfl (by decide) _ _ _ rfl (hown.alloc _) ⟨wr.heap.size, 0, none⟩ 1 1 [.int .i32 65533] rfl rfl (cell_one_new _ _ _) (by simp [Value.oneCell']) (by unfold maxLen; omega) (by omega) (by simp; omega) ?_)
        intro v' w2 hown2 hgrow _
        go_wp2_with fail
        go_roundw
        case rel =>
          refine ⟨p + wd, done ++ [65533], hw2, by go_num, ?_, hfin, by rw [List.length_append]; simp; omega, ?_⟩
          · rw [List.map_append, List.length_append]
            exact hown2
          · exact (hb2.alloc hsw _).grown hgrow (by simp; omega) (fun g hg => by
              have := hown.lt g hg
              have := HS.out
              omega)
        case measure => simp [intOf]; omega
      | true =>
        have hfin : Hid ((done ++ [r]) ++ rnsL (l.drop (p + wd)) = rnsL l) := by
          have hk := hk.out
          rw [hst.out] at hk
          unfold Hid
          rw [List.append_assoc]
          exact hk
        go_wp2_with fail
        refine fS.mono ?_
        rintro e w' ⟨rfl, rfl⟩
        go_wp2_with (at_builtin; refine wpList_append_own _ rfl _ _ 26 rfl (w.heap.size + 1) 21 i0 (.int .i32 0) 1 4 Try.underlying26 hi hz0 hz1 hz2 rfl (by decide) _ _ _ rfl (hown.alloc _) ⟨wr.heap.size, 0, none⟩ 1 1 [.int .i32 r] rfl rfl (cell_one_new _ _ _) (by simp [Value.oneCell']) (by unfold maxLen; omega) (by omega) (by simp; omega) ?_)
        intro v' w2 hown2 hgrow _
        go_wp2_with fail
        go_roundw
        case rel =>
          refine ⟨p + wd, done ++ [r], hw2, by go_num, ?_, hfin, by rw [List.length_append]; simp; omega, ?_⟩
          · rw [List.map_append, List.length_append]
            exact hown2
          · exact (hb2.alloc hsw _).grown hgrow (by simp; omega) (fun g hg => by
              have := hown.lt g hg
              have := HS.out
              omega)
        case measure => simp [intOf]; omega
    · go_wp2
      go_ret
      have hk := hk.out
      rw [List.drop_of_length_le (by rw [HL.out]; omega)] at hk
      rw [show done = rnsL l by rw [← hk]; simp [rnsL, ps_nil]] at hown
      exact ⟨_, rfl, ownsRunes hown, hb1.trans (hb2.mono hb1.size)⟩
end Go.Proofs.Ytdefmeffdcpcaaa
