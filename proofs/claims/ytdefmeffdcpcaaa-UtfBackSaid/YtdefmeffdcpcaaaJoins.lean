/- The law UtfJoins: its walk. -/
import Derived.Test.YtdefmeffdcpcaaaMixed
import Derived.Test.YtdefmeffdcpcaaaRunes
import Derived.Test.YtdefmeffdcpcaaaEncB
import Derived.Test.YtdefmeffdcpcaaaCuts
namespace Go.Proofs.Ytdefmeffdcpcaaa
open Go.RowKit Go.Lib

theorem Try.info21 : (Try.prog.info? 21).map (fun i => (i.zero, i.size, i.bytes)) = some (some (.int .i32 0), 1, 4) := by kernel_rfl

theorem cat_list (A B : ByteArray) : (A ++ B).data.toList = A.data.toList ++ B.data.toList := by rw [ByteArray.data_append, Array.toList_append]
theorem i32_cells (l : List Int) : ∀ u ∈ l.map (Value.int .i32), u.oneCell' = true := by
  intro u hu
  obtain ⟨n, _, rfl⟩ := List.mem_map.1 hu
  rfl

/-- What one text of runes and one behind it give in this law. -/
theorem joins_facts (l : List Int) (A B : ByteArray) (hl : l.length ≤ 100) (hA : A = runesBytes l) (hB : B.size ≤ 1000) : ∃ (q : Nat) (LA LB L : List Int), q ≤ 1000 ∧ A.size ≤ 400 ∧ LA.length ≤ 1000 ∧ LB.length ≤ 1000 ∧ L = LA ++ LB ∧
    (∀ W, Calls Try.prog 14 #[.string (A ++ B)] W fun e w' => e = .returned (.int .i64 ((l.length : Int) + (q : Int))) ∧ Below W.heap.size W w') ∧
    (∀ W, Calls Try.prog 14 #[.string B] W fun e w' => e = .returned (.int .i64 q) ∧ Below W.heap.size W w') ∧
    (∀ W, Calls Try.prog 16 #[.string (A ++ B)] W fun e w' => ∃ g c : Nat, e = .returned (.slice (some ⟨g, 0, none⟩) L.length c) ∧ RunesAt w' w'.heap.size (.slice (some ⟨g, 0, none⟩) L.length c) L ∧ Below W.heap.size W w') ∧
    (∀ W, Calls Try.prog 16 #[.string A] W fun e w' => ∃ g c : Nat, e = .returned (.slice (some ⟨g, 0, none⟩) LA.length c) ∧ w'.ownsRow W.heap.size 21 1 (.slice (some ⟨g, 0, none⟩) LA.length c) LA.length (LA.map (Value.int .i32)) ∧ Below W.heap.size W w') ∧
    (∀ W, Calls Try.prog 16 #[.string B] W fun e w' => ∃ g c : Nat, e = .returned (.slice (some ⟨g, 0, none⟩) LB.length c) ∧ RunesAt w' w'.heap.size (.slice (some ⟨g, 0, none⟩) LB.length c) LB ∧ Below W.heap.size W w') ∧
    ∀ W, Calls Try.prog 19 #[.string (A ++ B), .int .i64 l.length] W fun e w' => e = .returned (.string A) ∧ Below W.heap.size W w' := by
  have hAl : A.data.toList = l.flatMap encL := by rw [hA, runesBytes_list]
  have hAs : A.size ≤ 400 := by
    have := flat_len l
    rw [← hAl, size_list] at this
    omega
  have hABs : (A ++ B).size ≤ 1400 := by rw [ByteArray.size_append]; omega
  have hABl : (A ++ B).data.toList = l.flatMap encL ++ B.data.toList := by rw [cat_list, hAl]
  have hcB := cnt_le B.data.toList
  have hcA := cnt_le A.data.toList
  rw [size_list] at hcB hcA
  refine ⟨cnt B.data.toList, rnsL A.data.toList, rnsL B.data.toList, rnsL (A ++ B).data.toList, by omega, hAs, ?_, ?_, ?_, fun W => ?_, fun W => count_any B W (by omega), fun W => ?_, fun W => ?_, fun W => ?_, fun W => ?_⟩
  · unfold rnsL; rw [List.length_map]; show cnt A.data.toList ≤ 1000; omega
  · unfold rnsL; rw [List.length_map]; show cnt B.data.toList ≤ 1000; omega
  · rw [hABl, joins_rns, hAl]
  · have h := count_any (A ++ B) W (by omega)
    rw [hABl, joins_cnt, Int.natCast_add] at h
    exact h
  · exact (runes_any (A ++ B) W (by omega)).mono fun _ _ ⟨g, c, h1, h2, h3, _⟩ => ⟨g, c, h1, h2, h3⟩
  · exact (runes_any A W (by omega)).mono fun _ _ ⟨g, c, h1, _, h3, h4⟩ => ⟨g, c, h1, h4, h3⟩
  · exact (runes_any B W (by omega)).mono fun _ _ ⟨g, c, h1, h2, h3, _⟩ => ⟨g, c, h1, h2, h3⟩
  · have h := cutF_any (A ++ B) l.length W (by omega)
    rw [cutI_nat, hABl, joins_cut, ← hAl, ofList] at h
    exact h

set_option maxRecDepth 100000 in
set_option maxHeartbeats 2000000 in
theorem joins_walk (A0 A1 : Option Addr) (c0 c1 : Nat) (l : List Int) (l1 : List UInt8) (w : World) (h0 : RunesAt w w.heap.size (.slice A0 l.length c0) l) (h1 : BytesAt w w.heap.size (.slice A1 l1.length c1) l1) :
    Calls Try.prog 6 #[.slice A0 l.length c0, .slice A1 l1.length c1] w fun e w' => e = .returned (.bool true) ∧ Below w.heap.size w w' := by
  have H0 := Lib.hid h0
  have H1 := Lib.hid h1
  clear h0 h1
  by_cases hl0 : 60 < l.length
  · go_enter Try.func6, Try.ntmps6
    go_wp2_with fail
    refine (known_any _).mono ?_
    rintro e w1 ⟨rfl, hb1⟩
    go_wp2_with fail
    go_ret
    exact ⟨rfl, hb1⟩
  by_cases hl1 : 40 < l1.length
  · go_enter Try.func6, Try.ntmps6
    go_wp2_with fail
    refine (known_any _).mono ?_
    rintro e w1 ⟨rfl, hb1⟩
    go_wp2_with fail
    go_ret
    exact ⟨rfl, hb1⟩
  obtain ⟨i0, hi, hz0, hz1, hz2⟩ := info_parts Try.info21
  obtain ⟨A, hA⟩ : ∃ A, A = runesBytes l := ⟨_, rfl⟩
  obtain ⟨B, hB⟩ : ∃ B : ByteArray, B = ⟨(mixedL l1).toArray⟩ := ⟨_, rfl⟩
  have hBs : B.size ≤ 1000 := by
    have h := mixedL_le l1
    have e : B.size = (mixedL l1).length := by rw [hB]; rfl
    omega
  obtain ⟨q, LA, LB, L, hq, hAs, hLA, hLB, hL, gAB, gB, rAB, rA, rB, fAB⟩ := joins_facts l A B (by omega) hA hBs
  have HL := Lib.hid hL
  have HB := Lib.hid hB
  clear hL hB
  have hsum : A.size + B.size ≤ 9223372036854775807 := by omega
  go_enter Try.func6, Try.ntmps6
  go_wp2_with fail
  refine (known_any _).mono ?_
  rintro e w1 ⟨rfl, hb1⟩
  have M0 := back_any _ l w1.drew _ (H0.out.on hb1.drew)
  rw [← hA] at M0
  have M1 := Lib.hid (H1.out.on hb1).drew
  clear hA
  go_wp2_with fail
  go_upto_region 5 with fail
  go_cut [5, 6] (fun s5 s6 wx => s5 = .string A ∧ s6 = .string B ∧ Below w1.heap.size w1 wx)
  case first =>
    go_region_with (first
      | (go_at_call 21; refine M0.mono ?_; rintro e w2 ⟨rfl, rfl⟩)
      | (go_at_call 10; refine (mixed_any _ l1 _ (by exact M1.out) (by omega)).mono ?_; rintro e w2 ⟨v2, rfl, hv2, hb2⟩; have hc1 := hv2.conv; rw [← HB.out] at hc1))
    go_wp2_with fail
    go_meet
    exact ⟨rfl, rfl, (Below.refl _ _).drew.trans hb2⟩
  case rest =>
    obtain ⟨rfl, rfl, hb2⟩ := hcut
    clear M0
    go_wp2_with fail
    refine (gAB _).mono ?_
    rintro e w3 ⟨rfl, hb3⟩
    go_wp2_with fail
    refine (gB _).mono ?_
    rintro e w4 ⟨rfl, hb4⟩
    go_wp2_with fail
    refine (rAB _).mono ?_
    rintro e w5 ⟨g5, c5, rfl, hR5, hb5⟩
    have R5 := Lib.hid hR5
    clear hR5
    go_wp2_with fail
    refine (rA _).mono ?_
    rintro e w6 ⟨g6, c6, rfl, hO6, hb6⟩
    have O6 := Lib.hid hO6
    clear hO6
    go_wp2_with fail
    refine (rB _).mono ?_
    rintro e w7 ⟨g7, c7, rfl, hR7, hb7⟩
    have R7 := Lib.hid hR7
    clear hR7
    have hown := ownsOn O6.out hb7
    have hnews : ∀ j u, (LB.map (Value.int .i32))[j]? = some u → w7.cell? (Addr.add ⟨g7, 0, none⟩ j) = some u := by
      intro j u hu
      rw [List.getElem?_map] at hu
      cases hx : LB[j]? with
      | none => rw [hx] at hu; cases hu
      | some x =>
        rw [hx] at hu
        injection hu with hu
        obtain ⟨A', c', hv, _, _, _, hc⟩ := R7.out
        injection hv with hv1 hv2 hv3
        rw [hc ⟨g7, 0, none⟩ hv1.symm j x hx, ← hu]
    have hs6 := hb6.size
    have hs7 := hb7.size
    have HN := Lib.hid hnews
    clear hnews
    go_wp2_with (at_builtin; go_must (refine BigFrame.wpList_want (by rfl) fun K hK => wp_append_own _ _ _ 26 rfl w5.heap.size 21 i0 (.int .i32 0) 1 4 Try.underlying26 hi hz0 hz1 hz2 rfl (by decide) _ _ _ rfl hown ⟨g7, 0, none⟩ LB.length c7 (LB.map (Value.int .i32)) rfl (by simp) HN.out (i32_cells LB) ?c1 ?c2 ?c3 ?_))
    case c1 => unfold maxLen; omega
    case c2 => omega
    case c3 => omega
    intro v' w8 hown8 hgrow _
    refine hK _ _ ?_
    clear hK
    have B8 : Below w5.heap.size w5 w8 := (thn hb6 hb7).grown hgrow (by omega) (fun g hg => (hown.lt g hg).1)
    have R8 : RunesAt w8 w8.heap.size v' L := ownsRunes (base := w5.heap.size) (by rw [HL.out, List.length_append, List.map_append]; exact hown8)
    have R5' := R5.out.below B8
    have hLs : L.length ≤ 1000000 := by rw [HL.out, List.length_append]; omega
    have fE := runes_eq _ _ L w8 _ _ hLs R5' R8
    clear R8 R5' hown8 hgrow hown HN
    go_wp2_with fail
    refine fE.mono ?_
    rintro e w9 ⟨rfl, hb9⟩
    go_wp2_with fail
    refine (fAB _).mono ?_
    rintro e w10 ⟨rfl, hb10⟩
    go_wp2_with fail
    go_ret
    exact ⟨rfl, thn hb1 (thn hb2 (thn hb3 (thn hb4 (thn hb5 (thn B8 (thn hb9 hb10))))))⟩
end Go.Proofs.Ytdefmeffdcpcaaa
