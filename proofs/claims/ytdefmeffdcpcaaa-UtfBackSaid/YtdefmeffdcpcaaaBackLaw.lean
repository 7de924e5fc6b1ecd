/- The law UtfBack: its walk. -/
import Derived.Test.YtdefmeffdcpcaaaRefBack
import Derived.Test.YtdefmeffdcpcaaaEdges
namespace Go.Proofs.Ytdefmeffdcpcaaa
open Go.RowKit Go.Lib

/-- The fifteen runes. -/
def tb15 : List Int := [97, 0, 127, 128, 2047, 2048, 55295, 55296, 57343, 57344, 65535, 65536, 1114111, 1114112, -1]
def tbAt (p : UInt8) : Int := tb15.getD (p.toNat % 15) 0
theorem tb15_at (p : UInt8) : (tb15.map (Value.int .i32)).toArray[p.toNat % 15]? = some (.int .i32 (tbAt p)) := by
  have h : p.toNat % 15 < tb15.length := Nat.mod_lt _ (by decide)
  unfold tbAt
  rw [List.getElem?_toArray, List.getElem?_map]
  simp [List.getD, List.getElem?_eq_getElem h]
theorem tb_step (l : List UInt8) (k : Nat) (h : k < l.length) : (l.take (k + 1)).map tbAt = (l.take k).map tbAt ++ [tbAt l[k]] := by
  rw [List.take_succ_eq_append_getElem h, List.map_append]
  rfl

/-- What one list of runes gives in this law. -/
theorem backl_facts (l : List Int) (hl : l.length ≤ 200) : ∃ (S : ByteArray), S = runesBytes l ∧ S.size ≤ 1000 ∧
    (∀ W, Calls Try.prog 14 #[.string S] W fun e w' => e = .returned (.int .i64 l.length) ∧ Below W.heap.size W w') := by
  have hS : (runesBytes l).data.toList = l.flatMap encL := runesBytes_list l
  have hs : (runesBytes l).size ≤ 1000 := by
    have := flat_len l
    rw [← hS, size_list] at this
    omega
  refine ⟨_, rfl, hs, fun W => ?_⟩
  have h := count_any (runesBytes l) W (by omega)
  have e := joins_cnt l []
  rw [List.append_nil, cnt_nil, Nat.add_zero] at e
  rw [hS, e] at h
  exact h

theorem lit_cells1 (w : World) (t : TypeId) (news : List Value) (C : Array Value) (b : Nat) (hC : C = news.toArray) (hb : w.heap.size = b) : ∀ j u, news[j]? = some u → (w.alloc (.cells C t)).cell? (Addr.add ⟨b, 0, none⟩ j) = some u := by
  subst hb
  exact lit_cells w t news C hC

set_option maxRecDepth 100000 in
set_option maxHeartbeats 2000000 in
theorem backl_walk (A0 A1 : Option Addr) (c0 c1 : Nat) (l0 : List Int) (l1 : List UInt8) (w : World) (h0 : RunesAt w w.heap.size (.slice A0 l0.length c0) l0) (h1 : BytesAt w w.heap.size (.slice A1 l1.length c1) l1) :
    Calls Try.prog 4 #[.slice A0 l0.length c0, .slice A1 l1.length c1] w fun e w' => e = .returned (.bool true) ∧ Below w.heap.size w w' := by
  have H0 := Lib.hid h0
  have H1 := Lib.hid h1
  clear h0 h1
  by_cases hl0 : 100 < l0.length
  · go_enter Try.func4, Try.ntmps4
    go_wp2_with fail
    refine (known_any _).mono ?_
    rintro e w1 ⟨rfl, hb1⟩
    go_wp2_with fail
    go_ret
    exact ⟨rfl, hb1⟩
  by_cases hl1 : 60 < l1.length
  · go_enter Try.func4, Try.ntmps4
    go_wp2_with fail
    refine (known_any _).mono ?_
    rintro e w1 ⟨rfl, hb1⟩
    go_wp2_with fail
    go_ret
    exact ⟨rfl, hb1⟩
  obtain ⟨i0, hi, hz0, hz1, hz2⟩ := info_parts Try.info21
  go_enter Try.func4, Try.ntmps4
  go_wp2_with fail
  refine (known_any _).mono ?_
  rintro e w1 ⟨rfl, hb1⟩
  go_wp2_with fail
  go_loopw [5, 6] (fun v i wr => ∃ k : Nat, k ≤ l1.length ∧ i = .int .i64 k ∧ wr.ownsRow w1.heap.size 21 1 v ((l1.take k).map tbAt).length (((l1.take k).map tbAt).map (Value.int .i32)) ∧ Below w1.heap.size w1 wr) (fun _ i _ => l1.length - (intOf i).toNat)
  case atStart => exact ⟨0, Nat.zero_le _, rfl, World.ownsRow_nil _ _ _ _, Below.refl _ _⟩
  case round =>
    obtain ⟨k, hk, rfl, hown, hbw⟩ := hrel
    by_cases hlt : k < l1.length
    · obtain ⟨A1', c1', hv1, _, _, hn1, hB1, hx1⟩ := H1.out
      have hne : l1 ≠ [] := by intro e; rw [e] at hlt; simp at hlt
      injection hv1 with e1 e2 e3
      subst e1; subst e3; clear e2
      cases A1 with
      | none => exact absurd (hn1 rfl) hne
      | some ad =>
        have hadB := hB1 ad rfl hne
        have hbs := hbw.size
        have hb1s := hb1.size
        have hcw : wr.cell? (ad.add k) = some (.int .u8 (l1[k].toNat : Int)) := by
          rw [hbw.cell (p := ad.add k) (by simpa [Addr.add] using (by split <;> (show ad.block < w1.heap.size; omega))), hb1.cell (p := ad.add k) (by simpa [Addr.add] using (by split <;> exact hadB))]
          exact hx1 ad rfl k _ (List.getElem?_eq_getElem hlt)
        have hadw : ad.block < wr.heap.size := by omega
        have hcell : (wr.alloc (.cells #[.int .i32 97, .int .i32 0, .int .i32 127, .int .i32 128, .int .i32 2047, .int .i32 2048, .int .i32 55295, .int .i32 55296, .int .i32 57343, .int .i32 57344, .int .i32 65535, .int .i32 65536, .int .i32 1114111, .int .i32 1114112, .int .i32 (-1)] 21)).cell? (ad.add k) = some (.int .u8 (l1[k].toNat : Int)) := by
          rw [World.cell?_alloc_lt wr _ (ad.add k) (by simpa [Addr.add] using (by split <;> exact hadw))]
          exact hcw
        have htab : (wr.alloc (.cells #[.int .i32 97, .int .i32 0, .int .i32 127, .int .i32 128, .int .i32 2047, .int .i32 2048, .int .i32 55295, .int .i32 55296, .int .i32 57343, .int .i32 57344, .int .i32 65535, .int .i32 65536, .int .i32 1114111, .int .i32 1114112, .int .i32 (-1)] 21)).cell? ⟨wr.heap.size, l1[k].toNat % 15, none⟩ = some (.int .i32 (tbAt l1[k])) := by
          rw [cell_of_row (wr.alloc _) wr.heap.size _ _ 21 (0, 0) (heap_alloc_new wr _)]
          exact tb15_at _
        have hp15 : l1[k].toNat % 15 < 15 := Nat.mod_lt _ (by decide)
        have hp256 : l1[k].toNat < 256 := l1[k].toNat_lt
        have hstep := Lib.hid (tb_step l1 k hlt)
        have hlen : ((l1.take k).map tbAt).length = k := by rw [List.length_map, List.length_take]; omega
        rw [hlen] at hown
        have HLK := Lib.hid hlen
        generalize (l1.take k).map tbAt = done at *
        generalize tbAt l1[k] = R at *
        generalize l1[k] = p at *
        clear hcw hx1 hn1 hB1 hlen
        go_wp2_with (at_builtin; go_must (refine wpList_append_own _ rfl _ _ 26 rfl w1.heap.size 21 i0 (.int .i32 0) 1 4 Try.underlying26 hi hz0 hz1 hz2 rfl (by decide) _ _ _ rfl ((hown.alloc _).alloc _) ⟨wr.heap.size + 1, 0, none⟩ 1 1 [.int .i32 R] rfl rfl (lit_cells1 _ _ _ _ _ rfl (by simp)) (by simp [Value.oneCell']) (by unfold maxLen; omega) (by omega) (by simp; omega) ?_))
        intro v' w2 hown2 hgrow _
        go_wp2_with fail
        go_roundw
        case rel =>
          refine ⟨k + 1, by omega, by go_num, ?_, ((hbw.alloc hbs _).alloc (by simp; omega) _).grown hgrow (by simp; omega) (fun g hg => (hown.lt g hg).1)⟩
          rw [hstep.out, List.length_append, List.map_append, HLK.out]
          exact hown2
        case measure => simp [intOf]; omega
    · have e1 : l1.take k = l1 := List.take_of_length_le (by omega)
      rw [e1] at hown
      have hR := ownsRunes hown
      have hlm : (l1.map tbAt).length = l1.length := by rw [List.length_map]
      have HLM := Lib.hid hlm
      generalize l1.map tbAt = m at *
      obtain ⟨A2, c2, hv, _⟩ := id hR
      subst hv
      have R0 := Lib.hid ((H0.out.on hb1).on hbw)
      have R2 := Lib.hid hR
      have hm60 : m.length ≤ 60 := by rw [HLM.out]; omega
      have B1 := thn hb1 hbw
      clear hown hR hlm e1
      obtain ⟨wo, rfl⟩ : ∃ wo : World, wo = wr := ⟨_, rfl⟩
      go_wp2_with fail
      go_loopw [42] (fun i wi => ∃ j : Nat, j ≤ 2 ∧ i = .int .i64 j ∧ wi.heap[wo.heap.size]? = some (.cells #[.slice A0 l0.length c0, .slice A2 m.length c2] 26 (0, 0)) ∧ Below wo.heap.size wo wi) (fun i _ => 2 - (intOf i).toNat)
      case atStart => exact ⟨0, by omega, rfl, heap_alloc_new _ _, (Below.refl _ _).alloc (Nat.le_refl _) _⟩
      case round =>
        obtain ⟨j, hj, rfl, hblk, hbx⟩ := hrel
        by_cases hj2 : j < 2
        · obtain ⟨A3, n3, c3, l3, hX, hV, hn3, hl3⟩ : ∃ (A3 : Option Addr) (n3 c3 : Nat) (l3 : List Int), wr.cell? ⟨wo.heap.size, j, none⟩ = some (.slice A3 n3 c3) ∧ Hid (RunesAt wr wr.heap.size (.slice A3 n3 c3) l3) ∧ n3 = l3.length ∧ l3.length ≤ 200 := by
            rw [cell_of_row wr wo.heap.size j _ _ _ hblk]
            match j, hj2 with
            | 0, _ => exact ⟨_, _, _, l0, rfl, R0.out.on hbx, rfl, by omega⟩
            | 1, _ => exact ⟨_, _, _, m, rfl, R2.out.on hbx, rfl, by omega⟩
          subst hn3
          have HBK := Lib.hid hblk
          clear hblk
          obtain ⟨S, hS, hSs, fC⟩ := backl_facts l3 hl3
          have fB := back_any _ l3 wr _ hV.out
          have fR := rback_any _ l3 wr hV.out (by omega)
          rw [← hS] at fB fR
          clear hS
          go_wp2_with fail
          refine fB.mono ?_
          rintro e w' ⟨rfl, rfl⟩
          go_wp2_with fail
          refine fR.mono ?_
          rintro e w4 ⟨rfl, hb4⟩
          go_wp2_with fail
          refine (fC _).mono ?_
          rintro e w5 ⟨rfl, hb5⟩
          obtain ⟨W6, c6, hcv6, hb6, hs6, hge6, hx6, hcm6⟩ := bytes_convM S w5 (by omega)
          have V6 := bytesAt_conv S w5 W6 c6 hs6 hge6 hx6 hcm6
          have q6 := check_any _ S.data.toList W6 V6 (by rw [size_list]; omega)
          have Q7 := Lib.hid (fun W (hb : Below W6.heap.size W6 W) => rcheck_any _ S.data.toList W _ (V6.on hb) (by rw [size_list]; omega))
          generalize chkL S.data.toList = q at *
          clear V6 hx6 hs6 hge6 hcm6
          go_wp2_with fail
          refine q6.mono ?_
          rintro e w7 ⟨rfl, hb7⟩
          have q7 := Q7.out w7 hb7
          go_wp2_with fail
          refine q7.mono ?_
          rintro e w' ⟨rfl, rfl⟩
          have BB := thn hb4 (thn hb5 (thn hb6 hb7))
          go_wp2_with fail
          go_roundw
          case rel => exact cuts_rel hj hj2 HBK.out hbx BB
          case measure => simp [intOf]; omega
        · go_wp2_with fail
          go_ret
          exact ⟨rfl, thn B1 hbx⟩
end Go.Proofs.Ytdefmeffdcpcaaa
