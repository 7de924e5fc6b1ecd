/- The law CastCounts, walked. -/
import Derived.Test.YtpjlnienakiihaaDoorCount
import Derived.Deep.RegionHeld3
namespace Go.Proofs.YtpjlnienakiihaaDoor
open Go.RowKit Go.Lib

theorem pk_info : (Tryd.prog.info? 28).map (fun i => (i.zero, i.size, i.bytes)) = some (some (.agg pk0C), 24, 288) := by kernel_rfl
theorem cnt_eqIn (l : List Int) (W : World) : (Op.equalIn 10000 51 (.agg (cntC l)) (.agg (cntC l))).run Tryd.prog W = .ok true W := by
  have u3 := Tryd.underlying3
  have a3 := Tryd.isAgg3
  have z3 := Tryd.sizeOf3
  rw [show (10000 : Nat) = 9999 + 1 from rfl, Op.equalIn]
  simp only [cntC, Sem.run_bind, run_underlying Tryd.underlying51, Result.andThen_ok]
  simp only [Std.Legacy.Range.forIn_eq_forIn_range', Std.Legacy.Range.size, Nat.sub_zero, Nat.add_sub_cancel, Nat.div_one, List.range'_succ, List.range'_zero, List.forIn_cons, List.forIn_nil]
  go_simp
theorem cnt_eq (l : List Int) (W : World) : (binOp .eql 51 (.agg (cntC l)) (.agg (cntC l))).run Tryd.prog W = .ok (.bool true) W := by
  rw [run_eql_struct, cnt_eqIn]; rfl
theorem bs_one (y : Int) (W : World) : (Instr.buildSlice 32 1 #[(0, .agg (pkC (pkK y) sv0))]).run Tryd.prog W = .ok (.slice (some ⟨W.heap.size, 0, none⟩) 1 1) (W.alloc (.cells (pkC (pkK y) sv0) 28)) := by kernel_rfl

theorem add0 (g j : Nat) : (⟨g, 0, none⟩ : Addr).add j = ⟨g, j, none⟩ := by unfold Addr.add; split <;> simp_all
theorem news_at (w : World) (o : Obj) (cs : Array Value) (T : TypeId) (j : Nat) (u : Value) (hj : cs.toList[j]? = some u) : ((w.alloc o).alloc (.cells cs T)).cell? ((⟨w.heap.size + 1, 0, none⟩ : Addr).add j) = some u := by
  rw [add0, cell_of_row _ _ j _ _ _ (heap_alloc2_new w o (.cells cs T))]
  simpa using hj
theorem bs_pk {ops : Array Oper} {rest : List Oper} {a : Act} {w : World} {Q : Exit → Act → World → Prop} {d : Option Tmp} {x : Operand} {ty : TypeId} {ps : String} {af : Array Edge}
    (g : Nat) (hg : w.heap.size = g) (y : Int) (hx : a.eval x = .agg (pkC (pkK y) sv0))
    (h : wpList Tryd.prog ops Q rest (a.put d (.slice (some ⟨g, 0, none⟩) 1 1)) (w.alloc (.cells (pkC (pkK y) sv0) 28))) :
    wpList Tryd.prog ops Q ({ dst := d, op := .buildSlice 32 1 #[(0, x)], type := ty, pos := ps, after := af, guard := none } :: rest) a w :=
  wpList_plain rfl fun K hK => by
    subst hg
    unfold Oper.wp execOp
    simp only [Sem.run_bind, List.map_toArray, List.map_cons, List.map_nil, hx, bs_one, Result.andThen_ok]
    exact hK _ _ h
theorem pksC_snoc (l : List Int) (y : Int) : pksC (l ++ [y]) = pksC l ++ (pkC (pkK y) sv0).toList := by simp [pksC]
def kindsL (l : List UInt8) : List Int := l.map fun b => ((b.toNat : Int) % 17)
theorem kinds_len (l : List UInt8) : (kindsL l).length = l.length := by simp [kindsL]

set_option maxRecDepth 100000 in
set_option maxHeartbeats 600000 in
theorem counts_walk (v : Value) (l : List UInt8) (w : World) (hv : BytesAt w w.heap.size v l) (hN : NamesAt w) :
    Calls Tryd.prog 5 #[v] w fun e w' => e = .returned (.bool true) ∧ Below w.heap.size w w' := by
  obtain ⟨A, c, rfl, hlc, hcm, hnil, hblk, hcell⟩ := hv
  have HK := Lib.hid (known_any w hN)
  have HC := Lib.hid hcell
  have HB := Lib.hid hblk
  clear hN hcell hblk
  by_cases hl : l.length ≤ 100
  · go_enter Tryd.func5, Tryd.ntmps5
    go_wp2_with fail
    refine HK.out.mono ?_
    rintro e w1 ⟨rfl, hb1⟩
    go_wp2_with fail
    go_loopw [3, 5] (fun v i wr => ∃ (k : Nat) (A' : Option Addr) (c' : Nat), k ≤ l.length ∧ i = .int .i64 k ∧ v = .slice A' k c' ∧ wr.ownsRow (w1.heap.size + 1) 28 24 (.slice A' k c') k (pksC (kindsL (l.take k))) ∧ wr.heap[w1.heap.size]? = some (.cells (cntC (kindsL (l.take k))) 51 (0, 0)) ∧ Below w.heap.size w wr) (fun _ i _ => l.length - (intOf i).toNat)
    case atStart => exact ⟨0, none, 0, Nat.zero_le _, rfl, rfl, World.ownsRow_nil _ _ _ _, heap_alloc_new w1 _, by (repeat (first | assumption | exact Below.refl _ _ | exact (Below.refl _ _).alloc (Nat.le_refl _) _ | (refine thn ?_ (by assumption)) | (refine alB ?_ _) | (refine dwN ?_ _) | (refine Below.drew ?_)))⟩
    case round =>
      obtain ⟨k, A', c', hk, rfl, rfl, ho, hr, hb⟩ := hrel
      by_cases hlt : k < l.length
      · rcases A with _ | ad
        · have := hnil rfl; rw [this] at hlt; simp at hlt
        have hx := HC.out ad rfl k l[k] (List.getElem?_eq_getElem hlt)
        have hbl := HB.out ad rfl (by intro e; rw [e] at hlt; simp at hlt)
        rw [← hb.cell (p := ad.add k) (by rw [add_block]; exact hbl)] at hx
        have hts : kindsL (l.take (k + 1)) = kindsL (l.take k) ++ [((l[k].toNat : Int) % 17)] := by unfold kindsL; rw [List.take_succ_eq_append_getElem hlt, List.map_append]; rfl
        have hx0 : 0 ≤ (l[k].toNat : Int) := by omega
        have hx1 : (l[k].toNat : Int) ≤ 255 := by have := UInt8.toNat_lt l[k]; omega
        have hkc : k < c := by omega
        have hle := fun f => Nat.le_trans (cnt_le f (kindsL (l.take k))) (Nat.le_trans (Nat.le_of_eq (kinds_len _)) (Nat.le_trans (List.length_take_le _ _) hk))
        have hlen : (pksC (kindsL (l.take k))).length = k * 24 := by rw [pksC_len, kinds_len, List.length_take]; omega
        have hgl := fun g hg => (ho.lt g hg)
        have HTS := Lib.hid hts
        clear hts
        generalize (l[k].toNat : Int) = x at *
        generalize hK : kindsL (l.take k) = K at *
        have HO := Lib.hid ho
        have HR := Lib.hid hr
        have HLN := Lib.hid hlen
        have HGL := Lib.hid hgl
        have HKK := Lib.hid hK
        have HLE := Lib.hid hle
        obtain ⟨i0, hi, hz0, hz1, hz2⟩ := info_parts pk_info
        clear ho hr hlen hgl hK hle
        go_wp2_with (first
          | ((with_reducible show wpList _ _ _ ({ dst := _, op := Op.store 28 (Operand.tmp 6) _, type := _, pos := _, after := _, guard := _ } :: _) _ _); refine stL wr.heap.size (by rfl) _ (pkC (pkK (x % 17)) sv0) (by rfl) (by rfl) (by rfl) (by rfl) pk_sz (pk_one _ _) ?_)
          | ((with_reducible show wpList _ _ _ ({ dst := _, op := Op.load 28 (Operand.tmp 6), type := _, pos := _, after := _, guard := _ } :: _) _ _); refine ld_pk wr.heap.size (by rfl) (by rfl) (pkC (pkK (x % 17)) sv0) _ _ (heap_alloc_new _ _) (by rfl) ?_)
          | ((with_reducible show wpList _ _ _ ({ dst := _, op := Op.buildSlice 32 _ _, type := _, pos := _, after := _, guard := _ } :: _) _ _); refine bs_pk (wr.heap.size + 1) (by simp) (x % 17) (by rfl) ?_)
          | (at_builtin; go_must (refine wpList_append_own_at _ rfl _ _ 32 rfl (w1.heap.size + 1) 28 i0 (.agg pk0C) 24 288 Tryd.underlying32 hi hz0 hz1 hz2 rfl (by decide) _ k (pksC K) (by rfl) ((HO.out.alloc _).alloc _) ⟨wr.heap.size + 1, 0, none⟩ 1 1 (pkC (pkK (x % 17)) sv0).toList (by rfl) (by rfl) (fun j u hj => ?_) (fun u hu => ?_) (by unfold maxLen; omega) (by omega) (by have := (HR.out); have := (Array.getElem?_eq_some_iff.1 this).1; simp; omega) ?_)))
        · exact news_at wr _ _ _ j u hj
        · exact List.all_eq_true.1 (pk_one (pkK (x % 17)) sv0) u hu
        · intro v' w3 h2 h3 h4 h5
          rw [← pksC_snoc] at h2
          have hne1 : (Value.slice A' k c').ownBlock ≠ some w1.heap.size := by intro e; have := (HGL.out _ e).1; omega
          have hne2 : (Value.slice A' k c').ownBlock ≠ some wr.heap.size := by intro e; have := (HGL.out _ e).2; omega
          have g1 : w1.heap.size < wr.heap.size := (Array.getElem?_eq_some_iff.1 HR.out).1
          have hr3 : w3.heap[w1.heap.size]? = some (.cells (cntC K) 51 (0, 0)) := by
            rw [h3.block _ (by simp; omega) hne1.symm]; exact heap_keep (heap_keep HR.out)
          have hp3 : w3.heap[wr.heap.size]? = some (.cells (pkC (pkK (x % 17)) sv0) 28 (0, 0)) := by
            rw [h3.block _ (by first | (simp; done) | (simp; omega)) hne2.symm]; exact heap_alloc2_old _ _ _
          have hb3 : Below w.heap.size w w3 := (alB (alB hb _) _).grown h3 (by have := hb.size; simp; omega) (fun q hq => by have := (HGL.out _ hq).1; have := hb1.size; omega)
          rcases h2.2 with ⟨e, _⟩ | ⟨g', cap', cur', hv', _⟩
          · exact absurd e (by first | exact h4 | (intro e2; have := (h4.1 e2).2; omega))
          subst hv'
          have H2 := Lib.hid h2
          have P3 := row_cells (heap_keep (o' := .cells #[.string ⟨#[103, 114, 101, 101, 116, 105, 110, 103]⟩, .string ⟨#[109, 101, 115, 115, 97, 103, 101]⟩, .string ⟨#[97, 99, 107]⟩, .string ⟨#[97, 115, 107]⟩, .string ⟨#[115, 105, 103, 110, 97, 108]⟩] 9) hp3)
          have HP3 := Lib.hid hp3
          have HR3 := Lib.hid hr3
          clear h2 h3 h4 h5 hne1 hne2 hr3 hp3 hi hz0 hz1 hz2
          have C3 := row_cells (heap_keep (o' := (.cells #[.string ⟨#[103, 114, 101, 101, 116, 105, 110, 103]⟩, .string ⟨#[109, 101, 115, 115, 97, 103, 101]⟩, .string ⟨#[97, 99, 107]⟩, .string ⟨#[97, 115, 107]⟩, .string ⟨#[115, 105, 103, 110, 97, 108]⟩] 9)) HR3.out)
          have F3 := fun j => frozen_of_row _ _ j _ _ (heap_keep (o' := (.cells #[.string ⟨#[103, 114, 101, 101, 116, 105, 110, 103]⟩, .string ⟨#[109, 101, 115, 115, 97, 103, 101]⟩, .string ⟨#[97, 99, 107]⟩, .string ⟨#[97, 115, 107]⟩, .string ⟨#[115, 105, 103, 110, 97, 108]⟩] 9)) HR3.out)
          have g3 : wr.heap.size < w3.heap.size := (Array.getElem?_eq_some_iff.1 HP3.out).1
          have n1 : ¬ w1.heap.size = wr.heap.size := by omega
          have n2 : ¬ wr.heap.size = w1.heap.size := by omega
          have n3 : ¬ w1.heap.size = w3.heap.size := by omega
          have n4 : ¬ w3.heap.size = w1.heap.size := by omega
          go_wp2_with fail
          rcases form_cases (x % 17) with h | h | h | h | h | h
          · have NM : ∀ W, Calls Tryd.prog 12 #[.int .i64 (x % 17)] W fun e w' => e = .returned (.string ⟨#[103, 114, 101, 101, 116, 105, 110, 103]⟩) ∧ W = w' := fun W => (lawName_any (x % 17) W).mono fun e w' he => ⟨by rw [he.1, h]; rfl, he.2⟩
            have H := Lib.hid h
            clear h
            have l0 := HLE.out 0
            refine wp_loop_rounds 6 ?_
            iterate 6
              rw [rounds_succ]
              go_wp2_with (go_at_call 12; refine (NM _).mono ?_; rintro e w' ⟨rfl, rfl⟩)
            refine ⟨⟨k + 1, _, _, hlt, by go_num, rfl, ?_, ?_, (alB hb3 _).setCell hb1.size _⟩, by simp [intOf]; omega⟩
            · rw [HTS.out]; exact ownsRow_setCell_below (H2.out.alloc _) (Nat.lt_succ_self _) _
            · rw [HTS.out, ← cntC_step_0 _ _ H.out]; exact heap_setCell_same _ _ 0 _ _ _ (heap_keep HR3.out)
          · have NM : ∀ W, Calls Tryd.prog 12 #[.int .i64 (x % 17)] W fun e w' => e = .returned (.string ⟨#[109, 101, 115, 115, 97, 103, 101]⟩) ∧ W = w' := fun W => (lawName_any (x % 17) W).mono fun e w' he => ⟨by rw [he.1, h]; rfl, he.2⟩
            have H := Lib.hid h
            clear h
            have l0 := HLE.out 1
            refine wp_loop_rounds 6 ?_
            iterate 6
              rw [rounds_succ]
              go_wp2_with (go_at_call 12; refine (NM _).mono ?_; rintro e w' ⟨rfl, rfl⟩)
            refine ⟨⟨k + 1, _, _, hlt, by go_num, rfl, ?_, ?_, (alB hb3 _).setCell hb1.size _⟩, by simp [intOf]; omega⟩
            · rw [HTS.out]; exact ownsRow_setCell_below (H2.out.alloc _) (Nat.lt_succ_self _) _
            · rw [HTS.out, ← cntC_step_1 _ _ H.out]; exact heap_setCell_same _ _ 1 _ _ _ (heap_keep HR3.out)
          · have NM : ∀ W, Calls Tryd.prog 12 #[.int .i64 (x % 17)] W fun e w' => e = .returned (.string ⟨#[97, 99, 107]⟩) ∧ W = w' := fun W => (lawName_any (x % 17) W).mono fun e w' he => ⟨by rw [he.1, h]; rfl, he.2⟩
            have H := Lib.hid h
            clear h
            have l0 := HLE.out 2
            refine wp_loop_rounds 6 ?_
            iterate 6
              rw [rounds_succ]
              go_wp2_with (go_at_call 12; refine (NM _).mono ?_; rintro e w' ⟨rfl, rfl⟩)
            refine ⟨⟨k + 1, _, _, hlt, by go_num, rfl, ?_, ?_, (alB hb3 _).setCell hb1.size _⟩, by simp [intOf]; omega⟩
            · rw [HTS.out]; exact ownsRow_setCell_below (H2.out.alloc _) (Nat.lt_succ_self _) _
            · rw [HTS.out, ← cntC_step_2 _ _ H.out]; exact heap_setCell_same _ _ 2 _ _ _ (heap_keep HR3.out)
          · have NM : ∀ W, Calls Tryd.prog 12 #[.int .i64 (x % 17)] W fun e w' => e = .returned (.string ⟨#[97, 115, 107]⟩) ∧ W = w' := fun W => (lawName_any (x % 17) W).mono fun e w' he => ⟨by rw [he.1, h]; rfl, he.2⟩
            have H := Lib.hid h
            clear h
            have l0 := HLE.out 3
            refine wp_loop_rounds 6 ?_
            iterate 6
              rw [rounds_succ]
              go_wp2_with (go_at_call 12; refine (NM _).mono ?_; rintro e w' ⟨rfl, rfl⟩)
            refine ⟨⟨k + 1, _, _, hlt, by go_num, rfl, ?_, ?_, (alB hb3 _).setCell hb1.size _⟩, by simp [intOf]; omega⟩
            · rw [HTS.out]; exact ownsRow_setCell_below (H2.out.alloc _) (Nat.lt_succ_self _) _
            · rw [HTS.out, ← cntC_step_3 _ _ H.out]; exact heap_setCell_same _ _ 3 _ _ _ (heap_keep HR3.out)
          · have NM : ∀ W, Calls Tryd.prog 12 #[.int .i64 (x % 17)] W fun e w' => e = .returned (.string ⟨#[115, 105, 103, 110, 97, 108]⟩) ∧ W = w' := fun W => (lawName_any (x % 17) W).mono fun e w' he => ⟨by rw [he.1, h]; rfl, he.2⟩
            have H := Lib.hid h
            clear h
            have l0 := HLE.out 4
            refine wp_loop_rounds 6 ?_
            iterate 6
              rw [rounds_succ]
              go_wp2_with (go_at_call 12; refine (NM _).mono ?_; rintro e w' ⟨rfl, rfl⟩)
            refine ⟨⟨k + 1, _, _, hlt, by go_num, rfl, ?_, ?_, (alB hb3 _).setCell hb1.size _⟩, by simp [intOf]; omega⟩
            · rw [HTS.out]; exact ownsRow_setCell_below (H2.out.alloc _) (Nat.lt_succ_self _) _
            · rw [HTS.out, ← cntC_step_4 _ _ H.out]; exact heap_setCell_same _ _ 4 _ _ _ (heap_keep HR3.out)
          · have NM : ∀ W, Calls Tryd.prog 12 #[.int .i64 (x % 17)] W fun e w' => e = .returned (.string ⟨#[110, 111, 110, 101]⟩) ∧ W = w' := fun W => (lawName_any (x % 17) W).mono fun e w' he => ⟨by rw [he.1, h]; rfl, he.2⟩
            have H := Lib.hid h
            clear h
            refine wp_loop_rounds 6 ?_
            iterate 6
              rw [rounds_succ]
              go_wp2_with (go_at_call 12; refine (NM _).mono ?_; rintro e w' ⟨rfl, rfl⟩)
            refine ⟨⟨k + 1, _, _, hlt, by go_num, rfl, ?_, ?_, alB hb3 _⟩, by simp [intOf]; omega⟩
            · rw [HTS.out]; exact H2.out.alloc _
            · rw [HTS.out, ← cntC_step_5 _ _ H.out]; exact heap_keep HR3.out
      · have et : l.take k = l := List.take_of_length_le (by omega)
        rw [et] at ho hr
        have ek : k = l.length := by omega
        subst ek
        have hlen : l.length = (kindsL l).length := (kinds_len l).symm
        have hl2 : (kindsL l).length ≤ 1000 := by omega
        have HL := Lib.hid hlen
        have HL2 := Lib.hid hl2
        generalize kindsL l = K at *
        have HO := Lib.hid ho
        have HR := Lib.hid hr
        clear hlen et ho hr hl2
        go_wp2_with fail
        refine wp_region_held_drew (S := fun W => W.heap[w1.heap.size]? = some (.cells (cntC K) 51 (0, 0)) ∧ W.ownsRow (w1.heap.size + 1) 28 24 (.slice A' l.length c') l.length (pksC K) ∧ Below w.heap.size w W) (by rfl) ⟨HR.out, own_below HO.out (Below.drew (Below.refl _ _)), hb.drew⟩ ?_
        intro hT
        apply wpAnyH_take (i := 0) (v := .slice A' l.length c')
        case hi => rfl
        case hs => kernel_rfl
        case hf => kernel_rfl
        case hr => kernel_rfl
        case hQ => exact fun _ _ _ h => h
        case hS => exact hT
        case hy => exact .inl ⟨by rfl, fun W _ => rfl⟩
        apply wpAnyH_take (i := 2) (v := .agg (cntC K))
        case hi => rfl
        case hs => kernel_rfl
        case hf => kernel_rfl
        case hr => kernel_rfl
        case hQ => exact fun _ _ _ h => h
        case hS => exact hT
        case hy => exact .inl ⟨by rfl, fun W hW => by have C := row_cells hW.1; simp [execOp, go_sem, C]; rfl⟩
        refine wpAnyH_ready (rs := [1]) (by kernel_rfl) (by simp) (AllReadyH.cons (by rfl) ?_ AllReadyH.nil)
        intro K' hK
        rw [if_pos (by rfl)]
        go_wp2_with fail
        refine (Count_any A' c' l.length _ K _ hT.2.1 HL.out HL2.out).mono ?_
        rintro e w9 ⟨rfl, hb9⟩
        have hT9 : w9.heap[w1.heap.size]? = some (.cells (cntC K) 51 (0, 0)) ∧ w9.ownsRow (w1.heap.size + 1) 28 24 (.slice A' l.length c') l.length (pksC K) ∧ Below w.heap.size w w9 := ⟨heap_below hb9 hT.1, own_below hT.2.1 hb9, thn hT.2.2 hb9⟩
        go_wp2_with fail
        refine hK.out _ _ hT9 ?_
        clear hK K' hT hb9
        intro hT
        apply wpAnyH_take (i := 3) (v := .bool true)
        case hi => rfl
        case hs => kernel_rfl
        case hf => kernel_rfl
        case hr => kernel_rfl
        case hQ => exact fun _ _ _ h => h
        case hS => exact hT
        case hy => exact .inl ⟨by rfl, fun W _ => by simp [execOp, go_sem, cnt_eqIn K W]⟩
        apply wpAnyH_take (i := 4) (v := .bool true)
        case hi => rfl
        case hs => kernel_rfl
        case hf => kernel_rfl
        case hr => kernel_rfl
        case hQ => exact fun _ _ _ h => h
        case hS => exact hT
        case hy => exact .inl ⟨by rfl, fun W _ => rfl⟩
        refine wpAnyH_done (by kernel_rfl) ?_ _
        go_wp2_with fail
        go_ret
        exact ⟨rfl, hT.2.2⟩
  · go_enter Tryd.func5, Tryd.ntmps5
    go_wp2_with fail
    refine HK.out.mono ?_
    rintro e w1 ⟨rfl, hb1⟩
    go_wp2_with fail
    go_ret
    exact ⟨rfl, by (repeat (first | assumption | exact Below.refl _ _ | exact (Below.refl _ _).alloc (Nat.le_refl _) _ | (refine thn ?_ (by assumption)) | (refine alB ?_ _) | (refine dwN ?_ _) | (refine Below.drew ?_)))⟩

end Go.Proofs.YtpjlnienakiihaaDoor
