/- Reading: wire.Read, whatever the bytes are. -/
import Derived.Test.YtkeocnobninaaaaZWPut
import Derived.Deep.RegionHeld3
namespace Go.Proofs.Ytkeocnobninaaaa
open Go.RowKit Go.Lib
set_option linter.unusedVariables false

set_option maxRecDepth 100000 in
set_option maxHeartbeats 8000000 in
theorem wread_in (ad : Addr) (cap : Nat) (b : List UInt8) (c : Int) (w : World) (hv : BytesAt w w.heap.size (.slice (some ad) b.length cap) b) (hm : b.length ≤ 1000000) (z0 : w.cell? ad = some (.int .u8 c)) (c0 : 0 ≤ c) (c1 : c ≤ 255) (k0 : 1 ≤ c / 16) (k1 : c / 16 ≤ 14)
    (i j : Nat) (hij : i ≤ j) (hj : j ≤ b.length) (hn0 : 0 < b.length) (hT : bndP b = ((i : Int), (j : Int), 0)) (q : Pk) (hq : q = parR c ((b.take j).drop i)) (RES : Pk × Int × Int) (hRES : RES = if rightP q && decide (encP q = b.take j) then (q, (j : Int), 0) else (pk0, 0, 21)) :
    Calls Try.prog 23 #[.slice (some ad) b.length cap] w (RdPost w RES) := by
  have HB := Lib.hid (bounds_any (some ad) cap b w.heap.size (w.alloc (.cells (pkC pk0 sv0) 28)) (by simp) (hv.to (Nat.le_refl _) ((Below.refl _ _).alloc (Nat.le_refl _) _)) hm i j 0 hT)
  have hcap : b.length ≤ cap ∧ cap ≤ 9223372036854775807 := by
    obtain ⟨A', c', hv1, hc, hm', hz, _⟩ := hv
    injection hv1 with v1 v2 v3
    subst v3
    exact ⟨hc, hm'⟩
  have hSL := sl_at hv i j hij hj
  have hlen : ((b.take j).drop i).length = j - i := by rw [List.length_drop, List.length_take]; omega
  have ok : PkOk q := by rw [hq]; exact par_ok c c0 c1 _ (by omega)
  have HPAR := Lib.hid (fun (W : World) (hW : Below w.heap.size w W) => by
    have h1 := (hSL.below hW).more hW.size
    unfold slV at h1
    rw [← hlen] at h1
    have h2 := parse_any c c0 c1 k0 k1 ((b.take j).drop i) _ _ W h1 (by omega)
    rw [← hq, hlen] at h2
    exact (h2 : Calls Try.prog 54 #[.int .u8 c, slV ad cap i j] W (ParPost W q)))
  have hTK := Lib.hid (fun (W : World) (hW : Below w.heap.size w W) => by
    have h1 := BytesAt.tk (hv.below hW) j hj
    exact h1)
  have HRES := Lib.hid hRES
  have OK := Lib.hid ok
  have zlt : ad.block < w.heap.size := World.block_lt_of_cell? _ _ z0
  clear hv hSL hq hT hlen ok hRES
  generalize b.take j = bj at *
  generalize b.length = n at *
  go_enter Try.func23, Try.ntmps23
  go_wp2_with fail
  refine HB.out.mono ?_
  rintro e w1 ⟨rfl, hb1⟩
  have B1 : Hid (Below w.heap.size w w1) := Lib.hid (thn ((Below.refl _ _).alloc (Nat.le_refl _) _) hb1)
  have R0 := Lib.hid (heap_below hb1 (heap_alloc_last _ _))
  have z1 : w1.cell? ad = some (.int .u8 c) := (B1.out.cell (p := ad) zlt).trans z0
  have zs : w.heap.size < w1.heap.size := by have := hb1.size; simp at this; omega
  clear hb1 HB z0
  go_wp2_with fail
  refine wp_region_held_drew (S := fun W => W.cell? ad = some (.int .u8 c)) (by rfl) z1 ?_
  intro hS
  apply wpAnyH_take (i := 0) (v := .slice (some ad) n cap)
  case hi => rfl
  case hs => kernel_rfl
  case hf => kernel_rfl
  case hr => kernel_rfl
  case hQ => exact fun _ _ _ h => h
  case hS => exact hS
  case hy => exact .inl ⟨by rfl, fun W hW => rfl⟩
  apply wpAnyH_take (i := 1) (v := .pointer (some ad))
  case hi => rfl
  case hs => kernel_rfl
  case hf => kernel_rfl
  case hr => kernel_rfl
  case hQ => exact fun _ _ _ h => h
  case hS => exact hS
  case hy => exact .inl ⟨by rfl, fun W hW => by simp [execOp, go_sem, *]⟩
  apply wpAnyH_take (i := 2) (v := .int .u8 c)
  case hi => rfl
  case hs => kernel_rfl
  case hf => kernel_rfl
  case hr => kernel_rfl
  case hQ => exact fun _ _ _ h => h
  case hS => exact hS
  case hy => exact .inl ⟨by rfl, fun W hW => by simp [execOp, go_sem, hW]⟩
  apply wpAnyH_take (i := 3) (v := .slice (some ad) n cap)
  case hi => rfl
  case hs => kernel_rfl
  case hf => kernel_rfl
  case hr => kernel_rfl
  case hQ => exact fun _ _ _ h => h
  case hS => exact hS
  case hy => exact .inl ⟨by rfl, fun W hW => rfl⟩
  apply wpAnyH_take (i := 4) (v := .int .i64 (i : Int))
  case hi => rfl
  case hs => kernel_rfl
  case hf => kernel_rfl
  case hr => kernel_rfl
  case hQ => exact fun _ _ _ h => h
  case hS => exact hS
  case hy => exact .inl ⟨by rfl, fun W hW => rfl⟩
  apply wpAnyH_take (i := 5) (v := .int .i64 (j : Int))
  case hi => rfl
  case hs => kernel_rfl
  case hf => kernel_rfl
  case hr => kernel_rfl
  case hQ => exact fun _ _ _ h => h
  case hS => exact hS
  case hy => exact .inl ⟨by rfl, fun W hW => rfl⟩
  apply wpAnyH_take (i := 6) (v := slV ad cap i j)
  case hi => rfl
  case hs => kernel_rfl
  case hf => kernel_rfl
  case hr => kernel_rfl
  case hQ => exact fun _ _ _ h => h
  case hS => exact hS
  case hy => exact .inl ⟨by rfl, fun W hW => sl_exec (ad := ad) (n := n) (cap := cap) (i := (i : Int)) (j := (j : Int)) rfl rfl rfl rfl (by omega) (by omega) (by omega) W⟩
  refine wpAnyH_ready (rs := [7, 8]) (by kernel_rfl) (by simp) (AllReadyH.cons (by rfl) ?_ (AllReadyH.cons (by rfl) ?_ AllReadyH.nil))
  · intro K' hK
    rw [if_pos (by rfl)]
    go_wp2_with fail
    refine (HPAR.out _ (Below.drew B1.out)).mono ?_
    rintro e w2 ⟨s, rfl, hpk, hb2⟩
    have z2 : w2.cell? ad = some (.int .u8 c) := (hb2.cell (p := ad) (Nat.lt_trans zlt zs)).trans z1
    go_wp2_with fail
    refine hK.out _ _ z2 ?_
    clear hK K' hS
    intro hS
    refine wpAnyH_ready (rs := [8]) (by kernel_rfl) (by simp) (AllReadyH.cons (by rfl) ?_ AllReadyH.nil)
    intro K' hK
    rw [if_pos (by rfl)]
    go_wp2_with fail
    refine hK.out _ _ (World.cell?_alloc_some _ _ _ (by rw [z2]; rfl) |>.trans z2) ?_
    clear hK K' hS
    intro hS
    refine wpAnyH_ready (rs := [9]) (by kernel_rfl) (by simp) (AllReadyH.cons (by rfl) ?_ AllReadyH.nil)
    intro K' hK
    rw [if_pos (by rfl)]
    refine wp_store_row 28 _ _ rfl (w2.heap.size) (pkC q s) (by rfl) (by rfl) 28 (pkC pk0 sv0) (heap_alloc_last _ _) pk_sz (by rfl) (by rw [← Array.all_toList]; exact pkc_one _ _) ?_
    rw [World.setRow_alloc_new]
    refine hK.out _ _ (World.cell?_alloc_some _ _ _ (by rw [z2]; rfl) |>.trans z2) ?_
    clear hK K' hS
    intro hS
    refine wpAnyH_done (by kernel_rfl) ?_ _
    obtain ⟨g, hgg⟩ : ∃ g, g = w2.heap.size := ⟨_, rfl⟩
    obtain ⟨W, hW⟩ : ∃ W, W = w2.alloc (.cells (pkC q s) 28) := ⟨_, rfl⟩
    have hg : W.heap[g]? = some (.cells (pkC q s) 28 (0, 0)) := by rw [hW, hgg]; exact heap_alloc_last _ _
    have hb3 : Below w2.heap.size w2 W := by rw [hW]; exact (Below.refl _ _).alloc (Nat.le_refl _) _
    have hPk : PkOwn W (w.heap.size + 1) q s := (hpk.on hb3).mono (by simp; omega)
    have hBel : Below w.heap.size w W := thn (Below.drew B1.out) (thn hb2 hb3)
    have hr0 : W.heap[w.heap.size]? = some (.cells (pkC pk0 sv0) 28 (0, 0)) := heap_below hb3 (heap_below hb2 R0.out)
    rw [← hW, ← hgg]
    clear hW hgg hb3 hpk hb2 hS z2
    go_wp2_with ((with_reducible show wpList _ _ _ ({ dst := _, op := Op.load 28 (Operand.tmp 8), type := _, pos := _, after := _, guard := _ } :: _) _ _); refine ld_pk g (by rfl) (by rfl) (pkC q s) _ _ (by exact hg) (by rfl) ?_)
    rcases hR : rightP q with _ | _
    · refine (wput_no q s W.heap.size W hPk.at_ (Nat.le_refl _) OK.out hR).mono ?_
      rintro e w5 ⟨rfl, hb5⟩
      have R5 := heap_below hb5 hr0
      go_wp2_with ((with_reducible show wpList _ _ _ ({ dst := _, op := Op.store 28 (Operand.tmp 2) _, type := _, pos := _, after := _, guard := _ } :: _) _ _); refine stR (w.heap.size) _ (pkC (pk0) (sv0)) (by rfl) (by rfl) (by exact R5) (by rfl) (by rfl) (pkc_one _ _) ?_)
      refine bodyPost_ret (results_row2 (by rfl) _ _ (w.heap.size) _ (by rfl) (ldv_pk (setRow_heap _ _ _ _ _ _ (by exact R5)))) (by rfl) ?_
      have E : RES = (pk0, 0, 21) := by rw [HRES.out]; rw [hR]; rfl
      rw [E]
      exact ⟨sv0, rfl, pk0_own _ _, below_setRow (hBel.trans (hb5.mono hBel.size)) (Nat.le_refl _) _⟩
    · refine (wput_yes q s W.heap.size W hPk.at_ (Nat.le_refl _) OK.out hPk.nil hR).mono ?_
      rintro e w5 ⟨A5, c5, rfl, o5, hb5⟩
      have R5 := heap_below hb5 hr0
      have hg5 := heap_below hb5 hg
      have BEL5 : Below w.heap.size w w5 := hBel.trans (hb5.mono hBel.size)
      have L5 := (ownsBytes o5)
      have T5 := (hTK.out w5 BEL5).more BEL5.size
      rcases hE : (encP q == bj) with _ | _
      · have HBE := Lib.hid (beq_any _ _ _ _ _ w5 L5 T5)
        rw [hE] at HBE
        clear L5 T5 o5
        generalize (encP q).length = L at *
        go_wp2_with fail
        refine HBE.out.mono ?_
        rintro e w6 ⟨rfl, rfl⟩
        go_wp2_with ((with_reducible show wpList _ _ _ ({ dst := _, op := Op.store 28 (Operand.tmp 2) _, type := _, pos := _, after := _, guard := _ } :: _) _ _); refine stR (w.heap.size) _ (pkC (pk0) (sv0)) (by rfl) (by rfl) (by exact R5) (by rfl) (by rfl) (pkc_one _ _) ?_)
        refine bodyPost_ret (results_row2 (by rfl) _ _ (w.heap.size) _ (by rfl) (ldv_pk (setRow_heap _ _ _ _ _ _ (by exact R5)))) (by rfl) ?_
        have E : RES = (pk0, 0, 21) := by rw [HRES.out]; rw [hR]; simp only [beq_eq_false_iff_ne, ne_eq] at hE; simp [hE]
        rw [E]
        exact ⟨sv0, rfl, pk0_own _ _, below_setRow BEL5 (Nat.le_refl _) _⟩
      · have HBE := Lib.hid (beq_any _ _ _ _ _ w5 L5 T5)
        rw [hE] at HBE
        clear L5 T5 o5
        generalize hLL : (encP q).length = L at *
        clear hLL
        go_wp2_with fail
        refine HBE.out.mono ?_
        rintro e w6 ⟨rfl, rfl⟩
        go_wp2_with (first
          | ((with_reducible show wpList _ _ _ ({ dst := _, op := Op.load 28 (Operand.tmp 8), type := _, pos := _, after := _, guard := _ } :: _) _ _); refine ld_pk g (by rfl) (by rfl) (pkC q s) _ _ (by exact hg5) (by rfl) ?_)
          | ((with_reducible show wpList _ _ _ ({ dst := _, op := Op.store 28 (Operand.tmp 2) _, type := _, pos := _, after := _, guard := _ } :: _) _ _); refine stR (w.heap.size) _ (pkC (q) (s)) (by rfl) (by rfl) (by exact R5) (by rfl) (by rfl) (pkc_one _ _) ?_))
        refine bodyPost_ret (results_row2 (by rfl) _ _ (w.heap.size) _ (by rfl) (ldv_pk (setRow_heap _ _ _ _ _ _ (by exact R5)))) (by rfl) ?_
        have E : RES = (q, (j : Int), 0) := by rw [HRES.out]; rw [hR]; simp only [beq_iff_eq] at hE; simp [hE]
        rw [E]
        exact ⟨s, rfl, ((hPk.on hb5).set (Nat.lt_succ_self _) _).mono (Nat.le_succ _), below_setRow BEL5 (Nat.le_refl _) _⟩
  · intro K' hK
    rw [if_pos (by rfl)]
    go_wp2_with fail
    have zA : (w1.drew.alloc (.cells (pkC pk0 sv0) 28)).cell? ad = some (.int .u8 c) := World.cell?_alloc_some _ _ _ (by rw [hS]; rfl) |>.trans hS
    refine hK.out _ _ zA ?_
    clear hK K' hS
    intro hS
    refine wpAnyH_ready (rs := [7]) (by kernel_rfl) (by simp) (AllReadyH.cons (by rfl) ?_ AllReadyH.nil)
    intro K' hK
    rw [if_pos (by rfl)]
    go_wp2_with fail
    have B2 : Below w.heap.size w (w1.drew.alloc (.cells (pkC pk0 sv0) 28)) := alB (Below.drew B1.out) _
    refine (HPAR.out _ B2).mono ?_
    rintro e w2 ⟨s, rfl, hpk, hb2⟩
    have rg : w2.heap[w1.heap.size]? = some (.cells (pkC pk0 sv0) 28 (0, 0)) := heap_below hb2 (heap_alloc_last w1.drew _)
    have z2 : w2.cell? ad = some (.int .u8 c) := (hb2.cell (p := ad) (by simp; omega)).trans zA
    go_wp2_with fail
    refine hK.out _ _ z2 ?_
    clear hK K' hS
    intro hS
    refine wpAnyH_ready (rs := [9]) (by kernel_rfl) (by simp) (AllReadyH.cons (by rfl) ?_ AllReadyH.nil)
    intro K' hK
    rw [if_pos (by rfl)]
    refine wp_store_row 28 _ _ rfl (w1.heap.size) (pkC q s) (by rfl) (by rfl) 28 (pkC pk0 sv0) rg pk_sz (by rfl) (by rw [← Array.all_toList]; exact pkc_one _ _) ?_
    have hb3 : Below w1.heap.size w2 (w2.setRow w1.heap.size (pkC q s)) := below_setRow (Below.refl _ _) (Nat.le_refl _) _
    refine hK.out _ _ ((hb3.cell (p := ad) (by omega)).trans z2) ?_
    clear hK K' hS
    intro hS
    refine wpAnyH_done (by kernel_rfl) ?_ _
    obtain ⟨g, hgg⟩ : ∃ g, g = w1.heap.size := ⟨_, rfl⟩
    have hg0 : (w2.setRow w1.heap.size (pkC q s)).heap[w1.heap.size]? = some (.cells (pkC q s) 28 (0, 0)) := setRow_heap _ _ _ _ _ _ rg
    obtain ⟨W, hW⟩ : ∃ W, W = w2.setRow w1.heap.size (pkC q s) := ⟨_, rfl⟩
    have hg : W.heap[g]? = some (.cells (pkC q s) 28 (0, 0)) := by rw [hW, hgg]; exact hg0
    have hBel : Below w.heap.size w W := by rw [hW]; exact below_setRow (thn B2 hb2) (by omega) _
    have hr0 : W.heap[w.heap.size]? = some (.cells (pkC pk0 sv0) 28 (0, 0)) := by
      rw [hW, hb3.block _ zs]
      exact heap_below hb2 (heap_keep R0.out)
    have hPk : PkOwn W (w.heap.size + 1) q s := by
      rw [hW]
      exact (hpk.set (by simp) _).mono (by simp; omega)
    rw [← hW, ← hgg]
    clear hW hgg hb3 hpk hb2 hS z2 zA rg hg0 B2
    go_wp2_with ((with_reducible show wpList _ _ _ ({ dst := _, op := Op.load 28 (Operand.tmp 8), type := _, pos := _, after := _, guard := _ } :: _) _ _); refine ld_pk g (by rfl) (by rfl) (pkC q s) _ _ (by exact hg) (by rfl) ?_)
    rcases hR : rightP q with _ | _
    · refine (wput_no q s W.heap.size W hPk.at_ (Nat.le_refl _) OK.out hR).mono ?_
      rintro e w5 ⟨rfl, hb5⟩
      have R5 := heap_below hb5 hr0
      go_wp2_with ((with_reducible show wpList _ _ _ ({ dst := _, op := Op.store 28 (Operand.tmp 2) _, type := _, pos := _, after := _, guard := _ } :: _) _ _); refine stR (w.heap.size) _ (pkC (pk0) (sv0)) (by rfl) (by rfl) (by exact R5) (by rfl) (by rfl) (pkc_one _ _) ?_)
      refine bodyPost_ret (results_row2 (by rfl) _ _ (w.heap.size) _ (by rfl) (ldv_pk (setRow_heap _ _ _ _ _ _ (by exact R5)))) (by rfl) ?_
      have E : RES = (pk0, 0, 21) := by rw [HRES.out]; rw [hR]; rfl
      rw [E]
      exact ⟨sv0, rfl, pk0_own _ _, below_setRow (hBel.trans (hb5.mono hBel.size)) (Nat.le_refl _) _⟩
    · refine (wput_yes q s W.heap.size W hPk.at_ (Nat.le_refl _) OK.out hPk.nil hR).mono ?_
      rintro e w5 ⟨A5, c5, rfl, o5, hb5⟩
      have R5 := heap_below hb5 hr0
      have hg5 := heap_below hb5 hg
      have BEL5 : Below w.heap.size w w5 := hBel.trans (hb5.mono hBel.size)
      have L5 := (ownsBytes o5)
      have T5 := (hTK.out w5 BEL5).more BEL5.size
      rcases hE : (encP q == bj) with _ | _
      · have HBE := Lib.hid (beq_any _ _ _ _ _ w5 L5 T5)
        rw [hE] at HBE
        clear L5 T5 o5
        generalize (encP q).length = L at *
        go_wp2_with fail
        refine HBE.out.mono ?_
        rintro e w6 ⟨rfl, rfl⟩
        go_wp2_with ((with_reducible show wpList _ _ _ ({ dst := _, op := Op.store 28 (Operand.tmp 2) _, type := _, pos := _, after := _, guard := _ } :: _) _ _); refine stR (w.heap.size) _ (pkC (pk0) (sv0)) (by rfl) (by rfl) (by exact R5) (by rfl) (by rfl) (pkc_one _ _) ?_)
        refine bodyPost_ret (results_row2 (by rfl) _ _ (w.heap.size) _ (by rfl) (ldv_pk (setRow_heap _ _ _ _ _ _ (by exact R5)))) (by rfl) ?_
        have E : RES = (pk0, 0, 21) := by rw [HRES.out]; rw [hR]; simp only [beq_eq_false_iff_ne, ne_eq] at hE; simp [hE]
        rw [E]
        exact ⟨sv0, rfl, pk0_own _ _, below_setRow BEL5 (Nat.le_refl _) _⟩
      · have HBE := Lib.hid (beq_any _ _ _ _ _ w5 L5 T5)
        rw [hE] at HBE
        clear L5 T5 o5
        generalize hLL : (encP q).length = L at *
        clear hLL
        go_wp2_with fail
        refine HBE.out.mono ?_
        rintro e w6 ⟨rfl, rfl⟩
        go_wp2_with (first
          | ((with_reducible show wpList _ _ _ ({ dst := _, op := Op.load 28 (Operand.tmp 8), type := _, pos := _, after := _, guard := _ } :: _) _ _); refine ld_pk g (by rfl) (by rfl) (pkC q s) _ _ (by exact hg5) (by rfl) ?_)
          | ((with_reducible show wpList _ _ _ ({ dst := _, op := Op.store 28 (Operand.tmp 2) _, type := _, pos := _, after := _, guard := _ } :: _) _ _); refine stR (w.heap.size) _ (pkC (q) (s)) (by rfl) (by rfl) (by exact R5) (by rfl) (by rfl) (pkc_one _ _) ?_))
        refine bodyPost_ret (results_row2 (by rfl) _ _ (w.heap.size) _ (by rfl) (ldv_pk (setRow_heap _ _ _ _ _ _ (by exact R5)))) (by rfl) ?_
        have E : RES = (q, (j : Int), 0) := by rw [HRES.out]; rw [hR]; simp only [beq_iff_eq] at hE; simp [hE]
        rw [E]
        exact ⟨s, rfl, ((hPk.on hb5).set (Nat.lt_succ_self _) _).mono (Nat.le_succ _), below_setRow BEL5 (Nat.le_refl _) _⟩
end Go.Proofs.Ytkeocnobninaaaa
