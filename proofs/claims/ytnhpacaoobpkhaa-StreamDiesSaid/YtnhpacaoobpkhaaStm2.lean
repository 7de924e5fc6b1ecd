/- Streams: Feed. -/
import Derived.Test.YtnhpacaoobpkhaaStm1
namespace Go.Proofs.Ytnhpacaoobpkhaa
open Go.RowKit Go.Lib
set_option linter.unusedVariables false
set_option linter.unusedSimpArgs false

theorem Stays.mono {W : World} {base base' : Nat} {g : Option Nat} {p : Pk} {s : Sv} (h : Stays W base g p s) (hb : base' ≤ base) : Stays W base' g p s := fun W' h1 h2 => h W' h1 fun j a b c => h2 j (by omega) b c
theorem PksAt.mono {W : World} {base base' : Nat} {v : Value} {L : List (Pk × Sv)} (h : PksAt W base v L) (hb : base' ≤ base) : PksAt W base' v L := ⟨own_mono3 h.row hb, fun x hx => (h.each x hx).mono hb⟩
theorem set_row {w : World} {b : Nat} {cs : Array Value} {t : TypeId} {fr : Nat × Nat} (h : w.heap[b]? = some (.cells cs t fr)) (i : Nat) (v : Value) : (w.setCell ⟨b, i, none⟩ v).heap[b]? = some (.cells (cs.setIfInBounds i v) t fr) := by
  simp [World.setCell, Array.getElem?_modify, h]
/-- A stream: its box, what is left, its error. -/
structure StrAt (W : World) (b : Nat) (A : Option Addr) (C : Nat) (L : List UInt8) (f : Int) : Prop where
  box : W.heap[b]? = some (.cells #[.slice A L.length C, .int .i64 f] 94)
  row : W.ownsRow (b + 1) 5 1 (.slice A L.length C) L.length (byteCells L)
theorem StrAt.lt {W : World} {b C : Nat} {A : Option Addr} {L : List UInt8} {f : Int} (h : StrAt W b A C L f) : b < W.heap.size := (Array.getElem?_eq_some_iff.1 h.box).1
theorem StrAt.cells {W : World} {b C : Nat} {A : Option Addr} {L : List UInt8} {f : Int} (h : StrAt W b A C L f) : W.cell? ⟨b, 0, none⟩ = some (.slice A L.length C) ∧ W.cell? ⟨b, 1, none⟩ = some (.int .i64 f) :=
  ⟨by rw [cell_of_row _ _ _ _ _ _ h.box]; rfl, by rw [cell_of_row _ _ _ _ _ _ h.box]; rfl⟩
theorem StrAt.frz {W : World} {b C : Nat} {A : Option Addr} {L : List UInt8} {f : Int} (h : StrAt W b A C L f) : W.frozen? ⟨b, 0, none⟩ = false ∧ W.frozen? ⟨b, 1, none⟩ = false := ⟨frozen_of_row W b 0 _ _ h.box, frozen_of_row W b 1 _ _ h.box⟩
theorem StrAt.on {W W' : World} {b C : Nat} {A : Option Addr} {L : List UInt8} {f : Int} (h : StrAt W b A C L f) (hk : ∀ j, b ≤ j → j < W.heap.size → W'.heap[j]? = W.heap[j]?) : StrAt W' b A C L f :=
  ⟨(hk b (Nat.le_refl _) h.lt).trans h.box, own_to h.row fun g h1 h2 => hk g (by omega) h2⟩
theorem StrAt.below {W W' : World} {b C : Nat} {A : Option Addr} {L : List UInt8} {f : Int} (h : StrAt W b A C L f) (hb : Below W.heap.size W W') : StrAt W' b A C L f := h.on fun j _ h2 => hb.block j h2
/-- What a Feed leaves alone: all but its box and the row of what was left. -/
structure Fed (w w' : World) (b : Nat) (g g' : Option Nat) : Prop where
  below : Below b w w'
  keep : ∀ j, j < w.heap.size → j ≠ b → g ≠ some j → w'.heap[j]? = w.heap[j]?
  own : g' = g ∨ g' = none ∨ ∃ k, g' = some k ∧ w.heap.size ≤ k
def restP (T : List UInt8) : List UInt8 := if (pksP T).2.2 ≠ 0 then [] else T.drop (pksP T).2.1
def FeedPost (w : World) (b : Nat) (g : Option Nat) (T : List UInt8) (e : Ending) (w' : World) : Prop :=
  ∃ (A : Option Addr) (C : Nat) (Ls : List (Pk × Sv)) (A' : Option Addr) (C' : Nat), e = .returned (.tuple #[.slice A Ls.length C, .int .i64 (pksP T).2.2]) ∧ Ls.map (·.1) = (pksP T).1 ∧ PksAt w' w.heap.size (.slice A Ls.length C) Ls ∧ StrAt w' b A' C' (restP T) (pksP T).2.2 ∧ Fed w w' b g (Value.slice A' (restP T).length C').ownBlock

theorem new_any (w : World) : Calls Try.prog 28 #[] w fun e w' => e = .returned (.pointer (some ⟨w.heap.size, 0, none⟩)) ∧ Below w.heap.size w w' ∧ w.heap.size < w'.heap.size ∧ StrAt w' w.heap.size none 0 [] 0 := by
  have h1 := alB (Below.refl w.heap.size w) (.cells #[.slice none 0 0, .int .i64 0] 94)
  have h2 : w.heap.size < (w.alloc (.cells #[.slice none 0 0, .int .i64 0] 94)).heap.size := by simp
  have h3 : StrAt (w.alloc (.cells #[.slice none 0 0, .int .i64 0] 94)) w.heap.size none 0 [] 0 := ⟨heap_alloc_last _ _, World.ownsRow_nil _ _ _ _⟩
  go_enter Try.func28, Try.ntmps28
  go_wp2
  go_ret
  exact ⟨rfl, h1, h2, h3⟩
theorem left_any (b C : Nat) (A : Option Addr) (L : List UInt8) (f : Int) (w : World) (h : StrAt w b A C L f) : Calls Try.prog 32 #[.pointer (some ⟨b, 0, none⟩)] w fun e w' => e = .returned (.int .i64 (L.length : Nat)) ∧ w = w' := by
  obtain ⟨c0, c1⟩ := h.cells
  clear h
  generalize L.length = n at *
  go_enter Try.func32, Try.ntmps32
  go_wp2
  go_ret
  exact ⟨rfl, rfl⟩
theorem dead_any (b C : Nat) (A : Option Addr) (L : List UInt8) (f : Int) (w : World) (h : StrAt w b A C L f) : Calls Try.prog 33 #[.pointer (some ⟨b, 0, none⟩)] w fun e w' => e = .returned (.bool (f != 0)) ∧ w = w' := by
  obtain ⟨c0, c1⟩ := h.cells
  clear h
  generalize L.length = n at *
  go_enter Try.func33, Try.ntmps33
  go_wp2
  go_ret
  exact ⟨rfl, rfl⟩
/-- A dead stream. -/
theorem feed_dead (b C : Nat) (A : Option Addr) (L : List UInt8) (f : Int) (v : Value) (w : World) (h : StrAt w b A C L f) (hf : f ≠ 0) : Calls Try.prog 29 #[.pointer (some ⟨b, 0, none⟩), v] w fun e w' => e = .returned (.tuple #[.slice none 0 0, .int .i64 f]) ∧ ∃ n, w' = w.drewN n := by
  have D := dead_any b C A L f w h
  rw [show (f != 0) = true by simpa using hf] at D
  obtain ⟨c0, c1⟩ := h.cells
  clear h hf
  generalize L.length = n at *
  go_enter Try.func29, Try.ntmps29
  go_wp2_with fail
  refine D.mono ?_
  rintro e w' ⟨rfl, rfl⟩
  go_wp2_with fail
  go_quiet (fail)
  go_wp2_with fail
  go_ret2
  exact ⟨rfl, _, rfl⟩

set_option maxRecDepth 100000 in
set_option maxHeartbeats 8000000 in
theorem feed_core (b C : Nat) (A : Option Addr) (L : List UInt8) (A2 : Option Addr) (c2 : Nat) (X : List UInt8) (w : World) (n m : Nat) (T : List UInt8) (hn : Hid (L.length = n)) (hm : Hid (X.length = m)) (HT : Hid (L ++ X = T)) (D : Calls Try.prog 33 #[.pointer (some ⟨b, 0, none⟩)] w fun e w' => e = .returned (.bool false) ∧ w = w')
    (c0 : w.cell? ⟨b, 0, none⟩ = some (.slice A n C)) (c1 : w.cell? ⟨b, 1, none⟩ = some (.int .i64 0)) (f0 : w.frozen? ⟨b, 0, none⟩ = false) (hlt : b < w.heap.size) (HBX : Hid (w.heap[b]? = some (.cells #[.slice A n C, .int .i64 0] 94)))
    (HR : Hid (w.ownsRow (b + 1) 5 1 (.slice A n C) n (byteCells L))) (HX : Hid (BytesAt w w.heap.size (.slice A2 m c2) X)) (HZ : Hid (A2 = none → c2 = 0)) (hl : n + m ≤ 1000000) :
    Calls Try.prog 29 #[.pointer (some ⟨b, 0, none⟩), .slice A2 m c2] w (FeedPost w b (Value.slice A n C).ownBlock T) := by
  have HTL : Hid (T.length = n + m) := Lib.hid (by rw [← HT.out, List.length_append, hn.out, hm.out])
  go_enter Try.func29, Try.ntmps29
  go_wp2_with fail
  refine D.mono ?_
  rintro e w' ⟨rfl, rfl⟩
  go_wp2_with (at_builtin; refine ap_bytes (b + 1) A C n L w.heap.size A2 c2 m X (by rfl) (by rfl) HR.out HX.out HZ.out (by omega) (by omega) ?_; intro A1 c1' w1 o1 ap1; rw [HT.out] at o1; have O1 := Lib.hid o1; have AP := Lib.hid ap1; have B1 : Hid (w1.heap[b]? = some (.cells #[.slice A n C, .int .i64 0] 94)) := Lib.hid ((ap1.grew.block b hlt (fun e => by have := (HR.out.lt b e.symm).1; omega)).trans HBX.out); have c3 := cell_of_row w1 b 0 _ _ _ B1.out; have c4 := cell_of_row w1 b 1 _ _ _ B1.out; have f3 := frozen_of_row w1 b 0 _ _ B1.out; have hl1 : b < w1.heap.size := (Nat.lt_of_lt_of_le hlt ap1.grew.size); clear o1 ap1)
  have X2 := set_row B1.out 0 (.slice A1 (n + m) c1')
  have R2 : (w1.setCell ⟨b, 0, none⟩ (.slice A1 (n + m) c1')).ownsRow (b + 1) 5 1 (.slice A1 (n + m) c1') (n + m) (byteCells T) := own_to O1.out fun g h1 h2 => Below.heap_setCell _ _ _ _ (by show g ≠ b; omega)
  have F2 : Below b w (w1.setCell ⟨b, 0, none⟩ (.slice A1 (n + m) c1')) := (AP.out.below b (by omega) fun k hk => by have := (HR.out.lt k hk).1; omega).setCell (p := ⟨b, 0, none⟩) (Nat.le_refl _) _
  have K2 : ∀ j, j < w.heap.size → j ≠ b → (Value.slice A n C).ownBlock ≠ some j → (w1.setCell ⟨b, 0, none⟩ (.slice A1 (n + m) c1')).heap[j]? = w.heap[j]? := fun j h1 h2 h3 => (Below.heap_setCell _ _ _ _ (by show j ≠ b; exact h2)).trans (AP.out.grew.block j h1 (fun e => h3 e.symm))
  have W2 : (Value.slice A1 (n + m) c1').ownBlock = (Value.slice A n C).ownBlock ∨ (Value.slice A1 (n + m) c1').ownBlock = none ∨ ∃ k, (Value.slice A1 (n + m) c1').ownBlock = some k ∧ w.heap.size ≤ k := by
    rcases AP.out.own with e | e
    · exact .inl e
    · exact .inr (.inr e)
  have hl2 : b < (w1.setCell ⟨b, 0, none⟩ (.slice A1 (n + m) c1')).heap.size := by simp [World.setCell]; exact hl1
  clear c3 c4 f3 O1 AP B1
  generalize (w1.setCell ⟨b, 0, none⟩ (.slice A1 (n + m) c1')) = w2 at *
  generalize n + m = t at *
  have hzl := pksP_le T
  rw [HTL.out] at hzl
  have P := packets_any A1 c1' T w2 (ownsBytes (by rw [HTL.out]; exact R2)) (by rw [HTL.out]; exact hl)
  rw [HTL.out] at P
  refine P.mono ?_
  rintro e w3 ⟨A3, C3, Ls, rfl, hmap, hP, hb3⟩
  obtain ⟨P0, z, er, hPT⟩ : ∃ P0 z er, pksP T = (P0, z, er) := ⟨_, _, _, rfl⟩
  have HPT := Lib.hid hPT
  have hE1 : restP T = if er ≠ 0 then [] else T.drop z := by unfold restP; rw [hPT]
  have HRP := Lib.hid hE1
  rw [hPT] at hzl hmap ⊢
  have HM := Lib.hid hmap
  have X3 := (hb3.block b hl2).trans X2
  have c5 := cell_of_row w3 b 0 _ _ _ X3
  have c6 := cell_of_row w3 b 1 _ _ _ X3
  have f5 := frozen_of_row w3 b 0 _ _ X3
  have f6 := frozen_of_row w3 b 1 _ _ X3
  have R3 := own_to R2 fun g h1 h2 => hb3.block g h2
  have X3H := Lib.hid X3
  have R3H := Lib.hid R3
  have F3 : Hid (Below b w w3) := Lib.hid (F2.trans (hb3.mono (by omega)))
  have K3 : Hid (∀ j, j < w.heap.size → j ≠ b → (Value.slice A n C).ownBlock ≠ some j → w3.heap[j]? = w.heap[j]?) := Lib.hid fun j h1 h2 h3 => (hb3.block j (Nat.lt_of_lt_of_le h1 F2.size)).trans (K2 j h1 h2 h3)
  have PA := Lib.hid hP
  have S2 := Lib.hid F2.size
  have S3 := Lib.hid hb3.size
  have hl3 : b < w3.heap.size := Nat.lt_of_lt_of_le hl2 hb3.size
  have HL2 := Lib.hid hl2
  have W2H := Lib.hid W2
  clear hPT hE1 hmap X3 R3 hP hb3 X2 R2 F2 K2 W2 P
  by_cases e0 : er = 0
  · subst e0
    by_cases hz0 : 0 < z
    · have hR := R3H.out
      rw [← HTL.out] at hR
      have hS := sl1_at (ownsBytes hR) rfl z (by rw [HTL.out]; exact hzl)
      rw [HTL.out] at hS
      have HSL := Lib.hid hS
      have HSZ : Hid (slA A1 c1' z = none → c1' - z = 0) := Lib.hid fun e => by
        have k := own_nz R3H.out
        unfold slA at e
        split at e
        · have := k e; omega
        · have := k (by simpa using e); omega
      have eR : restP T = T.drop z := by rw [HRP.out, if_neg (by decide)]
      have ER := Lib.hid eR
      have EL : Hid ((T.drop z).length = t - z) := Lib.hid (by rw [List.length_drop, HTL.out])
      have HTZ : Hid (t - z ≤ 1000000) := Lib.hid (by omega)
      have HB3 := Lib.hid hl3
      clear hR hS eR HRP
      go_wp2_with (first | (refine sl1_wp A1 t c1' z (by rfl) (by rfl) hzl ?_) | (at_builtin; refine ap_bytes (b + 1) none 0 0 [] w3.heap.size (slA A1 c1' z) (c1' - z) (t - z) (T.drop z) (by rfl) (by rfl) (World.ownsRow_nil _ _ _ _) HSL.out HSZ.out (by have := HTZ.out; omega) (by have := HB3.out; omega) ?_; intro A4 c4 w4 o4 ap4; rw [List.nil_append] at o4; rw [Nat.zero_add] at o4 ap4 ⊢; have O4 := Lib.hid o4; have AP4 := Lib.hid ap4; have X4 : w4.heap[b]? = _ := (ap4.grew.block b HB3.out (fun e => by cases e)).trans X3H.out; have c7 := cell_of_row w4 b 0 _ _ _ X4; have f7 := frozen_of_row w4 b 0 _ _ X4; have X4H := Lib.hid X4; clear o4 ap4 X4))
      go_ret2
      refine ⟨A3, C3, Ls, A4, c4, by rw [HPT.out]; rfl, by rw [HPT.out]; exact HM.out, ?_, ?_, ?_⟩
      · refine PksAt.mono (PA.out.on (by simp [World.setCell]; exact AP4.out.grew.size) fun j h1 h2 => ?_) S2.out
        exact (Below.heap_setCell _ _ _ _ (by show j ≠ b; have := HL2.out; omega)).trans (AP4.out.grew.block j h2 (fun e => by cases e))
      · rw [ER.out, HPT.out]
        exact ⟨by rw [EL.out]; exact set_row X4H.out 0 _, by rw [EL.out]; exact own_to O4.out fun g h1 h2 => Below.heap_setCell _ _ _ _ (by show g ≠ b; omega)⟩
      · rw [ER.out, EL.out]
        refine ⟨(F3.out.trans (AP4.out.below b (by have := HB3.out; omega) fun k hk => by cases hk)).setCell (p := ⟨b, 0, none⟩) (Nat.le_refl _) _, fun j h1 h2 h3 => ?_, ?_⟩
        · exact ((Below.heap_setCell _ _ _ _ (by show j ≠ b; exact h2)).trans (AP4.out.grew.block j (Nat.lt_of_lt_of_le h1 F3.out.size) (fun e => by cases e))).trans (K3.out j h1 h2 h3)
        · rcases AP4.out.own with e | ⟨k, e, hk⟩
          · exact .inr (.inl e)
          · exact .inr (.inr ⟨k, e, Nat.le_trans F3.out.size hk⟩)
    · obtain rfl : z = 0 := by omega
      go_wp2_with fail
      go_ret2
      have eR : restP T = T := by rw [HRP.out, if_neg (by decide)]; rfl
      refine ⟨A3, C3, Ls, A1, c1', by rw [HPT.out]; rfl, by rw [HPT.out]; exact HM.out, PA.out.mono S2.out, ?_, ?_⟩
      · rw [eR, HPT.out]
        exact ⟨by rw [HTL.out]; exact X3H.out, by rw [HTL.out]; exact R3H.out⟩
      · rw [eR, HTL.out]
        exact ⟨F3.out, K3.out, W2H.out⟩
  · have q0 : (er != 0) = true := by simpa using e0
    have PB : Hid (PksAt ((w3.setCell ⟨b, 0, none⟩ (.slice none 0 0)).setCell ⟨b, 1, none⟩ (.int .i64 er)) w.heap.size (.slice A3 Ls.length C3) Ls) := Lib.hid (PksAt.mono (PA.out.on (by simp [World.setCell]) fun j h1 h2 => (Below.heap_setCell _ _ _ _ (by show j ≠ b; have := HL2.out; omega)).trans (Below.heap_setCell _ _ _ _ (by show j ≠ b; have := HL2.out; omega))) S2.out)
    have E0 := Lib.hid e0
    clear e0
    go_wp2_with fail
    go_ret2
    have eR : restP T = [] := by rw [HRP.out, if_pos E0.out]
    refine ⟨A3, C3, Ls, none, 0, by rw [HPT.out]; rfl, by rw [HPT.out]; exact HM.out, PB.out, ?_, ?_⟩
    · rw [eR, HPT.out]
      exact ⟨set_row (set_row X3H.out 0 _) 1 _, World.ownsRow_nil _ _ _ _⟩
    · rw [eR]
      exact ⟨(F3.out.setCell (p := ⟨b, 0, none⟩) (Nat.le_refl _) _).setCell (p := ⟨b, 1, none⟩) (Nat.le_refl _) _, fun j h1 h2 h3 => ((Below.heap_setCell _ _ _ _ (by show j ≠ b; exact h2)).trans (Below.heap_setCell _ _ _ _ (by show j ≠ b; exact h2))).trans (K3.out j h1 h2 h3), .inr (.inl rfl)⟩
theorem feed_any (b C : Nat) (A : Option Addr) (L : List UInt8) (A2 : Option Addr) (c2 : Nat) (X : List UInt8) (w : World) (h : StrAt w b A C L 0) (hX : BytesAt w w.heap.size (.slice A2 X.length c2) X) (hz : A2 = none → c2 = 0) (hl : L.length + X.length ≤ 1000000) :
    Calls Try.prog 29 #[.pointer (some ⟨b, 0, none⟩), .slice A2 X.length c2] w (FeedPost w b (Value.slice A L.length C).ownBlock (L ++ X)) :=
  feed_core b C A L A2 c2 X w _ _ _ (Lib.hid rfl) (Lib.hid rfl) (Lib.hid rfl) (dead_any b C A L 0 w h) h.cells.1 h.cells.2 h.frz.1 h.lt (Lib.hid h.box) (Lib.hid h.row) (Lib.hid hX) (Lib.hid hz) hl
end Go.Proofs.Ytnhpacaoobpkhaa
