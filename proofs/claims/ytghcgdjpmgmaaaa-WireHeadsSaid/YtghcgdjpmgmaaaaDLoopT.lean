/- The document's reading of a packet: lists: tools. Written by gen_dpar.py. -/
import Derived.Test.YtghcgdjpmgmaaaaDCon
namespace Go.Proofs.Ytghcgdjpmgmaaaa
open Go.RowKit Go.Lib
set_option linter.unusedVariables false
set_option linter.unusedSimpArgs false

/-- What is left to be read, as the part's box says it. -/
def leftD (r : Nat) (w : World) : Nat := match w.cell? ⟨r, 0, none⟩, w.cell? ⟨r, 1, none⟩, w.cell? ⟨r, 2, none⟩ with | some (.slice _ n _), some (.int _ k), some (.bool false) => n - k.toNat | _, _, _ => 0
theorem leftD_at {w : World} {B r : Nat} {s : PS} (h : PtS w B r s) : leftD r w = if s.2 then 0 else s.1.length := by
  obtain ⟨ad, c, b, k, q, e⟩ := h
  obtain ⟨c0, c1, c2, _⟩ := q.cells
  unfold leftD
  rw [c0, c1, c2]
  cases hs : s.2
  · simp only [Bool.false_eq_true, if_false]
    rw [← e, List.length_drop, Int.toNat_natCast]
  · rfl
theorem RdTo.setAbove {r b i : Nat} {w w' : World} (h : RdTo r w w') (hr : r < w.heap.size) (hb : w.heap.size ≤ b) (v : Value) : RdTo r w (w'.setCell ⟨b, i, none⟩ v) :=
  ⟨h.below.setCell (p := ⟨b, i, none⟩) (by show r ≤ b; omega) v, fun g h1 h2 => (Below.heap_setCell w' ⟨b, i, none⟩ v g (by show g ≠ b; omega)).trans (h.above g h1 h2)⟩
/-- 'append(subs, x)'. -/
theorem aps_wp {ops : Array Oper} {rest : List Oper} {a : Act} {w : World} {Q : Exit → Act → World → Prop} {d : Tmp} {x y : Operand} {ty : TypeId} {ps : String} {af : Array Edge}
    (base : Nat) (A : Option Addr) (C : Nat) (L : List (ByteArray × Int)) (gn : Nat) (f : ByteArray) (q : Int) (hx : a.eval x = .slice A L.length C) (hy : a.eval y = .slice (some ⟨gn, 0, none⟩) 1 1) (hown : w.ownsRow base 70 2 (.slice A L.length C) L.length (subCells L)) (hnew : w.heap[gn]? = some (.cells #[.string f, .int .i64 q] 70 (0, 0))) (hl : L.length ≤ 1000000) (hb : base ≤ w.heap.size)
    (h : ∀ (A' : Option Addr) (C' : Nat) (w' : World), w'.ownsRow base 70 2 (.slice A' (L.length + 1) C') (L.length + 1) (subCells (L ++ [(f, q)])) → Below base w w' → wpList Try.prog ops Q rest (a.put (some d) (.slice A' (L.length + 1) C')) w') :
    wpList Try.prog ops Q ({ dst := some d, op := .call { callee := .builtin .append, args := #[x, y], argTypes := #[25, 25] }, type := ty, pos := ps, after := af, guard := none } :: rest) a w := by
  obtain ⟨i0, hi, hz0, hz1, hz2⟩ := info_parts Try.infoSub
  obtain ⟨v', w', hr, h2, h3, _, h5⟩ := run_append_own_at (P := Try.prog) (w := w) base 25 ty 70 i0 _ 2 24 Try.underlying25 hi hz0 hz1 hz2 rfl (by decide) _ L.length (subCells L) hown ⟨gn, 0, none⟩ 1 1 [.string f, .int .i64 q] rfl (fun j u hj => by
    rw [show ((⟨gn, 0, none⟩ : Addr).add j) = ⟨gn, j, none⟩ by unfold Addr.add; split <;> simp_all, cell_of_row _ gn j _ _ _ hnew]
    simpa using hj) (fun u hu => by simp at hu; rcases hu with rfl | rfl <;> rfl) (by unfold maxLen; omega) (by omega) hb
  rcases h2.2 with ⟨_, e⟩ | ⟨g', cap', cur', hv', _⟩
  · omega
  subst hv'
  refine wpList_plain rfl fun K hK => ?_
  unfold Oper.wp execOp
  simp only [resolve, invoke, builtin, Sem.run_bind, Sem.run_pure, Result.andThen_ok, List.map_toArray, List.map_cons, List.map_nil, hx, hy, hr]
  exact hK _ _ (h _ _ _ (by rw [subCells_snoc]; exact h2) ((Below.refl base w).grown h3 hb (fun g hg => (hown.lt g hg).1)))
/-- 'append(codes, x)', at the operation. -/
theorem api_wp {a : Act} {w : World} {K : Act → World → Prop} {Q : Exit → Act → World → Prop} {d : Tmp} {x y : Operand} {ty : TypeId} {ps : String} {af : Array Edge}
    (base : Nat) (A : Option Addr) (C : Nat) (L : List Int) (gn : Nat) (q : Int) (hx : a.eval x = .slice A L.length C) (hy : a.eval y = .slice (some ⟨gn, 0, none⟩) 1 1) (hown : w.ownsRow base 3 1 (.slice A L.length C) L.length (intCells L)) (hnew : w.heap[gn]? = some (.cells #[.int .i64 q] 3 (0, 0))) (hl : L.length ≤ 1000000) (hb : base ≤ w.heap.size)
    (h : ∀ (A' : Option Addr) (C' : Nat) (w' : World), w'.ownsRow base 3 1 (.slice A' (L.length + 1) C') (L.length + 1) (intCells (L ++ [q])) → Below base w w' → K (a.put (some d) (.slice A' (L.length + 1) C')) w') :
    Oper.wp Try.prog { dst := some d, op := .call { callee := .builtin .append, args := #[x, y], argTypes := #[26, 26] }, type := ty, pos := ps, after := af, guard := none } a w K Q := by
  obtain ⟨i0, hi, hz0, hz1, hz2⟩ := info_parts Try.infoInt
  obtain ⟨v', w', hr, h2, h3, _, h5⟩ := run_append_own_at (P := Try.prog) (w := w) base 26 ty 3 i0 _ 1 8 Try.underlying26 hi hz0 hz1 hz2 rfl (by decide) _ L.length (intCells L) hown ⟨gn, 0, none⟩ 1 1 [.int .i64 q] rfl (fun j u hj => by
    rw [show ((⟨gn, 0, none⟩ : Addr).add j) = ⟨gn, j, none⟩ by unfold Addr.add; split <;> simp_all, cell_of_row _ gn j _ _ _ hnew]
    simpa using hj) (fun u hu => by simp at hu; subst hu; rfl) (by unfold maxLen; omega) (by omega) hb
  rcases h2.2 with ⟨_, e⟩ | ⟨g', cap', cur', hv', _⟩
  · omega
  subst hv'
  unfold Oper.wp execOp
  simp only [resolve, invoke, builtin, Sem.run_bind, Sem.run_pure, Result.andThen_ok, List.map_toArray, List.map_cons, List.map_nil, hx, hy, hr]
  exact h _ _ _ (by rw [show intCells (L ++ [q]) = intCells L ++ [.int .i64 q] by simp [intCells]]; exact h2) ((Below.refl base w).grown h3 hb (fun g hg => (hown.lt g hg).1))

def sbD (P : Pk) (i : Int) (L : List (ByteArray × Int)) : Pk := { P with id := i, subs := L }
def svD (A : Option Addr) (C : Nat) : Sv := { sv0 with sA := A, sC := C }
def cdD (P : Pk) (i : Int) (L : List Int) : Pk := { P with id := i, codes := L }
def svE (A : Option Addr) (C : Nat) : Sv := { sv0 with cA := A, cC := C }
theorem DSt.to_ {w W W' : World} {B r g : Nat} {p : Pk} {s : Sv} {S : PS} (h : DSt w B r g p s S W) (hb : Below (g + 2) W W') : g = w.heap.size ∧ B ≤ r ∧ r < g ∧ W'.heap[g + 1]? = some (.cells (pkC p s) 28) ∧ W'.heap[g]? = some (.cells (pkC pk0 sv0) 28) ∧ PtS W' B r S ∧ RdTo r w W' := by
  have hlt := h.lt
  have hB := h.hB
  have hg := h.hg
  exact ⟨hg, hB, hlt, (hb.block _ (by omega)).trans h.row, (hb.block _ (by omega)).trans h.res, h.part.keep (hb.mono (by omega)), ⟨h.to.below.trans (hb.mono (by omega)), fun b h1 h2 => (hb.block b (by omega)).trans (h.to.above b h1 h2)⟩⟩
theorem DSt.stored {w W : World} {B r g i : Nat} {p p' : Pk} {s s' : Sv} {S : PS} {v : Value} (h : g = w.heap.size ∧ B ≤ r ∧ r < g ∧ W.heap[g + 1]? = some (.cells (pkC p s) 28) ∧ W.heap[g]? = some (.cells (pkC pk0 sv0) 28) ∧ PtS W B r S ∧ RdTo r w W) (e : (pkC p s).setIfInBounds i v = pkC p' s') (hr : DRows W B g p' s') : DSt w B r g p' s' S (W.setCell ⟨g + 1, i, none⟩ v) := by
  obtain ⟨hg, hB, hlt, h1, h2, h3, h4⟩ := h
  refine ⟨hB, hlt, hg, put_row i v h1 e, (Below.heap_setCell W ⟨g + 1, i, none⟩ v g (by show g ≠ g + 1; omega)).trans h2, h3.keep ((Below.refl _ W).setCell (p := ⟨g + 1, i, none⟩) (by show r + 1 ≤ g + 1; omega) v), h4.setAbove (by omega) (by omega) v, hr.set (g + 1) (by omega) (by omega) i v⟩
theorem DSt.pushS {w W W' : World} {B r g : Nat} {P : Pk} {i : Int} {L : List (ByteArray × Int)} {A A' : Option Addr} {C C' : Nat} {S : PS} {x : ByteArray × Int} (h : DSt w B r g (sbD P i L) (svD A C) S W) (hb : Below (g + 2) W W') (hP : P.pay = [] ∧ P.wpay = [] ∧ P.pass = [] ∧ P.codes = [])
    (ho : W'.ownsRow (g + 2) 70 2 (.slice A' (L.length + 1) C') (L.length + 1) (subCells (L ++ [x]))) : DSt w B r g (sbD P i (L ++ [x])) (svD A' C') S (W'.setCell ⟨g + 1, 22, none⟩ (.slice A' (L.length + 1) C')) := by
  have e : L.length + 1 = (L ++ [x]).length := by simp
  refine DSt.stored (h.to_ hb) ?_ ⟨?_, fun _ => rfl, ?_, ?_, ?_, ?_⟩
  · rw [e]; rfl
  · show BytesAt W' B (.slice none P.pay.length 0) P.pay
    rw [hP.1]; exact nil_bytes _ _
  · show NewB W' (g + 2) none P.wpay.length 0 P.wpay
    rw [hP.2.1]; exact NewB.nil _ _
  · show NewB W' (g + 2) none P.pass.length 0 P.pass
    rw [hP.2.2.1]; exact NewB.nil _ _
  · show W'.ownsRow (g + 2) 70 2 (.slice A' (L ++ [x]).length C') (L ++ [x]).length (subCells (L ++ [x]))
    rw [← e]; exact ho
  · show W'.ownsRow (g + 2) 3 1 (.slice none P.codes.length 0) P.codes.length (intCells P.codes)
    rw [hP.2.2.2]; exact World.ownsRow_nil _ _ _ _
theorem DSt.pushC {w W W' : World} {B r g : Nat} {P : Pk} {i : Int} {L : List Int} {A A' : Option Addr} {C C' : Nat} {S : PS} {x : Int} (h : DSt w B r g (cdD P i L) (svE A C) S W) (hb : Below (g + 2) W W') (hP : P.pay = [] ∧ P.wpay = [] ∧ P.pass = [] ∧ P.subs = [])
    (ho : W'.ownsRow (g + 2) 3 1 (.slice A' (L.length + 1) C') (L.length + 1) (intCells (L ++ [x]))) : DSt w B r g (cdD P i (L ++ [x])) (svE A' C') S (W'.setCell ⟨g + 1, 23, none⟩ (.slice A' (L.length + 1) C')) := by
  have e : L.length + 1 = (L ++ [x]).length := by simp
  refine DSt.stored (h.to_ hb) ?_ ⟨?_, fun _ => rfl, ?_, ?_, ?_, ?_⟩
  · rw [e]; rfl
  · show BytesAt W' B (.slice none P.pay.length 0) P.pay
    rw [hP.1]; exact nil_bytes _ _
  · show NewB W' (g + 2) none P.wpay.length 0 P.wpay
    rw [hP.2.1]; exact NewB.nil _ _
  · show NewB W' (g + 2) none P.pass.length 0 P.pass
    rw [hP.2.2.1]; exact NewB.nil _ _
  · show W'.ownsRow (g + 2) 70 2 (.slice none P.subs.length 0) P.subs.length (subCells P.subs)
    rw [hP.2.2.2]; exact World.ownsRow_nil _ _ _ _
  · show W'.ownsRow (g + 2) 3 1 (.slice A' (L ++ [x]).length C') (L ++ [x]).length (intCells (L ++ [x]))
    rw [← e]; exact ho
/-- A call's own box beyond: what is done there leaves the reading as it was. -/
theorem DSt.far {w W W' : World} {B r g : Nat} {p : Pk} {s : Sv} {S S' : PS} (h : DSt w B r g p s S W) (h1 : PtS W' B r S') (t : RdTo r W W') : DSt w B r g p s S' W' := h.call h1 t
end Go.Proofs.Ytghcgdjpmgmaaaa
