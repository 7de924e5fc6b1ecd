/- Small laws for CastTells: three packets in one row, a whole load, a packet built of three fields. -/
import Derived.Test.YtpjlnienakiihaaDoorLight
import Derived.Test.YtpjlnienakiihaaDoorRefSame
import Derived.Test.YtpjlnienakiihaaDoorCount
import Derived.Deep.RegionHeld3
namespace Go.Proofs.YtpjlnienakiihaaDoor
open Go.RowKit Go.Lib

def tri (p q r : Pk) (s t u : Sv) : Array Value := pkC p s ++ pkC q t ++ pkC r u
theorem bs_three (p q r : Pk) (s t u : Sv) (W : World) : (Instr.buildSlice 32 3 #[(0, .agg (pkC p s)), (1, .agg (pkC q t)), (2, .agg (pkC r u))]).run Tryd.prog W = .ok (.slice (some ⟨W.heap.size, 0, none⟩) 3 3) (W.alloc (.cells (tri p q r s t u) 28)) := by kernel_rfl
theorem ld_run2 {g : Nat} {W : World} {cs : Array Value} (h : W.heap[g]? = some (.cells cs 28 (0, 0))) (hs : cs.size = 24) : (Instr.loadAt 28 (.pointer (some ⟨g, 0, none⟩))).run Tryd.prog W = .ok (.agg cs) W := by
  simp only [Instr.loadAt, Instr.sureAddr, Sem.run_bind, Sem.run_pure, Result.andThen_ok, run_loadVar_row W g _ 28 cs (0, 0) _ h Tryd.underlying28 rfl (by rw [hs]; exact pk_sz)]
theorem ld_exec2 {a : Act} {o : Oper} {x : Operand} {g : Nat} {W : World} {cs : Array Value} (ho : o.op = .load 28 x) (hx : a.eval x = .pointer (some ⟨g, 0, none⟩)) (h : W.heap[g]? = some (.cells cs 28 (0, 0))) (hs : cs.size = 24) :
    (execOp a.eval o).run Tryd.prog W = .ok (.value (.agg cs)) W := by
  unfold execOp
  simp only [ho, hx, Sem.run_bind, Sem.run_pure, ld_run2 h hs, Result.andThen_ok]
def pkT (x y : Int) : Pk := { pk0 with kind := x, id := y, top := ⟨#[116]⟩ }
theorem bT (x y : Int) (W : World) : (Instr.build 28 #[(0, .int .i64 x), (4, .int .i64 y), (5, .string ⟨#[116]⟩)]).run Tryd.prog W = .ok (.agg (pkC (pkT x y) sv0)) W := run_build W 28 _ _ (by kernel_rfl)
theorem ex_bT {a : Act} {o : Oper} {x y : Operand} {m n : Int} {W : World} (ho : o.op = .build 28 #[(0, x), (4, y), (5, .const (.string ⟨#[116]⟩))]) (hx : a.eval x = .int .i64 m) (hy : a.eval y = .int .i64 n) :
    (execOp a.eval o).run Tryd.prog W = .ok (.value (.agg (pkC (pkT m n) sv0))) W := by
  have hc : a.eval (.const (.string ⟨#[116]⟩)) = .string ⟨#[116]⟩ := rfl
  unfold execOp
  simp only [ho, Sem.run_bind, List.map_toArray, List.map_cons, List.map_nil, hx, hy, hc, bT, Result.andThen_ok, Sem.run_pure]
theorem tri_size (p q r : Pk) (s t u : Sv) : (tri p q r s t u).size = 72 := by simp [tri]
theorem tri_at {w : World} {g : Nat} {p q r : Pk} {s t u : Sv} {T : TypeId} {fr : Nat × Nat} (h : w.heap[g]? = some (.cells (tri p q r s t u) T fr)) :
    w.rangeAt g 0 (pkC p s).toList ∧ w.rangeAt g 24 (pkC q t).toList ∧ w.rangeAt g 48 (pkC r u).toList := by
  have hc : ∀ k, w.cell? ⟨g, k, none⟩ = (tri p q r s t u)[k]? := fun k => cell_of_row w g k _ _ _ h
  refine ⟨fun j v hv => ?_, fun j v hv => ?_, fun j v hv => ?_⟩
  · have hj : j < 24 := by have := (List.getElem?_eq_some_iff.1 hv).1; simpa using this
    rw [hc, tri, Array.getElem?_append_left (by simp; omega), Array.getElem?_append_left (by simp; omega)]
    simpa using hv
  · have hj : j < 24 := by have := (List.getElem?_eq_some_iff.1 hv).1; simpa using this
    rw [hc, tri, Array.getElem?_append_left (by simp; omega), Array.getElem?_append_right (by simp)]
    simpa using hv
  · have hj : j < 24 := by have := (List.getElem?_eq_some_iff.1 hv).1; simpa using this
    rw [hc, tri, Array.getElem?_append_right (by first | (simp; done) | (simp; omega))]
    simpa using hv
theorem rangeAt_below {w w' : World} {g o : Nat} {cs : List Value} (h : w.rangeAt g o cs) (hg : g < w.heap.size) (hb : Below w.heap.size w w') : w'.rangeAt g o cs := fun j v hv => by
  rw [hb.cell (p := ⟨g, o + j, none⟩) hg]; exact h j v hv
theorem pkT_ok (x y : Int) (h1 : i64In x) (h2 : i64In y) : PkOk (pkT x y) := ok_of x y _ h1 h2 (by decide)
theorem pkT_at (x y : Int) (w : World) (B : Nat) : PkAt w B (pkT x y) sv0 := at_of x y _ w B

/-- One of the three, at its place. -/
def At3 (w : World) (g k : Nat) : Prop := ∃ (p : Pk) (s : Sv), w.rangeAt g (k * 24) (pkC p s).toList ∧ PkAt w w.heap.size p s ∧ NilOk s ∧ PkOk p

/-- What cast.Packet and Try tell, by the form. -/
theorem Packet_yes (p : Pk) (s : Sv) (B : Nat) (w : World) (hp : PkAt w B p s) (hB : B ≤ w.heap.size) (ok : PkOk p) (hn : NilOk s) (hf : formK p.kind ≠ 5) :
    Calls Tryd.prog 10 #[wrapV p s] w fun e w' => ∃ s' : Sv, e = .returned (.tuple #[pkV p s', .bool true]) ∧ PkOwn w' w.heap.size p s' ∧ Below w.heap.size w w' := by
  refine (Packet_any p s B w hp hB ok hn).mono ?_
  rintro e w' ⟨s', he, ho, hb⟩
  have e1 : uwP p = p := by unfold uwP; rw [if_neg (by simpa using hf)]
  have e2 : (formK p.kind != 5) = true := by simpa using hf
  rw [e1, e2] at he
  rw [e1] at ho
  exact ⟨s', he, ho, hb⟩
theorem Packet_no (p : Pk) (s : Sv) (B : Nat) (w : World) (hp : PkAt w B p s) (hB : B ≤ w.heap.size) (ok : PkOk p) (hn : NilOk s) (hf : formK p.kind = 5) :
    Calls Tryd.prog 10 #[wrapV p s] w fun e w' => ∃ s' : Sv, e = .returned (.tuple #[pkV pk0 s', .bool false]) ∧ PkOwn w' w.heap.size pk0 s' ∧ Below w.heap.size w w' := by
  refine (Packet_any p s B w hp hB ok hn).mono ?_
  rintro e w' ⟨s', he, ho, hb⟩
  have e1 : uwP p = pk0 := by unfold uwP; rw [hf]; rfl
  rw [e1, hf] at he
  rw [e1] at ho
  exact ⟨s', he, ho, hb⟩
theorem Try_y (p : Pk) (s : Sv) (B : Nat) (w : World) (hp : PkAt w B p s) (hB : B ≤ w.heap.size) (ok : PkOk p) (hn : NilOk s) (hf : formK p.kind = 1) :
    Calls Tryd.prog 11 #[wrapV p s] w fun e w' => ∃ s' : Sv, e = .returned (.tuple #[pkV p s', .bool true]) ∧ PkOwn w' w.heap.size p s' ∧ Below w.heap.size w w' := by
  refine (Try_any p s B w hp hB ok hn).mono ?_
  rintro e w' ⟨s', he, ho, hb⟩
  have e1 : tyP p = p := by unfold tyP; rw [hf]; rfl
  rw [e1, hf] at he
  rw [e1] at ho
  exact ⟨s', he, ho, hb⟩
theorem Try_n (p : Pk) (s : Sv) (B : Nat) (w : World) (hp : PkAt w B p s) (hB : B ≤ w.heap.size) (ok : PkOk p) (hn : NilOk s) (hf : formK p.kind ≠ 1) :
    Calls Tryd.prog 11 #[wrapV p s] w fun e w' => ∃ s' : Sv, e = .returned (.tuple #[pkV pk0 s', .bool false]) ∧ PkOwn w' w.heap.size pk0 s' ∧ Below w.heap.size w w' := by
  refine (Try_any p s B w hp hB ok hn).mono ?_
  rintro e w' ⟨s', he, ho, hb⟩
  have e1 : tyP p = pk0 := by unfold tyP; rw [if_neg (by simpa using hf)]
  have e2 : (formK p.kind == 1) = false := by simpa using hf
  rw [e1, e2] at he
  rw [e1] at ho
  exact ⟨s', he, ho, hb⟩

end Go.Proofs.YtpjlnienakiihaaDoor
