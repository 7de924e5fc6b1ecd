/- What a form holds: cast.unwrap, identify. -/
import Derived.Test.YtpjlnienakiihaaDoorCast
namespace Go.Proofs.YtpjlnienakiihaaDoor
open Go.RowKit Go.Lib

/-- A whole packet is stored into the block that was made last. -/
theorem stL {ops : Array Oper} {rest : List Oper} {Q : Exit → Act → World → Prop} {a : Act} {w : World} {T : TypeId} {x y : Operand} {ty : TypeId} {ps : String} {af : Array Edge}
    (g : Nat) (hw : w.heap.size = g) (old cs : Array Value) (hx : a.eval x = .pointer (some ⟨g, 0, none⟩)) (hy : a.eval y = .agg cs) (ho : old.size = 24) (hc : cs.size = 24) (hT : (Tryd.prog.info? T).map (·.size) = some 24) (h1 : cs.toList.all (·.oneCell') = true)
    (h : wpList Tryd.prog ops Q rest a (w.alloc (.cells cs T))) :
    wpList Tryd.prog ops Q ({ dst := none, op := .store T x y, type := ty, pos := ps, after := af, guard := none } :: rest) a (w.alloc (.cells old T)) := by
  subst hw
  refine wpList_store_rowTo rfl T x y rfl rfl w.heap.size cs hx hy T old (heap_alloc_new w _) (by rw [hc]; exact hT) (by rw [ho, hc]) (by rw [← Array.all_toList]; exact h1) ?_
  rw [World.setRow_alloc_new]; exact h
/-- .. into a row. -/
theorem stR {ops : Array Oper} {rest : List Oper} {Q : Exit → Act → World → Prop} {a : Act} {w : World} {T : TypeId} {x y : Operand} {ty : TypeId} {ps : String} {af : Array Edge}
    (g : Nat) (old cs : Array Value) (hx : a.eval x = .pointer (some ⟨g, 0, none⟩)) (hy : a.eval y = .agg cs) (hg : w.heap[g]? = some (.cells old T (0, 0))) (ho : old.size = 24) (hc : cs.size = 24) (hT : (Tryd.prog.info? T).map (·.size) = some 24) (h1 : cs.toList.all (·.oneCell') = true)
    (h : wpList Tryd.prog ops Q rest a (w.setRow g cs)) :
    wpList Tryd.prog ops Q ({ dst := none, op := .store T x y, type := ty, pos := ps, after := af, guard := none } :: rest) a w :=
  wpList_store_rowTo rfl T x y rfl rfl _ cs hx hy T old hg (by rw [hc]; exact hT) (by rw [ho, hc]) (by rw [← Array.all_toList]; exact h1) h
theorem pk_one (p : Pk) (s : Sv) : (pkC p s).toList.all (·.oneCell') = true := rfl
theorem szGreeting : (Tryd.prog.info? 67).map (·.size) = some 24 := by kernel_rfl
theorem szMessage : (Tryd.prog.info? 37).map (·.size) = some 24 := by kernel_rfl
theorem szAck : (Tryd.prog.info? 68).map (·.size) = some 24 := by kernel_rfl
theorem szAsk : (Tryd.prog.info? 55).map (·.size) = some 24 := by kernel_rfl
theorem szSignal : (Tryd.prog.info? 56).map (·.size) = some 24 := by kernel_rfl

/-- Two results: a row and a slot. -/
theorem results_row_tmp {fn : Func} {p q : Tmp} {ty : TypeId} (h : fn.results = #[.cell p ty, .tmp q]) (tmps : Array Value) (w : World) (g : Nat) (t : TypeId) (cs : Array Value) (fr : Nat × Nat) (d : Array Field) (v : Value)
    (hp : tmps.getD p undef = .pointer (some ⟨g, 0, none⟩)) (hq : tmps.getD q undef = v) (hg : w.heap[g]? = some (.cells cs t fr))
    (hu : Tryd.prog.underlying ty = some (.struct d)) (hi : (Tryd.prog.info? ty).map (·.size) = some cs.size) :
    (results fn tmps).run Tryd.prog w = .ok (.tuple #[.agg cs, v]) w := by
  have hp' : tmps[p]?.getD undef = .pointer (some ⟨g, 0, none⟩) := by simpa using hp
  have hq' : tmps[q]?.getD undef = v := by simpa using hq
  simp [results, h, hp', hq', asAddr, run_loadVar_row w g t ty cs fr (.struct d) hg hu rfl hi]

def zeroPk : Value := .agg pk0C
theorem as_no (T : TypeId) (u : TypeId) (v : Value) (W : World) (hT : T = 67 ∨ T = 37 ∨ T = 68 ∨ T = 55 ∨ T = 56) (h : u ≠ T) : (Instr.typeAssert (.iface u v) 20 T true).run Tryd.prog W = .ok (.tuple #[.agg pk0C, .bool false]) W := by
  have z : (do pure (Value.tuple #[← zeroValue T, .bool false]) : Sem Value).run Tryd.prog W = .ok (.tuple #[.agg pk0C, .bool false]) W := by
    rcases hT with rfl | rfl | rfl | rfl | rfl <;> kernel_rfl
  have e : (Instr.typeAssert (.iface u v) 20 T true).run Tryd.prog W = (if u = T then (pure (Value.tuple #[v, .bool true]) : Sem Value) else (do pure (Value.tuple #[← zeroValue T, .bool false]))).run Tryd.prog W := by
    rcases hT with rfl | rfl | rfl | rfl | rfl <;> kernel_rfl
  rw [e, if_neg h]
  exact z
theorem as_nil (T : TypeId) (W : World) (hT : T = 67 ∨ T = 37 ∨ T = 68 ∨ T = 55 ∨ T = 56) : (Instr.typeAssert .nilIface 20 T true).run Tryd.prog W = .ok (.tuple #[.agg pk0C, .bool false]) W := by
  rcases hT with rfl | rfl | rfl | rfl | rfl <;> kernel_rfl
theorem as_yes (T : TypeId) (v : Value) (W : World) (hT : T = 67 ∨ T = 37 ∨ T = 68 ∨ T = 55 ∨ T = 56) : (Instr.typeAssert (.iface T v) 20 T true).run Tryd.prog W = .ok (.tuple #[v, .bool true]) W := by
  rcases hT with rfl | rfl | rfl | rfl | rfl <;> kernel_rfl

end Go.Proofs.YtpjlnienakiihaaDoor
