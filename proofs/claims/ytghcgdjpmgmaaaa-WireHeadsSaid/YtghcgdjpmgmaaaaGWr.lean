/- What a packet is without the fields that its kind doesn't write: wire.written. -/
import Derived.Test.YtghcgdjpmgmaaaaGFits
import Derived.Deep.RegionHeld3
import Derived.Deep.Cut
namespace Go.Proofs.Ytghcgdjpmgmaaaa
open Go.RowKit Go.Lib

def pk0 : Pk := ⟨0, false, false, 0, 0, ByteArray.empty, [], 0, ByteArray.empty, false, 0, false, ByteArray.empty, [], 0, false, false, false, ByteArray.empty, [], false, 0, [], []⟩
def sv0 : Sv := ⟨none, 0, none, 0, none, 0, none, 0, none, 0⟩

def wrP (p : Pk) : Pk :=
  if p.kind == 1 then { pk0 with kind := p.kind, level := p.level, clean := p.clean, keep := p.keep, cli := p.cli, hw := p.hw, hu := p.hu, hp := p.hp, wtop := if p.hw then p.wtop else ByteArray.empty, wpay := if p.hw then p.wpay else [], wqos := if p.hw then p.wqos else 0, wret := if p.hw then p.wret else false, user := if p.hu then p.user else ByteArray.empty, pass := if p.hp then p.pass else [] }
  else if p.kind == 2 then { pk0 with kind := p.kind, pres := p.pres, code := p.code }
  else if p.kind == 3 then { pk0 with kind := p.kind, dup := p.dup, qos := p.qos, ret := p.ret, top := p.top, pay := p.pay, id := if p.qos == 0 then 0 else p.id }
  else if p.kind == 4 || p.kind == 5 || p.kind == 6 || p.kind == 7 || p.kind == 11 then { pk0 with kind := p.kind, id := p.id }
  else if p.kind == 8 || p.kind == 10 then { pk0 with kind := p.kind, id := p.id, subs := p.subs }
  else if p.kind == 9 then { pk0 with kind := p.kind, id := p.id, codes := p.codes }
  else { pk0 with kind := p.kind }
def wrS (p : Pk) (s : Sv) : Sv :=
  if p.kind == 1 then { sv0 with wA := if p.hw then s.wA else none, wC := if p.hw then s.wC else 0, uA := if p.hp then s.uA else none, uC := if p.hp then s.uC else 0 }
  else if p.kind == 2 then sv0
  else if p.kind == 3 then { sv0 with pA := s.pA, pC := s.pC }
  else if p.kind == 4 || p.kind == 5 || p.kind == 6 || p.kind == 7 || p.kind == 11 then sv0
  else if p.kind == 8 || p.kind == 10 then { sv0 with sA := s.sA, sC := s.sC }
  else if p.kind == 9 then { sv0 with cA := s.cA, cC := s.cC }
  else sv0

theorem setRow_keep (w : World) (o : Obj) (g : Nat) (c' : Array Value) (h : g < w.heap.size) : (w.alloc o).setRow g c' = (w.setRow g c').alloc o := by
  simp only [World.setRow, World.alloc]
  congr 1
  apply Array.ext_getElem?
  intro i
  rw [Array.getElem?_modify, Array.getElem?_push, Array.getElem?_push, Array.size_modify, Array.getElem?_modify]
  by_cases hg : g = i
  · subst hg
    have hne : ¬ g = w.heap.size := by omega
    simp [hne]
  · by_cases hi : i = w.heap.size
    · simp only [hi, if_true]; simp; intro e; omega
    · simp [hg, hi]
theorem size2 (w : World) (a b : Obj) : ((w.alloc a).alloc b).heap.size = w.heap.size + 1 + 1 := by simp
theorem size1 (w : World) (a : Obj) : (w.alloc a).heap.size = w.heap.size + 1 := by simp

/-- A whole packet is stored into the block that was made last, of three. -/
theorem st3 {ops : Array Oper} {rest : List Oper} {Q : Exit → Act → World → Prop} {a : Act} {w : World} {x y : Operand} {ty : TypeId} {ps : String} {af : Array Edge}
    (o1 o2 : Obj) (old cs : Array Value) (hx : a.eval x = .pointer (some ⟨w.heap.size + 1 + 1, 0, none⟩)) (hy : a.eval y = .agg cs) (ho : old.size = 24) (hc : cs.size = 24) (h1 : cs.toList.all (·.oneCell') = true)
    (h : wpList Try.prog ops Q rest a (((w.alloc o1).alloc o2).alloc (.cells cs 28))) :
    wpList Try.prog ops Q ({ dst := none, op := .store 28 x y, type := ty, pos := ps, after := af, guard := none } :: rest) a (((w.alloc o1).alloc o2).alloc (.cells old 28)) := by
  refine wpList_store_rowTo rfl 28 x y rfl rfl _ cs hx hy 28 old ?_ (by rw [hc]; exact pk_sz) (by rw [ho, hc]) (by rw [← Array.all_toList]; exact h1) ?_
  · rw [← size2 w o1 o2]; exact heap_alloc_last _ _
  · rw [← size2 w o1 o2, World.setRow_alloc_new]; exact h
/-- .. and into the one before it. -/
theorem st2 {ops : Array Oper} {rest : List Oper} {Q : Exit → Act → World → Prop} {a : Act} {w : World} {x y : Operand} {ty : TypeId} {ps : String} {af : Array Edge}
    (o1 o3 : Obj) (old cs : Array Value) (hx : a.eval x = .pointer (some ⟨w.heap.size + 1, 0, none⟩)) (hy : a.eval y = .agg cs) (ho : old.size = 24) (hc : cs.size = 24) (h1 : cs.toList.all (·.oneCell') = true)
    (h : wpList Try.prog ops Q rest a (((w.alloc o1).alloc (.cells cs 28)).alloc o3)) :
    wpList Try.prog ops Q ({ dst := none, op := .store 28 x y, type := ty, pos := ps, after := af, guard := none } :: rest) a (((w.alloc o1).alloc (.cells old 28)).alloc o3) := by
  refine wpList_store_rowTo rfl 28 x y rfl rfl _ cs hx hy 28 old ?_ (by rw [hc]; exact pk_sz) (by rw [ho, hc]) (by rw [← Array.all_toList]; exact h1) ?_
  · rw [← size1 w o1]; exact heap_keep (heap_alloc_last _ _)
  · rw [← size1 w o1, setRow_keep _ _ _ _ (by simp), World.setRow_alloc_new]; exact h
theorem last3 (w : World) (a b c : Obj) : (((w.alloc a).alloc b).alloc c).heap[w.heap.size + 1 + 1]? = some c := by rw [← size2 w a b]; exact heap_alloc_last _ _
theorem mid3 (w : World) (a b c : Obj) : (((w.alloc a).alloc b).alloc c).heap[w.heap.size + 1]? = some b := by rw [← size1 w a]; exact heap_keep (heap_alloc_last _ _)
theorem fst3 (w : World) (a b c : Obj) : (((w.alloc a).alloc b).alloc c).heap[w.heap.size]? = some a := heap_keep (heap_keep (heap_alloc_last _ _))
theorem dr_heap (w : World) : w.drew.heap = w.heap := rfl
/-- A whole packet is stored into a row. -/
theorem stR {ops : Array Oper} {rest : List Oper} {Q : Exit → Act → World → Prop} {a : Act} {w : World} {x y : Operand} {ty : TypeId} {ps : String} {af : Array Edge}
    (g : Nat) (old cs : Array Value) (hx : a.eval x = .pointer (some ⟨g, 0, none⟩)) (hy : a.eval y = .agg cs) (hg : w.heap[g]? = some (.cells old 28 (0, 0))) (ho : old.size = 24) (hc : cs.size = 24) (h1 : cs.toList.all (·.oneCell') = true)
    (h : wpList Try.prog ops Q rest a (w.setRow g cs)) :
    wpList Try.prog ops Q ({ dst := none, op := .store 28 x y, type := ty, pos := ps, after := af, guard := none } :: rest) a w :=
  wpList_store_rowTo rfl 28 x y rfl rfl _ cs hx hy 28 old hg (by rw [hc]; exact pk_sz) (by rw [ho, hc]) (by rw [← Array.all_toList]; exact h1) h

end Go.Proofs.Ytghcgdjpmgmaaaa

/- wire.writtenConnect. -/
namespace Go.Proofs.Ytghcgdjpmgmaaaa
open Go.RowKit Go.Lib

set_option maxRecDepth 100000 in
set_option maxHeartbeats 4000000 in
theorem wrc_any (p : Pk) (s : Sv) (w : World) (k1 : (p.kind == 1) = true) :
    Calls Try.prog 71 #[pkV p s] w fun e w' => e = .returned (pkV (wrP p) (wrS p s)) ∧ Below w.heap.size w w' := by
  rcases e1 : p.hw with _ | _ <;> rcases e2 : p.hu with _ | _ <;> rcases e3 : p.hp with _ | _
  all_goals
    have E1 := Lib.hid e1
    have E2 := Lib.hid e2
    have E3 := Lib.hid e3
    go_enter Try.func71, Try.ntmps71
    go_wp2_with (first | ((with_reducible show wpList _ _ _ ({ dst := _, op := Op.load 24 _, type := _, pos := _, after := _, guard := _ } :: _) _ _); refine ld_wl (w.heap.size) p s (by rfl) (by rfl) _ _ (by (first | assumption | exact heap_alloc_last _ _ | (repeat (first | assumption | exact heap_alloc_last _ _ | exact heap_last2 _ _ _ | refine heap_keep ?_ | refine heap_below (by assumption) ?_)))) ?_) | ((with_reducible show wpList _ _ _ ({ dst := _, op := Op.store 28 (Operand.tmp 3) _, type := _, pos := _, after := _, guard := _ } :: _) _ _); refine st3 _ _ _ _ (by rfl) (by rfl) (by rfl) (by rfl) (by rfl) ?_) | ((with_reducible show wpList _ _ _ ({ dst := _, op := Op.store 28 (Operand.tmp 2) _, type := _, pos := _, after := _, guard := _ } :: _) _ _); refine stR (w.heap.size + 1) _ _ (by rfl) (by rfl) (by (try simp only [dr_heap]); first | exact fst3 _ _ _ _ | exact last3 _ _ _ _ | exact mid3 _ _ _ _ | exact heap_below (by assumption) (mid3 _ _ _ _) | exact heap_below (by assumption) (fst3 _ _ _ _)) (by rfl) (by rfl) (by rfl) ?_) | ((with_reducible show wpList _ _ _ ({ dst := _, op := Op.load 28 (Operand.tmp 1), type := _, pos := _, after := _, guard := _ } :: _) _ _); refine ld_pk (w.heap.size) (by rfl) (by rfl) _ _ _ (by (try simp only [dr_heap]); first | exact fst3 _ _ _ _ | exact last3 _ _ _ _ | exact mid3 _ _ _ _ | exact heap_below (by assumption) (mid3 _ _ _ _) | exact heap_below (by assumption) (fst3 _ _ _ _)) (by rfl) ?_) | ((with_reducible show wpList _ _ _ ({ dst := _, op := Op.load 28 (Operand.tmp 3), type := _, pos := _, after := _, guard := _ } :: _) _ _); refine ld_pk (w.heap.size + 1 + 1) (by rfl) (by rfl) _ _ _ (by (try simp only [dr_heap]); first | exact fst3 _ _ _ _ | exact last3 _ _ _ _ | exact mid3 _ _ _ _ | exact heap_below (by assumption) (mid3 _ _ _ _) | exact heap_below (by assumption) (fst3 _ _ _ _)) (by rfl) ?_))
    (refine bodyPost_ret (v := .agg _) (results_cell_row (by rfl) _ _ (w.heap.size + 1) 28 _ (0, 0) _ (by rfl) (setRow_heap _ _ _ _ _ _ (by (try simp only [dr_heap]); first | exact fst3 _ _ _ _ | exact last3 _ _ _ _ | exact mid3 _ _ _ _ | exact heap_below (by assumption) (mid3 _ _ _ _) | exact heap_below (by assumption) (fst3 _ _ _ _))) Try.underlying28 (by rfl) (by exact pk_sz)) (by rfl) ⟨congrArg (fun c => Ending.returned (.agg c)) ?_, ?_⟩; (· first | (simp [wrP, wrS, *]; done) | (simp [wrP, wrS, *]; rfl) | rfl); (· exact below_setRow (by (repeat (first | assumption | exact Below.refl _ _ | exact (Below.refl _ _).alloc (Nat.le_refl _) _ | (refine thn ?_ (by assumption)) | (refine alB ?_ _) | (refine dwN ?_ _) | (refine Below.drew ?_)))) (by omega) _))
end Go.Proofs.Ytghcgdjpmgmaaaa
