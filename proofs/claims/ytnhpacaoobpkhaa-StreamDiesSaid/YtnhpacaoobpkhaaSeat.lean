/- The help's packets of numbers: hubbubseat.Topic, Filter, and what a packet of theirs is. -/
import Derived.Test.YtnhpacaoobpkhaaGRead
import Derived.Test.YtnhpacaoobpkhaaGSame
namespace Go.Proofs.Ytnhpacaoobpkhaa
open Go.RowKit Go.Lib
set_option linter.unusedVariables false

/-- A short text that may be. -/
abbrev Tx4 (t : ByteArray) : Prop := t.size ≤ 4 ∧ txt t = true
def TextPost (w : World) (e : Ending) (w' : World) : Prop := ∃ t : ByteArray, e = .returned (.string t) ∧ Tx4 t ∧ Below w.heap.size w w'

set_option maxRecDepth 100000 in
set_option maxHeartbeats 2000000 in
theorem Topic_any (k : Int) (w : World) (h0 : 0 ≤ k) (h1 : k ≤ 255) : Calls Try.prog 34 #[.int .u8 k] w (TextPost w) := by
  rcases (show k % 7 = 0 ∨ k % 7 = 1 ∨ k % 7 = 2 ∨ k % 7 = 3 ∨ k % 7 = 4 ∨ k % 7 = 5 ∨ k % 7 = 6 by omega) with h | h | h | h | h | h | h <;>
  (go_enter Try.func34, Try.ntmps34
   go_wp2
   go_ret
   exact ⟨_, rfl, by decide +kernel, by (repeat (first | assumption | exact Below.refl _ _ | exact (Below.refl _ _).alloc (Nat.le_refl _) _ | (refine thn ?_ (by assumption)) | (refine alB ?_ _) | (refine dwN ?_ _) | (refine Below.drew ?_)))⟩)
set_option maxRecDepth 100000 in
set_option maxHeartbeats 2000000 in
theorem Filter_any (k : Int) (w : World) (h0 : 0 ≤ k) (h1 : k ≤ 255) : Calls Try.prog 35 #[.int .u8 k] w (TextPost w) := by
  rcases (show k % 10 = 0 ∨ k % 10 = 1 ∨ k % 10 = 2 ∨ k % 10 = 3 ∨ k % 10 = 4 ∨ k % 10 = 5 ∨ k % 10 = 6 ∨ k % 10 = 7 ∨ k % 10 = 8 ∨ k % 10 = 9 by omega) with h | h | h | h | h | h | h | h | h | h <;>
  (go_enter Try.func35, Try.ntmps35
   go_wp2
   go_ret
   exact ⟨_, rfl, by decide +kernel, by (repeat (first | assumption | exact Below.refl _ _ | exact (Below.refl _ _).alloc (Nat.le_refl _) _ | (refine thn ?_ (by assumption)) | (refine alB ?_ _) | (refine dwN ?_ _) | (refine Below.drew ?_)))⟩)

/-- Of fields within their bounds, and right. -/
def GoodPk (p : Pk) : Prop := PkOk p ∧ rightP p = true
/-- A packet of small numbers and short texts. -/
def SeatPost (w : World) (e : Ending) (w' : World) : Prop :=
  ∃ (p : Pk) (s : Sv), e = .returned (pkV p s) ∧ PkAt w' w'.heap.size p s ∧ NilOk s ∧ GoodPk p ∧ Below w.heap.size w w'


theorem i64_0 : i64In 0 := ⟨by decide, by decide⟩
theorem pk0_ok : PkOk pk0 := ⟨i64_0, i64_0, i64_0, i64_0, i64_0, i64_0, i64_0, by decide, by decide, by decide, by decide, by decide, by decide, by decide, by decide, by decide, by simp [pk0], by simp [pk0]⟩
theorem ok_of (k i : Int) (t : ByteArray) (h1 : i64In k) (h2 : i64In i) (h3 : t.size ≤ 1000000) : PkOk { pk0 with kind := k, id := i, top := t } :=
  ⟨h1, i64_0, h2, i64_0, i64_0, i64_0, i64_0, h3, pk0_ok.pay, pk0_ok.cli, pk0_ok.wtop, pk0_ok.wpay, pk0_ok.user, pk0_ok.pass, pk0_ok.subs, pk0_ok.codes, pk0_ok.sub, pk0_ok.cod⟩
/-- A whole packet is stored into the block that was made last. -/
theorem stL {ops : Array Oper} {rest : List Oper} {Q : Exit → Act → World → Prop} {a : Act} {w : World} {T : TypeId} {x y : Operand} {ty : TypeId} {ps : String} {af : Array Edge}
    (g : Nat) (hw : w.heap.size = g) (old cs : Array Value) (hx : a.eval x = .pointer (some ⟨g, 0, none⟩)) (hy : a.eval y = .agg cs) (ho : old.size = 24) (hc : cs.size = 24) (hT : (Try.prog.info? T).map (·.size) = some 24) (h1 : cs.toList.all (·.oneCell') = true)
    (h : wpList Try.prog ops Q rest a (w.alloc (.cells cs T))) :
    wpList Try.prog ops Q ({ dst := none, op := .store T x y, type := ty, pos := ps, after := af, guard := none } :: rest) a (w.alloc (.cells old T)) := by
  subst hw
  refine wpList_store_rowTo rfl T x y rfl rfl w.heap.size cs hx hy T old (heap_alloc_new w _) (by rw [hc]; exact hT) (by rw [ho, hc]) (by rw [← Array.all_toList]; exact h1) ?_
  rw [World.setRow_alloc_new]; exact h
/-- .. into a row. -/
theorem stRs {ops : Array Oper} {rest : List Oper} {Q : Exit → Act → World → Prop} {a : Act} {w : World} {T : TypeId} {x y : Operand} {ty : TypeId} {ps : String} {af : Array Edge}
    (g : Nat) (old cs : Array Value) (hx : a.eval x = .pointer (some ⟨g, 0, none⟩)) (hy : a.eval y = .agg cs) (hg : w.heap[g]? = some (.cells old T (0, 0))) (ho : old.size = 24) (hc : cs.size = 24) (hT : (Try.prog.info? T).map (·.size) = some 24) (h1 : cs.toList.all (·.oneCell') = true)
    (h : wpList Try.prog ops Q rest a (w.setRow g cs)) :
    wpList Try.prog ops Q ({ dst := none, op := .store T x y, type := ty, pos := ps, after := af, guard := none } :: rest) a w :=
  wpList_store_rowTo rfl T x y rfl rfl _ cs hx hy T old hg (by rw [hc]; exact hT) (by rw [ho, hc]) (by rw [← Array.all_toList]; exact h1) h
theorem pk_one (p : Pk) (s : Sv) : (pkC p s).toList.all (·.oneCell') = true := rfl

end Go.Proofs.Ytnhpacaoobpkhaa

/- The help's greeting: hubbubseat.Connect. -/
namespace Go.Proofs.Ytnhpacaoobpkhaa
open Go.RowKit Go.Lib

theorem hset {w : World} {g i : Nat} {cs : Array Value} {t : TypeId} {v : Value} (h : w.heap[g]? = some (.cells cs t (0, 0))) : (w.setCell ⟨g, i, none⟩ v).heap[g]? = some (.cells (cs.setIfInBounds i v) t (0, 0)) := heap_setCell_same w g i cs t v h

/-- The greeting, by what is asked for. -/
def seatC (cl : ByteArray) (cln : Bool) (kp : Int) (bw : Bool) (wt : ByteArray) (l : List UInt8) (wq : Int) (wr : Bool) (b3 bu : Bool) : Pk :=
  { pk0 with kind := 1, level := if b3 then 3 else 4, cli := cl, clean := cln, keep := kp, hw := bw, wtop := if bw then wt else ByteArray.empty, wpay := if bw then l else [], wqos := if bw then wq else 0, wret := if bw then wr else false, hu := bu, hp := bu, user := if bu then ⟨#[117]⟩ else ByteArray.empty, pass := if bu then l else [] }
def seatS (A : Option Addr) (c : Nat) (bw bu : Bool) : Sv := { sv0 with wA := if bw then A else none, wC := if bw then c else 0, uA := if bu then A else none, uC := if bu then c else 0 }
theorem seatC_ok0 (cl : ByteArray) (cln : Bool) (kp : Int) (bw : Bool) (wt : ByteArray) (l : List UInt8) (wq : Int) (wr : Bool) (b3 bu : Bool) (h1 : cl.size ≤ 4) (h2 : wt.size ≤ 4) (h3 : l.length ≤ 60) (h4 : 0 ≤ kp) (h5 : kp ≤ 255) (h6 : 0 ≤ wq) (h7 : wq ≤ 255) : PkOk (seatC cl cln kp bw wt l wq wr b3 bu) := by
  unfold seatC
  have hb : ∀ n : Int, 0 ≤ n → n ≤ 255 → i64In n := fun n a b => by unfold i64In; omega
  have z : ∀ n : Nat, n ≤ 60 → n ≤ 1000000 := fun n h => by omega
  refine ⟨hb 1 (by omega) (by omega), i64_0, i64_0, ?_, hb kp h4 h5, ?_, i64_0, pk0_ok.top, pk0_ok.pay, z _ (show cl.size ≤ 60 by omega), ?_, ?_, ?_, ?_, pk0_ok.subs, pk0_ok.codes, pk0_ok.sub, pk0_ok.cod⟩
  · cases b3
    · exact hb 4 (by omega) (by omega)
    · exact hb 3 (by omega) (by omega)
  · cases bw
    · exact i64_0
    · exact hb wq h6 h7
  · cases bw
    · exact z _ (show ByteArray.empty.size ≤ 60 by decide)
    · exact z _ (show wt.size ≤ 60 by omega)
  · cases bw
    · exact z 0 (by omega)
    · exact z _ (show l.length ≤ 60 by omega)
  · cases bu
    · exact z _ (show ByteArray.empty.size ≤ 60 by decide)
    · exact z _ (show (⟨#[117]⟩ : ByteArray).size ≤ 60 by decide)
  · cases bu
    · exact z 0 (by omega)
    · exact z _ (show l.length ≤ 60 by omega)
theorem txt_e : txt ByteArray.empty = true := by decide +kernel
theorem txt_u : txt ⟨#[117]⟩ = true := by decide +kernel
theorem inI_of {n a b : Int} (h1 : a ≤ n) (h2 : n ≤ b) : inI n a b = true := by unfold inI; rw [decide_eq_true h1, decide_eq_true h2]; rfl
theorem seatC_right (cl : ByteArray) (cln : Bool) (kp : Int) (bw : Bool) (wt : ByteArray) (l : List UInt8) (wq : Int) (wr : Bool) (b3 bu : Bool) (h1 : Tx4 cl) (h2 : Tx4 wt) (h3 : l.length ≤ 60) (h4 : 0 ≤ kp) (h5 : kp ≤ 255) (h6 : 0 ≤ wq) (h7 : wq ≤ 2) : rightP (seatC cl cln kp bw wt l wq wr b3 bu) = true := by
  obtain ⟨h1, t1⟩ := h1
  obtain ⟨h2, t2⟩ := h2
  have e1 : seatC cl cln kp bw wt l wq wr b3 bu = wrP (seatC cl cln kp bw wt l wq wr b3 bu) := by cases bw <;> cases bu <;> rfl
  have e2 : lenP (seatC cl cln kp bw wt l wq wr b3 bu) ≤ 8192 := by
    have z : ByteArray.empty.size = 0 := rfl
    have u : (⟨#[117]⟩ : ByteArray).size = 1 := rfl
    show clenP (seatC cl cln kp bw wt l wq wr b3 bu) ≤ 8192
    unfold clenP seatC
    cases bw <;> cases bu <;> simp only [if_true, if_false, Bool.false_eq_true, u] <;> omega
  have e3 : fitsP (seatC cl cln kp bw wt l wq wr b3 bu) = true := by
    show cfitsP (seatC cl cln kp bw wt l wq wr b3 bu) = true
    unfold cfitsP seatC
    have k1 : inI kp 0 65535 = true := inI_of h4 (by omega)
    have k2 : inI wq 0 2 = true := inI_of h6 h7
    have k3 : inI 3 0 255 = true := by decide
    have k4 : inI 4 0 255 = true := by decide
    have k5 : inI 0 0 2 = true := by decide
    cases bw <;> cases bu <;> cases b3 <;> simp [t1, t2, txt_e, txt_u, k1, k2, k3, k4, k5]
  unfold rightP
  rw [decide_eq_true e1, decide_eq_true e2, e3]
  rfl
theorem seatC_ok (cl : ByteArray) (cln : Bool) (kp : Int) (bw : Bool) (wt : ByteArray) (l : List UInt8) (wq : Int) (wr : Bool) (b3 bu : Bool) (h1 : Tx4 cl) (h2 : Tx4 wt) (h3 : l.length ≤ 60) (h4 : 0 ≤ kp) (h5 : kp ≤ 255) (h6 : 0 ≤ wq) (h7 : wq ≤ 2) : GoodPk (seatC cl cln kp bw wt l wq wr b3 bu) :=
  ⟨seatC_ok0 cl cln kp bw wt l wq wr b3 bu h1.1 h2.1 h3 h4 h5 h6 (by omega), seatC_right cl cln kp bw wt l wq wr b3 bu h1 h2 h3 h4 h5 h6 h7⟩
theorem seatC_at {w : World} {B : Nat} (A : Option Addr) (c : Nat) (cl : ByteArray) (cln : Bool) (kp : Int) (bw : Bool) (wt : ByteArray) (l : List UInt8) (wq : Int) (wr : Bool) (b3 bu : Bool) (h : BytesAt w B (.slice A l.length c) l) : PkAt w B (seatC cl cln kp bw wt l wq wr b3 bu) (seatS A c bw bu) := by
  unfold seatC seatS
  refine ⟨(pk0_at w B).pay, ?_, ?_, (pk0_at w B).subs, (pk0_at w B).codes⟩
  · cases bw
    · exact (pk0_at w B).wpay
    · exact h
  · cases bu
    · exact (pk0_at w B).pass
    · exact h
theorem seatS_nil (A : Option Addr) (c : Nat) (bw bu : Bool) (h : A = none → c = 0) : NilOk (seatS A c bw bu) := by
  unfold seatS
  refine ⟨fun _ => rfl, ?_, ?_⟩
  · cases bw
    · exact fun _ => rfl
    · exact h
  · cases bu
    · exact fun _ => rfl
    · exact h

theorem lst3 (w : World) (a b c : Obj) : (((w.alloc a).alloc b).alloc c).heap[w.heap.size + 1 + 1]? = some c := by
  have := heap_alloc2_new (w.alloc a) b c
  simpa using this
/-- A whole packet out of its row, by another name. -/
theorem ld_pk2 {ops : Array Oper} {rest : List Oper} {Q : Exit → Act → World → Prop} {a : Act} {w : World} {d : Option Tmp} {x : Operand} {ty : TypeId} {ps : String} {af : Array Edge} {gd : Option (Nat × Bool)}
    (g : Nat) (hx : a.eval x = .pointer (some ⟨g, 0, none⟩)) (hw : Region.wanted { dst := d, op := .load 28 x, type := ty, pos := ps, after := af, guard := gd } (yielded ops a.tmps) = true)
    (cs cs' : Array Value) (t : TypeId) (fr : Nat × Nat) (hg : w.heap[g]? = some (.cells cs t fr)) (he : cs = cs') (hi : cs'.size = 24)
    (h : wpList Try.prog ops Q rest (a.put d (.agg cs')) w) : wpList Try.prog ops Q ({ dst := d, op := .load 28 x, type := ty, pos := ps, after := af, guard := gd } :: rest) a w := by
  subst he
  exact ld_pk g hx hw cs t fr hg hi h
/-- A will into a packet's row. -/
theorem st_will {ops : Array Oper} {rest : List Oper} {Q : Exit → Act → World → Prop} {a : Act} {w : World} {x y : Operand} {ty : TypeId} {ps : String} {af : Array Edge}
    (g : Nat) (p : Pk) (s : Sv) (t : ByteArray) (A : Option Addr) (c : Nat) (l : List UInt8) (q : Int) (r : Bool) (hx : a.eval x = .pointer (some ⟨g, 12, none⟩)) (hy : a.eval y = .agg #[.string t, .slice A l.length c, .int .i64 q, .bool r])
    (hr : w.heap[g]? = some (.cells (pkC p s) 28 (0, 0)))
    (h : ∀ w3 : World, w3.heap[g]? = some (.cells (pkC { p with wtop := t, wpay := l, wqos := q, wret := r } { s with wA := A, wC := c }) 28 (0, 0)) → (∀ g', g' ≠ g → w3.heap[g']? = w.heap[g']?) → (∀ (B : Nat) (v : World), B ≤ g → Below B v w → Below B v w3) → wpList Try.prog ops Q rest a w3) :
    wpList Try.prog ops Q ({ dst := none, op := .store 24 x y, type := ty, pos := ps, after := af, guard := none } :: rest) a w := by
  have hth : w.there g 12 (#[.string t, .slice A l.length c, .int .i64 q, .bool r] : Array Value).size := fun j hj => by
    have hj4 : j < 4 := hj
    rw [cell_of_row _ _ _ _ _ _ hr, frozen_of_row _ _ _ _ _ hr]
    refine ⟨?_, rfl⟩
    have : 12 + j < (pkC p s).size := by rw [pkC_size]; omega
    rw [Array.getElem?_eq_getElem this]; rfl
  refine wpList_store_mid rfl 24 x y rfl g 12 _ hx hy hth (by exact wl_sz) (by rw [← Array.all_toList]; rfl) ?_
  refine h _ ?_ ?_ ?_
  · show ((((w.setCell ⟨g, 12, none⟩ (.string t)).setCell ⟨g, 13, none⟩ (.slice A l.length c)).setCell ⟨g, 14, none⟩ (.int .i64 q)).setCell ⟨g, 15, none⟩ (.bool r)).heap[g]? = _
    exact hset (hset (hset (hset hr)))
  · intro g' hne
    show ((((w.setCell ⟨g, 12, none⟩ (.string t)).setCell ⟨g, 13, none⟩ (.slice A l.length c)).setCell ⟨g, 14, none⟩ (.int .i64 q)).setCell ⟨g, 15, none⟩ (.bool r)).heap[g']? = _
    rw [heap_setCell_other _ _ _ _ (by simpa using hne), heap_setCell_other _ _ _ _ (by simpa using hne), heap_setCell_other _ _ _ _ (by simpa using hne), heap_setCell_other _ _ _ _ (by simpa using hne)]
  · intro B v hB hb
    show Below B v ((((w.setCell ⟨g, 12, none⟩ (.string t)).setCell ⟨g, 13, none⟩ (.slice A l.length c)).setCell ⟨g, 14, none⟩ (.int .i64 q)).setCell ⟨g, 15, none⟩ (.bool r))
    exact (((hb.setCell hB _).setCell hB _).setCell hB _).setCell hB _
theorem hset2 {w : World} {g g' i : Nat} {o : Obj} {v : Value} (hne : g' ≠ g) (h : w.heap[g']? = some o) : (w.setCell ⟨g, i, none⟩ v).heap[g']? = some o := by rw [heap_setCell_other _ _ _ _ (by simpa using hne)]; exact h
/-- What the help's greeting is: its slices are what came in, or nil. -/
def SConPost (w : World) (A : Option Addr) (cx : Nat) (l : List UInt8) (e : Ending) (w' : World) : Prop :=
  ∃ (p : Pk) (s : Sv), e = .returned (pkV p s) ∧ (∀ (w0 : World) (B : Nat), BytesAt w0 B (.slice A l.length cx) l → PkAt w0 B p s) ∧ NilOk s ∧ GoodPk p ∧ Below w.heap.size w w'
end Go.Proofs.Ytnhpacaoobpkhaa

/- The help's plain packets and messages are right. -/
namespace Go.Proofs.Ytnhpacaoobpkhaa
open Go.RowKit Go.Lib

theorem i64_small {n : Int} (h0 : 0 ≤ n) (h1 : n ≤ 1000) : i64In n := by unfold i64In; omega
theorem right_of {p : Pk} (h1 : p = wrP p) (h2 : lenP p ≤ 8192) (h3 : fitsP p = true) : rightP p = true := by
  unfold rightP
  rw [decide_eq_true h1, decide_eq_true h2, h3]
  rfl
theorem splain_right (k i : Int) (h : ((k = 4 ∨ k = 5 ∨ k = 6 ∨ k = 7) ∧ 1 ≤ i ∧ i ≤ 65535) ∨ ((k = 12 ∨ k = 14) ∧ i = 0)) : rightP { pk0 with kind := k, id := i } = true := by
  rcases h with ⟨hk, h1, h2⟩ | ⟨hk, rfl⟩
  · have hi : inI i 1 65535 = true := inI_of h1 h2
    rcases hk with rfl | rfl | rfl | rfl
    all_goals exact right_of rfl (by show (2 : Int) ≤ 8192; decide) hi
  · rcases hk with rfl | rfl <;> decide +kernel
theorem pub_right (d r : Bool) (q i : Int) (t : ByteArray) (l : List UInt8) (ht : Tx4 t) (hl : l.length ≤ 60) (h : (q = 0 ∧ i = 0 ∧ d = false) ∨ (0 < q ∧ q ≤ 2 ∧ 1 ≤ i ∧ i ≤ 65535)) : rightP { pk0 with kind := 3, dup := d, ret := r, qos := q, id := i, top := t, pay := l } = true := by
  obtain ⟨h1, t1⟩ := ht
  have e2 : lenP { pk0 with kind := 3, dup := d, ret := r, qos := q, id := i, top := t, pay := l } ≤ 8192 := by
    show (2 + (t.size : Int) + l.length + (if q == 0 then 0 else 2)) ≤ 8192
    split <;> omega
  rcases h with ⟨rfl, rfl, rfl⟩ | ⟨hq, hq2, hi1, hi2⟩
  · refine right_of rfl e2 ?_
    show pfitsP _ = true
    unfold pfitsP
    show (txt t && inI 0 0 2 && (if (0 : Int) == 0 then !false else inI 0 1 65535)) = true
    rw [t1]; rfl
  · have hq0 : (q == 0) = false := beq_eq_false_iff_ne.2 (by omega)
    have e1 : ({ pk0 with kind := 3, dup := d, ret := r, qos := q, id := i, top := t, pay := l } : Pk) = wrP { pk0 with kind := 3, dup := d, ret := r, qos := q, id := i, top := t, pay := l } := by
      show _ = { pk0 with kind := 3, dup := d, qos := q, ret := r, top := t, pay := l, id := if q == 0 then 0 else i }
      rw [hq0]; rfl
    refine right_of e1 e2 ?_
    show pfitsP _ = true
    unfold pfitsP
    show (txt t && inI q 0 2 && (if q == 0 then !d else inI i 1 65535)) = true
    rw [t1, hq0, inI_of (show 0 ≤ q by omega) hq2]
    exact inI_of hi1 hi2
end Go.Proofs.Ytnhpacaoobpkhaa
