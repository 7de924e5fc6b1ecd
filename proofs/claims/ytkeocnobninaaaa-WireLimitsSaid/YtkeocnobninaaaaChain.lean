/- A chain of '&&' over a great frame: a step at a time, of whatever frame. -/
import Derived.Test.YtkeocnobninaaaaPkt
namespace Go.Proofs.Ytkeocnobninaaaa
open Go.RowKit Go.Lib
set_option linter.unusedVariables false

theorem put_ne {a : Act} {d i : Nat} {v : Value} (h : d ≠ i) : (a.put (some d) v).tmps[i]? = a.tmps[i]? := by
  simp [Act.put, h]
theorem put_eq {a : Act} {d : Nat} {v : Value} (h : d < a.tmps.size) : (a.put (some d) v).tmps[d]? = some v := by
  simp [Act.put, h]
theorem put_size {a : Act} {d : Nat} {v : Value} : (a.put (some d) v).tmps.size = a.tmps.size := by simp [Act.put]
theorem ev_tmp {a : Act} {i : Nat} {v : Value} (h : a.tmps[i]? = some v) : a.eval (.tmp i) = v := by
  show a.tmps.getD i undef = v
  simp [Array.getD_eq_getD_getElem?, h]
theorem ev_raw {a : Act} {i : Nat} {v : Value} (h : a.eval (.tmp i) = v) : a.tmps[i]?.getD undef = v := by
  have h' : a.tmps.getD i undef = v := h
  simpa using h'
theorem yl_of {ops : Array Oper} {a : Act} {j d : Nat} {b : Bool} (hd : (ops[j]?).bind (·.dst) = some d) (h : a.tmps[d]? = some (.bool b)) : yielded ops a.tmps j = some b := by
  simp [yielded, hd, h]
theorem wl_do {ops : Array Oper} {Q : Exit → Act → World → Prop} {a : Act} {w w' : World} {rest : List Oper} {o : Oper} {v : Value} (hw : Region.wanted o (yielded ops a.tmps) = true) (hx : (execOp a.eval o).run Try.prog w = .ok (.value v) w') (h : wpList Try.prog ops Q rest (a.put o.dst v) w') : wpList Try.prog ops Q (o :: rest) a w :=
  BigFrame.wpList_want hw fun K hK => by
    unfold Oper.wp
    rw [hx]
    exact hK _ _ h
theorem wl_skip {ops : Array Oper} {Q : Exit → Act → World → Prop} {a : Act} {w : World} {rest : List Oper} {o : Oper} (hw : Region.wanted o (yielded ops a.tmps) = false) (h : wpList Try.prog ops Q rest (a.put o.dst undef) w) : wpList Try.prog ops Q (o :: rest) a w := by
  unfold wpList
  rw [if_neg (by rw [hw]; simp)]
  exact h

/-- What is known of a frame: its size, two slots, and the test so far. -/
structure Fr (a : Act) (n p1 p2 : Nat) (u1 u2 : Value) (i : Nat) (b : Bool) : Prop where
  size : a.tmps.size = n
  h1 : a.tmps[p1]? = some u1
  h2 : a.tmps[p2]? = some u2
  acc : a.tmps[i]? = some (.bool b)
  defers : a.defers = []

theorem want_g {d : Option Tmp} {op : Op} {ty : TypeId} {ps : String} {af : Array Edge} {g : Nat} {x b : Bool} {ys : Nat → Option Bool} (h : ys g = some b) : Region.wanted { dst := d, op := op, type := ty, pos := ps, after := af, guard := some (g, x) } ys = (b == x) := by
  simp [Region.wanted, h]
theorem want_n {d : Option Tmp} {op : Op} {ty : TypeId} {ps : String} {af : Array Edge} {ys : Nat → Option Bool} : Region.wanted { dst := d, op := op, type := ty, pos := ps, after := af, guard := none } ys = true := by
  simp [Region.wanted]

/-- One more comparison of two fields. -/
theorem eq_step {ops : Array Oper} {Q : Exit → Act → World → Prop} {a : Act} {w : World} {rest : List Oper} {T0 T : TypeId} {f : Nat} {ty1 ty2 ty3 ty4 ty5 ty6 ty7 : TypeId} {q1 q2 q3 q4 q5 q6 q7 : String} {e1 e2 e3 e4 e5 e6 e7 : Array Edge} {TB : TypeId}
    (n p1 p2 k g m : Nat) (op7 : Op) (u1 u2 : Value) (b x : Bool) (hF : Fr a n p1 p2 u1 u2 (k - 1) b) (hm : m < n) (hm1 : m ≠ p1) (hm2 : m ≠ p2) (h1 : p1 < k - 1) (h2 : p2 < k - 1) (hk : k + 5 < n) (hg : (ops[g]?).bind (·.dst) = some (k - 1))
    (y1 y2 v1 v2 : Value)
    (E1 : ∀ a : Act, a.eval (.tmp p1) = u1 → (execOp a.eval { dst := some k, op := .fieldAddr T0 (.tmp p1) f, type := ty1, pos := q1, after := e1, guard := some (g, true) }).run Try.prog w = .ok (.value y1) w)
    (E2 : ∀ a : Act, a.eval (.tmp k) = y1 → (execOp a.eval { dst := some (k + 1), op := .load T (.tmp k), type := ty2, pos := q2, after := e2, guard := some (g, true) }).run Try.prog w = .ok (.value v1) w)
    (E3 : ∀ a : Act, a.eval (.tmp p2) = u2 → (execOp a.eval { dst := some (k + 2), op := .fieldAddr T0 (.tmp p2) f, type := ty3, pos := q3, after := e3, guard := some (g, true) }).run Try.prog w = .ok (.value y2) w)
    (E4 : ∀ a : Act, a.eval (.tmp (k + 2)) = y2 → (execOp a.eval { dst := some (k + 3), op := .load T (.tmp (k + 2)), type := ty4, pos := q4, after := e4, guard := some (g, true) }).run Try.prog w = .ok (.value v2) w)
    (E5 : ∀ a : Act, a.eval (.tmp (k + 1)) = v1 → a.eval (.tmp (k + 3)) = v2 → (execOp a.eval { dst := some (k + 4), op := .binOp .eql T (.tmp (k + 1)) (.tmp (k + 3)) TB, type := ty5, pos := q5, after := e5, guard := some (g, true) }).run Try.prog w = .ok (.value (.bool x)) w)
    (E7 : ∀ (a : Act) (v : Value), a.eval (.tmp (k + 5)) = v → (execOp a.eval { dst := some m, op := op7, type := ty7, pos := q7, after := e7, guard := none }).run Try.prog w = .ok (.value v) w)
    (K : ∀ a', Fr a' n p1 p2 u1 u2 m (b && x) → wpList Try.prog ops Q rest a' w) :
    wpList Try.prog ops Q ({ dst := some k, op := .fieldAddr T0 (.tmp p1) f, type := ty1, pos := q1, after := e1, guard := some (g, true) } ::
      { dst := some (k + 1), op := .load T (.tmp k), type := ty2, pos := q2, after := e2, guard := some (g, true) } ::
      { dst := some (k + 2), op := .fieldAddr T0 (.tmp p2) f, type := ty3, pos := q3, after := e3, guard := some (g, true) } ::
      { dst := some (k + 3), op := .load T (.tmp (k + 2)), type := ty4, pos := q4, after := e4, guard := some (g, true) } ::
      { dst := some (k + 4), op := .binOp .eql T (.tmp (k + 1)) (.tmp (k + 3)) TB, type := ty5, pos := q5, after := e5, guard := some (g, true) } ::
      { dst := some (k + 5), op := .pick (.tmp (k - 1)) (.tmp (k + 4)) (.const (.bool false)), type := ty6, pos := q6, after := e6, guard := none } ::
      { dst := some m, op := op7, type := ty7, pos := q7, after := e7, guard := none } :: rest) a w := by
  obtain ⟨hs, a1, a2, a3, a4⟩ := hF
  have Y : ∀ a : Act, a.tmps[k - 1]? = some (.bool b) → yielded ops a.tmps g = some b := fun a h => yl_of hg h
  cases b with
  | true =>
    refine wl_do (by rw [want_g (Y a a3)]; rfl) (E1 a (ev_tmp a1)) ?_
    have s1 : (a.put (some k) y1).tmps.size = n := by rw [put_size]; exact hs
    have b1 := (put_ne (a := a) (v := y1) (by omega : k ≠ p1)).trans a1
    have b2 := (put_ne (a := a) (v := y1) (by omega : k ≠ p2)).trans a2
    have b3 := (put_ne (a := a) (v := y1) (by omega : k ≠ k - 1)).trans a3
    have b4 := put_eq (a := a) (v := y1) (by omega : k < a.tmps.size)
    have b5 : (a.put (some k) y1).defers = [] := a4
    generalize a.put (some k) y1 = c at *
    clear a1 a2 a3 a4 hs
    refine wl_do (by rw [want_g (Y c b3)]; rfl) (E2 c (ev_tmp b4)) ?_
    have s2 : (c.put (some (k + 1)) v1).tmps.size = n := by rw [put_size]; exact s1
    have c1 := (put_ne (a := c) (v := v1) (by omega : k + 1 ≠ p1)).trans b1
    have c2 := (put_ne (a := c) (v := v1) (by omega : k + 1 ≠ p2)).trans b2
    have c3 := (put_ne (a := c) (v := v1) (by omega : k + 1 ≠ k - 1)).trans b3
    have c4 := put_eq (a := c) (v := v1) (by omega : k + 1 < c.tmps.size)
    have c5 : (c.put (some (k + 1)) v1).defers = [] := b5
    generalize c.put (some (k + 1)) v1 = d at *
    clear b1 b2 b3 b4 b5 s1
    refine wl_do (by rw [want_g (Y d c3)]; rfl) (E3 d (ev_tmp c2)) ?_
    have s3 : (d.put (some (k + 2)) y2).tmps.size = n := by rw [put_size]; exact s2
    have d1 := (put_ne (a := d) (v := y2) (by omega : k + 2 ≠ p1)).trans c1
    have d2 := (put_ne (a := d) (v := y2) (by omega : k + 2 ≠ p2)).trans c2
    have d3 := (put_ne (a := d) (v := y2) (by omega : k + 2 ≠ k - 1)).trans c3
    have d4 := (put_ne (a := d) (v := y2) (by omega : k + 2 ≠ k + 1)).trans c4
    have d6 := put_eq (a := d) (v := y2) (by omega : k + 2 < d.tmps.size)
    have d5 : (d.put (some (k + 2)) y2).defers = [] := c5
    generalize d.put (some (k + 2)) y2 = e at *
    clear c1 c2 c3 c4 c5 s2
    refine wl_do (by rw [want_g (Y e d3)]; rfl) (E4 e (ev_tmp d6)) ?_
    have s4 : (e.put (some (k + 3)) v2).tmps.size = n := by rw [put_size]; exact s3
    have e1 := (put_ne (a := e) (v := v2) (by omega : k + 3 ≠ p1)).trans d1
    have e2 := (put_ne (a := e) (v := v2) (by omega : k + 3 ≠ p2)).trans d2
    have e3 := (put_ne (a := e) (v := v2) (by omega : k + 3 ≠ k - 1)).trans d3
    have e4 := (put_ne (a := e) (v := v2) (by omega : k + 3 ≠ k + 1)).trans d4
    have e6 := put_eq (a := e) (v := v2) (by omega : k + 3 < e.tmps.size)
    have e5 : (e.put (some (k + 3)) v2).defers = [] := d5
    generalize e.put (some (k + 3)) v2 = f at *
    clear d1 d2 d3 d4 d5 d6 s3
    refine wl_do (by rw [want_g (Y f e3)]; rfl) (E5 f (ev_tmp e4) (ev_tmp e6)) ?_
    have s5 : (f.put (some (k + 4)) (.bool x)).tmps.size = n := by rw [put_size]; exact s4
    have f1 := (put_ne (a := f) (v := .bool x) (by omega : k + 4 ≠ p1)).trans e1
    have f2 := (put_ne (a := f) (v := .bool x) (by omega : k + 4 ≠ p2)).trans e2
    have f3 := (put_ne (a := f) (v := .bool x) (by omega : k + 4 ≠ k - 1)).trans e3
    have f4 := put_eq (a := f) (v := .bool x) (by omega : k + 4 < f.tmps.size)
    have f5 : (f.put (some (k + 4)) (.bool x)).defers = [] := e5
    generalize f.put (some (k + 4)) (.bool x) = h at *
    clear e1 e2 e3 e4 e5 e6 s4
    refine wl_do want_n (w' := w) (v := .bool x) (by simp [execOp, ev_tmp f3, ev_tmp f4, asBool]) ?_
    have s6 : (h.put (some (k + 5)) (.bool x)).tmps.size = n := by rw [put_size]; exact s5
    have g1 := (put_ne (a := h) (v := .bool x) (by omega : k + 5 ≠ p1)).trans f1
    have g2 := (put_ne (a := h) (v := .bool x) (by omega : k + 5 ≠ p2)).trans f2
    have g4 := put_eq (a := h) (v := .bool x) (by omega : k + 5 < h.tmps.size)
    have g5 : (h.put (some (k + 5)) (.bool x)).defers = [] := f5
    generalize h.put (some (k + 5)) (.bool x) = z at *
    refine wl_do want_n (w' := w) (v := .bool x) (E7 z _ (ev_tmp g4)) ?_
    refine K _ ⟨by rw [put_size]; exact s6, (put_ne (by omega)).trans g1, (put_ne (by omega)).trans g2, ?_, g5⟩
    rw [Bool.true_and]
    exact put_eq (by omega)
  | false =>
    have S : ∀ {d : Nat} {a : Act}, k ≤ d → d < n → (a.tmps.size = n ∧ a.tmps[p1]? = some u1 ∧ a.tmps[p2]? = some u2 ∧ a.tmps[k - 1]? = some (.bool false) ∧ a.defers = []) → ((a.put (some d) undef).tmps.size = n ∧ (a.put (some d) undef).tmps[p1]? = some u1 ∧ (a.put (some d) undef).tmps[p2]? = some u2 ∧ (a.put (some d) undef).tmps[k - 1]? = some (.bool false) ∧ (a.put (some d) undef).defers = []) := fun hd hn ⟨x1, x2, x3, x4, x5⟩ =>
      ⟨by rw [put_size]; exact x1, (put_ne (by omega)).trans x2, (put_ne (by omega)).trans x3, (put_ne (by omega)).trans x4, x5⟩
    have A : a.tmps.size = n ∧ a.tmps[p1]? = some u1 ∧ a.tmps[p2]? = some u2 ∧ a.tmps[k - 1]? = some (.bool false) ∧ a.defers = [] := ⟨hs, a1, a2, a3, a4⟩
    clear a1 a2 a3 a4 hs
    refine wl_skip (by rw [want_g (Y _ A.2.2.2.1)]; rfl) ?_
    replace A := S (d := k) (by omega) (by omega) A
    generalize a.put _ undef = c at *
    refine wl_skip (by rw [want_g (Y _ A.2.2.2.1)]; rfl) ?_
    replace A := S (d := k + 1) (by omega) (by omega) A
    generalize c.put _ undef = d at *
    refine wl_skip (by rw [want_g (Y _ A.2.2.2.1)]; rfl) ?_
    replace A := S (d := k + 2) (by omega) (by omega) A
    generalize d.put _ undef = e at *
    refine wl_skip (by rw [want_g (Y _ A.2.2.2.1)]; rfl) ?_
    replace A := S (d := k + 3) (by omega) (by omega) A
    generalize e.put _ undef = f at *
    refine wl_skip (by rw [want_g (Y _ A.2.2.2.1)]; rfl) ?_
    replace A := S (d := k + 4) (by omega) (by omega) A
    generalize f.put _ undef = h at *
    refine wl_do want_n (w' := w) (v := .bool false) (by simp [execOp, ev_tmp A.2.2.2.1, asBool, BigFrame.eval_const]) ?_
    have g0 : (h.put (some (k + 5)) (.bool false)).tmps.size = n := by rw [put_size]; exact A.1
    have g1 := (put_ne (a := h) (v := .bool false) (by omega : k + 5 ≠ p1)).trans A.2.1
    have g2 := (put_ne (a := h) (v := .bool false) (by omega : k + 5 ≠ p2)).trans A.2.2.1
    have g4 := put_eq (a := h) (v := .bool false) (by omega : k + 5 < h.tmps.size)
    have g5 : (h.put (some (k + 5)) (.bool false)).defers = [] := A.2.2.2.2
    generalize h.put (some (k + 5)) (.bool false) = z at *
    refine wl_do want_n (w' := w) (v := .bool false) (E7 z _ (ev_tmp g4)) ?_
    refine K _ ⟨by rw [put_size]; exact g0, (put_ne (by omega)).trans g1, (put_ne (by omega)).trans g2, ?_, g5⟩
    rw [Bool.false_and]
    exact put_eq (by omega)

/-- The first comparison. -/
theorem eq_start {ops : Array Oper} {Q : Exit → Act → World → Prop} {a : Act} {w : World} {rest : List Oper} {T0 T : TypeId} {f : Nat} {ty1 ty2 ty3 ty4 ty5 ty7 : TypeId} {q1 q2 q3 q4 q5 q7 : String} {e1 e2 e3 e4 e5 e7 : Array Edge} {TB : TypeId}
    (n p1 p2 k : Nat) (u1 u2 : Value) (x : Bool) (hs : a.tmps.size = n) (a1 : a.tmps[p1]? = some u1) (a2 : a.tmps[p2]? = some u2) (a4 : a.defers = []) (h1 : p1 < k) (h2 : p2 < k) (hk : k + 5 < n)
    (y1 y2 v1 v2 : Value)
    (E1 : ∀ a : Act, a.eval (.tmp p1) = u1 → (execOp a.eval { dst := some k, op := .fieldAddr T0 (.tmp p1) f, type := ty1, pos := q1, after := e1, guard := none }).run Try.prog w = .ok (.value y1) w)
    (E2 : ∀ a : Act, a.eval (.tmp k) = y1 → (execOp a.eval { dst := some (k + 1), op := .load T (.tmp k), type := ty2, pos := q2, after := e2, guard := none }).run Try.prog w = .ok (.value v1) w)
    (E3 : ∀ a : Act, a.eval (.tmp p2) = u2 → (execOp a.eval { dst := some (k + 2), op := .fieldAddr T0 (.tmp p2) f, type := ty3, pos := q3, after := e3, guard := none }).run Try.prog w = .ok (.value y2) w)
    (E4 : ∀ a : Act, a.eval (.tmp (k + 2)) = y2 → (execOp a.eval { dst := some (k + 3), op := .load T (.tmp (k + 2)), type := ty4, pos := q4, after := e4, guard := none }).run Try.prog w = .ok (.value v2) w)
    (E5 : ∀ a : Act, a.eval (.tmp (k + 1)) = v1 → a.eval (.tmp (k + 3)) = v2 → (execOp a.eval { dst := some (k + 4), op := .binOp .eql T (.tmp (k + 1)) (.tmp (k + 3)) TB, type := ty5, pos := q5, after := e5, guard := none }).run Try.prog w = .ok (.value (.bool x)) w)
    (K : ∀ a', Fr a' n p1 p2 u1 u2 (k + 5) x → wpList Try.prog ops Q rest a' w) :
    wpList Try.prog ops Q ({ dst := some k, op := .fieldAddr T0 (.tmp p1) f, type := ty1, pos := q1, after := e1, guard := none } ::
      { dst := some (k + 1), op := .load T (.tmp k), type := ty2, pos := q2, after := e2, guard := none } ::
      { dst := some (k + 2), op := .fieldAddr T0 (.tmp p2) f, type := ty3, pos := q3, after := e3, guard := none } ::
      { dst := some (k + 3), op := .load T (.tmp (k + 2)), type := ty4, pos := q4, after := e4, guard := none } ::
      { dst := some (k + 4), op := .binOp .eql T (.tmp (k + 1)) (.tmp (k + 3)) TB, type := ty5, pos := q5, after := e5, guard := none } ::
      { dst := some (k + 5), op := .move (.tmp (k + 4)), type := ty7, pos := q7, after := e7, guard := none } :: rest) a w := by
  refine wl_do want_n (E1 a (ev_tmp a1)) ?_
  have s1 : (a.put (some k) y1).tmps.size = n := by rw [put_size]; exact hs
  have b1 := (put_ne (a := a) (v := y1) (by omega : k ≠ p1)).trans a1
  have b2 := (put_ne (a := a) (v := y1) (by omega : k ≠ p2)).trans a2
  have b4 := put_eq (a := a) (v := y1) (by omega : k < a.tmps.size)
  have b5 : (a.put (some k) y1).defers = [] := a4
  generalize a.put (some k) y1 = c at *
  clear a1 a2 a4 hs
  refine wl_do want_n (E2 c (ev_tmp b4)) ?_
  have s2 : (c.put (some (k + 1)) v1).tmps.size = n := by rw [put_size]; exact s1
  have c1 := (put_ne (a := c) (v := v1) (by omega : k + 1 ≠ p1)).trans b1
  have c2 := (put_ne (a := c) (v := v1) (by omega : k + 1 ≠ p2)).trans b2
  have c4 := put_eq (a := c) (v := v1) (by omega : k + 1 < c.tmps.size)
  have c5 : (c.put (some (k + 1)) v1).defers = [] := b5
  generalize c.put (some (k + 1)) v1 = d at *
  clear b1 b2 b4 b5 s1
  refine wl_do want_n (E3 d (ev_tmp c2)) ?_
  have s3 : (d.put (some (k + 2)) y2).tmps.size = n := by rw [put_size]; exact s2
  have d1 := (put_ne (a := d) (v := y2) (by omega : k + 2 ≠ p1)).trans c1
  have d2 := (put_ne (a := d) (v := y2) (by omega : k + 2 ≠ p2)).trans c2
  have d4 := (put_ne (a := d) (v := y2) (by omega : k + 2 ≠ k + 1)).trans c4
  have d6 := put_eq (a := d) (v := y2) (by omega : k + 2 < d.tmps.size)
  have d5 : (d.put (some (k + 2)) y2).defers = [] := c5
  generalize d.put (some (k + 2)) y2 = e at *
  clear c1 c2 c4 c5 s2
  refine wl_do want_n (E4 e (ev_tmp d6)) ?_
  have s4 : (e.put (some (k + 3)) v2).tmps.size = n := by rw [put_size]; exact s3
  have e1 := (put_ne (a := e) (v := v2) (by omega : k + 3 ≠ p1)).trans d1
  have e2 := (put_ne (a := e) (v := v2) (by omega : k + 3 ≠ p2)).trans d2
  have e4 := (put_ne (a := e) (v := v2) (by omega : k + 3 ≠ k + 1)).trans d4
  have e6 := put_eq (a := e) (v := v2) (by omega : k + 3 < e.tmps.size)
  have e5 : (e.put (some (k + 3)) v2).defers = [] := d5
  generalize e.put (some (k + 3)) v2 = f at *
  clear d1 d2 d4 d5 d6 s3
  refine wl_do want_n (E5 f (ev_tmp e4) (ev_tmp e6)) ?_
  have s5 : (f.put (some (k + 4)) (.bool x)).tmps.size = n := by rw [put_size]; exact s4
  have f1 := (put_ne (a := f) (v := .bool x) (by omega : k + 4 ≠ p1)).trans e1
  have f2 := (put_ne (a := f) (v := .bool x) (by omega : k + 4 ≠ p2)).trans e2
  have f4 := put_eq (a := f) (v := .bool x) (by omega : k + 4 < f.tmps.size)
  have f5 : (f.put (some (k + 4)) (.bool x)).defers = [] := e5
  generalize f.put (some (k + 4)) (.bool x) = h at *
  clear e1 e2 e4 e5 e6 s4
  refine wl_do want_n (w' := w) (v := .bool x) (by simp [execOp, ev_tmp f4]) ?_
  exact K _ ⟨by rw [put_size]; exact s5, (put_ne (by omega)).trans f1, (put_ne (by omega)).trans f2, put_eq (by omega), f5⟩
end Go.Proofs.Ytkeocnobninaaaa
