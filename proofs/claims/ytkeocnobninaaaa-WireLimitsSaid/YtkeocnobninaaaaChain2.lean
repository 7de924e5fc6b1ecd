/- A region that draws its order over a great frame: a step at a time, the frame behind a name. -/
import Derived.Test.YtkeocnobninaaaaChain
import Derived.Deep.RegionHeld3
namespace Go.Proofs.Ytkeocnobninaaaa
open Go.RowKit Go.Lib
set_option linter.unusedVariables false

/-- What is known of a frame. -/
structure KS (a : Act) (n : Nat) (L : List (Nat × Value)) : Prop where
  size : a.tmps.size = n
  known : ∀ x ∈ L, a.tmps[x.1]? = some x.2
theorem KS.put {a : Act} {n d : Nat} {v : Value} {L : List (Nat × Value)} (F : KS a n L) (hd : d < n) (hne : ∀ x ∈ L, d ≠ x.1) : KS (a.put (some d) v) n ((d, v) :: L) :=
  ⟨by rw [put_size]; exact F.size, fun x hx => by
    rcases List.mem_cons.1 hx with rfl | hx
    · exact put_eq (by rw [F.size]; exact hd)
    · rw [put_ne (hne x hx)]; exact F.known x hx⟩
theorem KS.keep {a : Act} {n d : Nat} {v : Value} {L : List (Nat × Value)} (F : KS a n L) (hne : ∀ x ∈ L, d ≠ x.1) : KS (a.put (some d) v) n L :=
  ⟨by rw [put_size]; exact F.size, fun x hx => by rw [put_ne (hne x hx)]; exact F.known x hx⟩
theorem KS.ev {a : Act} {n i : Nat} {v : Value} {L : List (Nat × Value)} (F : KS a n L) (h : (i, v) ∈ L) : a.eval (.tmp i) = v := ev_tmp (F.known _ h)
theorem KS.raw {a : Act} {n i : Nat} {v : Value} {L : List (Nat × Value)} (F : KS a n L) (h : (i, v) ∈ L) : a.tmps[i]?.getD undef = v := ev_raw (F.ev h)
theorem KS.yl {ops : Array Oper} {a : Act} {n g i : Nat} {b : Bool} {L : List (Nat × Value)} (F : KS a n L) (hd : (ops[g]?).bind (·.dst) = some i) (h : (i, .bool b) ∈ L) : yielded ops a.tmps g = some b := yl_of hd (F.known _ h)
theorem KS.two {a : Act} {n i j : Nat} {u v : Value} {L : List (Nat × Value)} (F : KS a n L) (h1 : (i, u) ∈ L) (h2 : (j, v) ∈ L) : KS a n [(i, u), (j, v)] := ⟨F.size, fun x hx => by
  rcases List.mem_cons.1 hx with rfl | hx
  · exact F.known _ h1
  · rcases List.mem_cons.1 hx with rfl | hx
    · exact F.known _ h2
    · cases hx⟩
theorem KS.yn {ops : Array Oper} {a : Act} {n g i : Nat} {L : List (Nat × Value)} (F : KS a n L) (hd : (ops[g]?).bind (·.dst) = some i) (h : (i, undef) ∈ L) : yielded ops a.tmps g = none := by
  have h' : a.tmps[i]? = some undef := F.known _ h
  simp [yielded, hd, h', undef]
theorem want_u {d : Option Tmp} {op : Op} {ty : TypeId} {ps : String} {af : Array Edge} {g : Nat} {x : Bool} {ys : Nat → Option Bool} (h : ys g = none) : Region.wanted { dst := d, op := op, type := ty, pos := ps, after := af, guard := some (g, x) } ys = false := by
  simp [Region.wanted, h]
theorem KS.cut {a : Act} {n : Nat} {L L' : List (Nat × Value)} (F : KS a n L) (h : ∀ x ∈ L', x ∈ L) : KS a n L' := ⟨F.size, fun x hx => F.known x (h x hx)⟩

/-- An operation that is carried out. -/
theorem any_do {ops : Array Oper} {Q : Exit → Act → World → Prop} {S : World → Prop} {fuel n : Nat} {listed : Array Bool} {a : Act} {w w' : World} {o : Oper} {L : List (Nat × Value)}
    (F : KS a n L) (k d : Nat) (v : Value) (hr : Region.ready .any ops listed = [k]) (ho : ops[k]? = some o) (hw : Region.wanted o (yielded ops a.tmps) = true)
    (hx : (execOp a.eval o).run Try.prog w = .ok (.value v) w') (hdst : o.dst = some d) (hd : d < n) (hne : ∀ x ∈ L, d ≠ x.1) (hS : S w')
    (h : ∀ a', Hid (a' = a.put (some d) v) → KS a' n ((d, v) :: L) → wpAnyH Try.prog .any ops Q S fuel (listed.setIfInBounds k true) a' w') :
    wpAnyH Try.prog .any ops Q S (fuel + 1) listed a w :=
  wpAnyH_ready hr (by simp) (AllReadyH.cons ho (fun K' hK => by
    rw [if_pos hw]
    unfold Oper.wp
    rw [hx]
    refine hK.out _ _ hS (fun _ => ?_)
    rw [hdst]
    exact h _ (Lib.hid rfl) (F.put hd hne)) AllReadyH.nil)
/-- One that its guard passes by. -/
theorem any_skip {ops : Array Oper} {Q : Exit → Act → World → Prop} {S : World → Prop} {fuel n : Nat} {listed : Array Bool} {a : Act} {w : World} {o : Oper} {L : List (Nat × Value)}
    (F : KS a n L) (k d : Nat) (hr : Region.ready .any ops listed = [k]) (ho : ops[k]? = some o) (hw : Region.wanted o (yielded ops a.tmps) = false) (hdst : o.dst = some d) (hd : d < n) (hne : ∀ x ∈ L, d ≠ x.1) (hS : S w)
    (h : ∀ a', Hid (a' = a.put (some d) undef) → KS a' n ((d, undef) :: L) → wpAnyH Try.prog .any ops Q S fuel (listed.setIfInBounds k true) a' w) :
    wpAnyH Try.prog .any ops Q S (fuel + 1) listed a w :=
  wpAnyH_ready hr (by simp) (AllReadyH.cons ho (fun K' hK => by
    rw [if_neg (by rw [hw]; simp)]
    refine hK.out _ _ hS (fun _ => ?_)
    rw [hdst]
    exact h _ (Lib.hid rfl) (F.put hd hne)) AllReadyH.nil)
/-- A call of a function. -/
theorem any_call {ops : Array Oper} {Q : Exit → Act → World → Prop} {S : World → Prop} {fuel n : Nat} {listed : Array Bool} {a : Act} {w : World} {o : Oper} {L : List (Nat × Value)} {f : FuncId} {args args' : Array Value}
    (F : KS a n L) (k d : Nat) (v : Value) (hr : Region.ready .any ops listed = [k]) (ho : ops[k]? = some o) (hw : Region.wanted o (yielded ops a.tmps) = true)
    (hx : (execOp a.eval o).run Try.prog w = .ok (.enter f args) w) (ha : args = args') (hdst : o.dst = some d) (hd : d < n) (hne : ∀ x ∈ L, d ≠ x.1)
    (hc : Calls Try.prog f args' w fun e w' => e = .returned v ∧ S w')
    (h : ∀ a' w', Hid (a' = a.put (some d) v) → KS a' n ((d, v) :: L) → S w' → wpAnyH Try.prog .any ops Q S fuel (listed.setIfInBounds k true) a' w') :
    wpAnyH Try.prog .any ops Q S (fuel + 1) listed a w :=
  wpAnyH_ready hr (by simp) (AllReadyH.cons ho (fun K' hK => by
    rw [if_pos hw]
    unfold Oper.wp
    rw [hx]
    subst ha
    refine hc.mono ?_
    rintro e w' ⟨rfl, hS⟩
    refine hK.out _ _ hS (fun _ => ?_)
    rw [hdst]
    exact h _ _ (Lib.hid rfl) (F.put hd hne) hS) AllReadyH.nil)
/-- One that is taken ahead, whatever else may come up. -/
theorem any_take {ops : Array Oper} {Q : Exit → Act → World → Prop} {S : World → Prop} {fuel n : Nat} {listed : Array Bool} {a : Act} {w : World} {o : Oper} {L : List (Nat × Value)}
    (F : KS a n L) (k d : Nat) (v : Value) (ho : ops[k]? = some o) (hs : Region.noSelect ops = true) (hf : Region.free .any ops listed k = true) (hr : (Region.ready .any ops listed).contains k = true)
    (hQ : ∀ c a w, Q (.panic c) (a.put o.dst v) w → Q (.panic c) a w) (hy : YieldsIf Try.prog ops S o v a) (hdst : o.dst = some d) (hd : d < n) (hne : ∀ x ∈ L, d ≠ x.1) (hS : S w)
    (h : ∀ a', Hid (a' = a.put (some d) v) → KS a' n ((d, v) :: L) → wpAnyH Try.prog .any ops Q S fuel (listed.setIfInBounds k true) a' w) :
    wpAnyH Try.prog .any ops Q S (fuel + 1) listed a w := by
  refine wpAnyH_take ho hs hf hr hQ hy hS ?_
  rw [hdst]
  exact h _ (Lib.hid rfl) (F.put hd hne)
end Go.Proofs.Ytkeocnobninaaaa
