/- A region that draws its order, its operations behind a name. -/
import Derived.Test.YtkeocnobninaaaaChain2
namespace Go.Proofs.Ytkeocnobninaaaa
open Go.RowKit Go.Lib
set_option linter.unusedVariables false

/-- The first k of m operations are done. -/
def Lst (m : Nat) : Nat → Array Bool
  | 0 => Array.replicate m false
  | k + 1 => (Lst m k).setIfInBounds k true
/-- What is known of a frame, that no call is put off among it. -/
def KD (a : Act) (n : Nat) (L : List (Nat × Value)) : Prop := KS a n L ∧ a.defers = []
theorem KD.put {a : Act} {n d : Nat} {v : Value} {L : List (Nat × Value)} (F : KD a n L) (hd : d < n) (hne : ∀ x ∈ L, d ≠ x.1) : KD (a.put (some d) v) n ((d, v) :: L) := ⟨F.1.put hd hne, F.2⟩
theorem KD.ev {a : Act} {n i : Nat} {v : Value} {L : List (Nat × Value)} (F : KD a n L) (h : (i, v) ∈ L) : a.eval (.tmp i) = v := F.1.ev h
theorem KD.raw {a : Act} {n i : Nat} {v : Value} {L : List (Nat × Value)} (F : KD a n L) (h : (i, v) ∈ L) : a.tmps[i]?.getD undef = v := F.1.raw h
theorem KD.cut {a : Act} {n : Nat} {L L' : List (Nat × Value)} (F : KD a n L) (h : ∀ x ∈ L', x ∈ L) : KD a n L' := ⟨F.1.cut h, F.2⟩
theorem KD.yl {ops : Array Oper} {a : Act} {n g i : Nat} {b : Bool} {L : List (Nat × Value)} {o : Oper} (F : KD a n L) (ho : ops[g]? = some o) (hd : o.dst = some i) (h : (i, .bool b) ∈ L) : yielded ops a.tmps g = some b := F.1.yl (by rw [ho]; exact hd) h
theorem KD.yn {ops : Array Oper} {a : Act} {n g i : Nat} {L : List (Nat × Value)} {o : Oper} (F : KD a n L) (ho : ops[g]? = some o) (hd : o.dst = some i) (h : (i, undef) ∈ L) : yielded ops a.tmps g = none := F.1.yn (by rw [ho]; exact hd) h
theorem want_y {o : Oper} {g : Nat} {x b : Bool} {ys : Nat → Option Bool} (hg : o.guard = some (g, x)) (h : ys g = some b) (r : Bool) (hr : (b == x) = r) : Region.wanted o ys = r := by
  obtain ⟨d, op, ty, ps, af, gd⟩ := o
  simp only at hg
  subst hg
  rw [want_g h, hr]
theorem want_z {o : Oper} {g : Nat} {x : Bool} {ys : Nat → Option Bool} (hg : o.guard = some (g, x)) (h : ys g = none) : Region.wanted o ys = false := by
  obtain ⟨d, op, ty, ps, af, gd⟩ := o
  simp only at hg
  subst hg
  exact want_u h
theorem want_0 {o : Oper} {ys : Nat → Option Bool} (hg : o.guard = none) : Region.wanted o ys = true := by
  obtain ⟨d, op, ty, ps, af, gd⟩ := o
  simp only at hg
  subst hg
  exact want_n

theorem fresh_of {d : Nat} {L : List (Nat × Value)} (h : (L.all fun x => x.1 != d) = true) : ∀ x ∈ L, d ≠ x.1 := fun x hx => by
  have := List.all_eq_true.1 h x hx
  simp at this
  exact fun e => this e.symm

variable {m : Nat} {ops : Array Oper} {Q : Exit → Act → World → Prop} {S : World → Prop} {fuel n : Nat} {a : Act} {w w' : World} {o : Oper} {L : List (Nat × Value)}

theorem st_do (F : KD a n L) (k d : Nat) (v : Value) (hr : Region.ready .any ops (Lst m k) = [k]) (ho : ops[k]? = some o) (hw : Region.wanted o (yielded ops a.tmps) = true)
    (hx : (execOp a.eval o).run Try.prog w = .ok (.value v) w) (hdst : o.dst = some d) (hd : d < n) (hne : (L.all fun x => x.1 != d) = true) (hS : S w)
    (h : ∀ a', KD a' n ((d, v) :: L) → wpAnyH Try.prog .any ops Q S fuel (Lst m (k + 1)) a' w) : wpAnyH Try.prog .any ops Q S (fuel + 1) (Lst m k) a w :=
  wpAnyH_ready hr (by simp) (AllReadyH.cons ho (fun K' hK => by
    rw [if_pos hw]
    unfold Oper.wp
    rw [hx]
    refine hK.out _ _ hS (fun _ => ?_)
    rw [hdst]
    exact h _ (F.put hd (fresh_of hne))) AllReadyH.nil)
theorem st_skip (F : KD a n L) (k d : Nat) (hr : Region.ready .any ops (Lst m k) = [k]) (ho : ops[k]? = some o) (hw : Region.wanted o (yielded ops a.tmps) = false) (hdst : o.dst = some d) (hd : d < n) (hne : (L.all fun x => x.1 != d) = true) (hS : S w)
    (h : ∀ a', KD a' n ((d, undef) :: L) → wpAnyH Try.prog .any ops Q S fuel (Lst m (k + 1)) a' w) : wpAnyH Try.prog .any ops Q S (fuel + 1) (Lst m k) a w :=
  wpAnyH_ready hr (by simp) (AllReadyH.cons ho (fun K' hK => by
    rw [if_neg (by rw [hw]; simp)]
    refine hK.out _ _ hS (fun _ => ?_)
    rw [hdst]
    exact h _ (F.put hd (fresh_of hne))) AllReadyH.nil)
theorem st_call {f : FuncId} {args args' : Array Value} (F : KD a n L) (k d : Nat) (v : Value) (hr : Region.ready .any ops (Lst m k) = [k]) (ho : ops[k]? = some o) (hw : Region.wanted o (yielded ops a.tmps) = true)
    (hx : (execOp a.eval o).run Try.prog w = .ok (.enter f args) w) (ha : args = args') (hdst : o.dst = some d) (hd : d < n) (hne : (L.all fun x => x.1 != d) = true)
    (hc : Calls Try.prog f args' w fun e w' => e = .returned v ∧ S w')
    (h : ∀ a' w', KD a' n ((d, v) :: L) → S w' → wpAnyH Try.prog .any ops Q S fuel (Lst m (k + 1)) a' w') : wpAnyH Try.prog .any ops Q S (fuel + 1) (Lst m k) a w :=
  wpAnyH_ready hr (by simp) (AllReadyH.cons ho (fun K' hK => by
    rw [if_pos hw]
    unfold Oper.wp
    rw [hx]
    subst ha
    refine hc.mono ?_
    rintro e w' ⟨rfl, hS⟩
    refine hK.out _ _ hS (fun _ => ?_)
    rw [hdst]
    exact h _ _ (F.put hd (fresh_of hne)) hS) AllReadyH.nil)
theorem st_take (F : KD a n L) (k d : Nat) (v : Value) (ho : ops[k]? = some o) (hs : Region.noSelect ops = true) (hf : Region.free .any ops (Lst m k) k = true) (hr : (Region.ready .any ops (Lst m k)).contains k = true)
    (hQ : ∀ c a a' w, a'.defers = a.defers → Q (.panic c) a w → Q (.panic c) a' w) (hy : YieldsIf Try.prog ops S o v a) (hdst : o.dst = some d) (hd : d < n) (hne : (L.all fun x => x.1 != d) = true) (hS : S w)
    (h : ∀ a', KD a' n ((d, v) :: L) → wpAnyH Try.prog .any ops Q S fuel (Lst m (k + 1)) a' w) : wpAnyH Try.prog .any ops Q S (fuel + 1) (Lst m k) a w := by
  refine wpAnyH_take ho hs hf hr (fun c a w hq => hQ _ _ _ _ (by rw [hdst]; rfl) hq) hy hS ?_
  rw [hdst]
  exact h _ (F.put hd (fresh_of hne))
end Go.Proofs.Ytkeocnobninaaaa
