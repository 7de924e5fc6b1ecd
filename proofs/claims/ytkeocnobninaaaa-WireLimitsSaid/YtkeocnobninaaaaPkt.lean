/- A packet as a plain record, how its value lies in memory, and the small tests of its numbers and texts. -/
import Derived.Test.YtkeocnobninaaaaCheck
import Derived.Lib.ConvBytes
import Derived.Lib.SmallJoins
import Derived.Laws.AppendOwn
import Derived.Laws.Rows
import Derived.Deep.WholeRow
import Derived.Great.BuildSlice
import Derived.Deep.MidRow
import Derived.BigFrame
namespace Go.Proofs.Ytkeocnobninaaaa
open Go.RowKit Go.Lib

/-- A packet, plainly. -/
structure Pk where
  kind : Int
  dup : Bool
  ret : Bool
  qos : Int
  id : Int
  top : ByteArray
  pay : List UInt8
  level : Int
  cli : ByteArray
  clean : Bool
  keep : Int
  hw : Bool
  wtop : ByteArray
  wpay : List UInt8
  wqos : Int
  wret : Bool
  hu : Bool
  hp : Bool
  user : ByteArray
  pass : List UInt8
  pres : Bool
  code : Int
  subs : List (ByteArray × Int)
  codes : List Int
deriving DecidableEq

/-- Where its five slices lie. -/
structure Sv where
  pA : Option Addr
  pC : Nat
  wA : Option Addr
  wC : Nat
  uA : Option Addr
  uC : Nat
  sA : Option Addr
  sC : Nat
  cA : Option Addr
  cC : Nat

/-- The packet's cells, and its value. -/
def pkC (p : Pk) (s : Sv) : Array Value :=
  #[.int .i64 p.kind, .bool p.dup, .bool p.ret, .int .i64 p.qos, .int .i64 p.id, .string p.top, .slice s.pA p.pay.length s.pC, .int .i64 p.level, .string p.cli, .bool p.clean, .int .i64 p.keep, .bool p.hw, .string p.wtop, .slice s.wA p.wpay.length s.wC, .int .i64 p.wqos, .bool p.wret, .bool p.hu, .bool p.hp, .string p.user, .slice s.uA p.pass.length s.uC, .bool p.pres, .int .i64 p.code, .slice s.sA p.subs.length s.sC, .slice s.cA p.codes.length s.cC]
@[reducible] def pkV (p : Pk) (s : Sv) : Value := .agg (pkC p s)
@[simp, go_sem] theorem pkC_0 (p : Pk) (s : Sv) : (pkC p s)[0]? = some (.int .i64 p.kind) := rfl
@[simp, go_sem] theorem pkC_1 (p : Pk) (s : Sv) : (pkC p s)[1]? = some (.bool p.dup) := rfl
@[simp, go_sem] theorem pkC_2 (p : Pk) (s : Sv) : (pkC p s)[2]? = some (.bool p.ret) := rfl
@[simp, go_sem] theorem pkC_3 (p : Pk) (s : Sv) : (pkC p s)[3]? = some (.int .i64 p.qos) := rfl
@[simp, go_sem] theorem pkC_4 (p : Pk) (s : Sv) : (pkC p s)[4]? = some (.int .i64 p.id) := rfl
@[simp, go_sem] theorem pkC_5 (p : Pk) (s : Sv) : (pkC p s)[5]? = some (.string p.top) := rfl
@[simp, go_sem] theorem pkC_6 (p : Pk) (s : Sv) : (pkC p s)[6]? = some (.slice s.pA p.pay.length s.pC) := rfl
@[simp, go_sem] theorem pkC_7 (p : Pk) (s : Sv) : (pkC p s)[7]? = some (.int .i64 p.level) := rfl
@[simp, go_sem] theorem pkC_8 (p : Pk) (s : Sv) : (pkC p s)[8]? = some (.string p.cli) := rfl
@[simp, go_sem] theorem pkC_9 (p : Pk) (s : Sv) : (pkC p s)[9]? = some (.bool p.clean) := rfl
@[simp, go_sem] theorem pkC_10 (p : Pk) (s : Sv) : (pkC p s)[10]? = some (.int .i64 p.keep) := rfl
@[simp, go_sem] theorem pkC_11 (p : Pk) (s : Sv) : (pkC p s)[11]? = some (.bool p.hw) := rfl
@[simp, go_sem] theorem pkC_12 (p : Pk) (s : Sv) : (pkC p s)[12]? = some (.string p.wtop) := rfl
@[simp, go_sem] theorem pkC_13 (p : Pk) (s : Sv) : (pkC p s)[13]? = some (.slice s.wA p.wpay.length s.wC) := rfl
@[simp, go_sem] theorem pkC_14 (p : Pk) (s : Sv) : (pkC p s)[14]? = some (.int .i64 p.wqos) := rfl
@[simp, go_sem] theorem pkC_15 (p : Pk) (s : Sv) : (pkC p s)[15]? = some (.bool p.wret) := rfl
@[simp, go_sem] theorem pkC_16 (p : Pk) (s : Sv) : (pkC p s)[16]? = some (.bool p.hu) := rfl
@[simp, go_sem] theorem pkC_17 (p : Pk) (s : Sv) : (pkC p s)[17]? = some (.bool p.hp) := rfl
@[simp, go_sem] theorem pkC_18 (p : Pk) (s : Sv) : (pkC p s)[18]? = some (.string p.user) := rfl
@[simp, go_sem] theorem pkC_19 (p : Pk) (s : Sv) : (pkC p s)[19]? = some (.slice s.uA p.pass.length s.uC) := rfl
@[simp, go_sem] theorem pkC_20 (p : Pk) (s : Sv) : (pkC p s)[20]? = some (.bool p.pres) := rfl
@[simp, go_sem] theorem pkC_21 (p : Pk) (s : Sv) : (pkC p s)[21]? = some (.int .i64 p.code) := rfl
@[simp, go_sem] theorem pkC_22 (p : Pk) (s : Sv) : (pkC p s)[22]? = some (.slice s.sA p.subs.length s.sC) := rfl
@[simp, go_sem] theorem pkC_23 (p : Pk) (s : Sv) : (pkC p s)[23]? = some (.slice s.cA p.codes.length s.cC) := rfl
@[simp, go_sem] theorem pkC_size (p : Pk) (s : Sv) : (pkC p s).size = 24 := rfl

theorem add_block (a : Addr) (n : Nat) : (a.add n).block = a.block := by unfold Addr.add; split <;> rfl

theorem pk_sz : (Try.prog.info? 28).map (·.size) = some 24 := by kernel_rfl
theorem heap_keep {w : World} {o o' : Obj} {g : Nat} (h : w.heap[g]? = some o) : (w.alloc o').heap[g]? = some o := by
  have hl : g < w.heap.size := (Array.getElem?_eq_some_iff.1 h).1
  show (w.heap.push o')[g]? = some o
  rw [Array.getElem?_push, if_neg (by omega), h]
theorem heap_below {w w' : World} {o : Obj} {g : Nat} (hb : Below w.heap.size w w') (h : w.heap[g]? = some o) : w'.heap[g]? = some o := by
  rw [hb.block g (Array.getElem?_eq_some_iff.1 h).1, h]

theorem dwN {B : Nat} {a w : World} (h : Below B a w) (n : Nat) : Below B a (w.drewN n) := h.trans ⟨rfl, rfl, rfl, Nat.le_refl _, fun _ _ => rfl⟩

/-- What a call that only makes memory leaves: all old cells, all old marks. -/
theorem bcell {W w1 : World} (hb : Below W.heap.size W w1) : (∀ b o, b < W.heap.size → w1.cell? ⟨b, o, none⟩ = W.cell? ⟨b, o, none⟩) ∧ (∀ b o, b < W.heap.size → w1.frozen? ⟨b, o, none⟩ = W.frozen? ⟨b, o, none⟩) :=
  ⟨fun b o h => hb.cell (p := ⟨b, o, none⟩) h, fun b o h => hb.frozen (p := ⟨b, o, none⟩) h⟩

theorem add_next (a : Addr) (n : Nat) : a.add (n + 1) = { block := (a.add n).block, off := (a.add n).off + 1 } := by
  unfold Addr.add
  cases n with
  | zero => rfl
  | succ n => rfl

/-- A will's value. -/
@[reducible] def wlV (p : Pk) (s : Sv) : Value := .agg #[.string p.wtop, .slice s.wA p.wpay.length s.wC, .int .i64 p.wqos, .bool p.wret]
theorem wl_sz : (Try.prog.info? 24).map (·.size) = some 4 := by kernel_rfl
theorem wl_range {w : World} {g : Nat} {fr : Nat × Nat} {t : TypeId} (p : Pk) (s : Sv) (hg : w.heap[g]? = some (.cells (pkC p s) t fr)) :
    w.rangeAt g 12 [.string p.wtop, .slice s.wA p.wpay.length s.wC, .int .i64 p.wqos, .bool p.wret] := by
  intro j v h
  rw [cell_of_row w g _ _ _ _ hg]
  match j, h with
  | 0, h => exact h
  | 1, h => exact h
  | 2, h => exact h
  | 3, h => exact h

/-- A whole packet is loaded out of the row where it lies. -/
theorem ld_pk {ops : Array Oper} {rest : List Oper} {Q : Exit → Act → World → Prop} {a : Act} {w : World} {d : Option Tmp} {x : Operand} {ty : TypeId} {ps : String} {af : Array Edge} {gd : Option (Nat × Bool)}
    (g : Nat) (hx : a.eval x = .pointer (some ⟨g, 0, none⟩)) (hw : Region.wanted { dst := d, op := .load 28 x, type := ty, pos := ps, after := af, guard := gd } (yielded ops a.tmps) = true)
    (cs : Array Value) (t : TypeId) (fr : Nat × Nat) (hg : w.heap[g]? = some (.cells cs t fr)) (hi : cs.size = 24)
    (h : wpList Try.prog ops Q rest (a.put d (.agg cs)) w) : wpList Try.prog ops Q ({ dst := d, op := .load 28 x, type := ty, pos := ps, after := af, guard := gd } :: rest) a w :=
  BigFrame.wpList_want hw fun _ hK => wp_load_row 28 _ rfl g hx _ _ _ _ hg Try.underlying28 rfl (by rw [hi]; exact pk_sz) (hK _ _ h)
/-- A will out of the packet's row. -/
theorem ld_wl {ops : Array Oper} {rest : List Oper} {Q : Exit → Act → World → Prop} {a : Act} {w : World} {d : Option Tmp} {x : Operand} {ty : TypeId} {ps : String} {af : Array Edge} {gd : Option (Nat × Bool)}
    (g : Nat) (p : Pk) (s : Sv) (hx : a.eval x = .pointer (some ⟨g, 12, none⟩)) (hw : Region.wanted { dst := d, op := .load 24 x, type := ty, pos := ps, after := af, guard := gd } (yielded ops a.tmps) = true)
    (t : TypeId) (fr : Nat × Nat) (hg : w.heap[g]? = some (.cells (pkC p s) t fr))
    (h : wpList Try.prog ops Q rest (a.put d (wlV p s)) w) : wpList Try.prog ops Q ({ dst := d, op := .load 24 x, type := ty, pos := ps, after := af, guard := gd } :: rest) a w :=
  BigFrame.wpList_want hw fun _ hK => wp_load_mid 24 _ rfl g 12 hx _ _ (wl_range p s hg) Try.underlying24 rfl wl_sz (hK _ _ h)

/-- A slice value that reads as these filters, in blocks below B. -/
def SubsAt (w : World) (B : Nat) (v : Value) (l : List (ByteArray × Int)) : Prop :=
  ∃ (A : Option Addr) (c : Nat), v = .slice A l.length c ∧ l.length ≤ c ∧ c ≤ maxLen ∧ (A = none → l = []) ∧ (∀ ad, A = some ad → l ≠ [] → ad.block < B) ∧ ∀ ad, A = some ad → ∀ (j : Nat) (x : ByteArray × Int), l[j]? = some x → w.cell? (ad.add (j * 2)) = some (.string x.1) ∧ w.cell? (ad.add (j * 2 + 1)) = some (.int .i64 x.2)

/-- A slice value that reads as these numbers, in blocks below B. -/
def IntsAt (w : World) (B : Nat) (v : Value) (l : List Int) : Prop :=
  ∃ (A : Option Addr) (c : Nat), v = .slice A l.length c ∧ l.length ≤ c ∧ c ≤ maxLen ∧ (A = none → l = []) ∧ (∀ ad, A = some ad → l ≠ [] → ad.block < B) ∧ ∀ ad, A = some ad → ∀ (j : Nat) (x : Int), l[j]? = some x → w.cell? (ad.add j) = some (.int .i64 x)

theorem SubsAt.below {w w' : World} {B : Nat} {v : Value} {l : List (ByteArray × Int)} (h : SubsAt w B v l) (hb : Below B w w') : SubsAt w' B v l := by
  obtain ⟨A, c, hv, hc, hm, hn, hB, hx⟩ := h
  refine ⟨A, c, hv, hc, hm, hn, hB, fun ad had j x hj => ?_⟩
  have hne : l ≠ [] := by intro e; rw [e] at hj; simp at hj
  rw [hb.cell (p := ad.add (j * 2)) (by rw [add_block]; exact hB ad had hne), hb.cell (p := ad.add (j * 2 + 1)) (by rw [add_block]; exact hB ad had hne)]
  exact hx ad had j x hj
theorem SubsAt.more {w : World} {B B' : Nat} {v : Value} {l : List (ByteArray × Int)} (h : SubsAt w B v l) (hB : B ≤ B') : SubsAt w B' v l := by
  obtain ⟨A, c, hv, hc, hm, hn, hb, hx⟩ := h
  exact ⟨A, c, hv, hc, hm, hn, fun ad had hne => Nat.lt_of_lt_of_le (hb ad had hne) hB, hx⟩
theorem SubsAt.on {w w' : World} {v : Value} {l : List (ByteArray × Int)} (h : SubsAt w w.heap.size v l) (hb : Below w.heap.size w w') : SubsAt w' w'.heap.size v l := (h.below hb).more hb.size

theorem SubsAt.at_ {w : World} {B : Nat} {A : Option Addr} {n c : Nat} {l : List (ByteArray × Int)} (h : SubsAt w B (.slice A n c) l) (k : Nat) (hk : k < l.length) :
    ∃ ad, A = some ad ∧ k < c ∧ w.cell? (ad.add (k * 2)) = some (.string l[k].1) ∧ w.cell? { block := (ad.add (k * 2)).block, off := (ad.add (k * 2)).off + 1 } = some (.int .i64 l[k].2) := by
  simp only [← add_next]
  obtain ⟨A', c', hv, hc, hm, hn, hb, hx⟩ := h
  injection hv with e1 e2 e3
  subst e1; subst e3
  cases A with
  | none => have := hn rfl; subst this; exact absurd hk (by simp)
  | some ad => exact ⟨ad, rfl, by omega, hx ad rfl k l[k] (List.getElem?_eq_getElem hk)⟩
theorem IntsAt.below {w w' : World} {B : Nat} {v : Value} {l : List Int} (h : IntsAt w B v l) (hb : Below B w w') : IntsAt w' B v l := by
  obtain ⟨A, c, hv, hc, hm, hn, hB, hx⟩ := h
  refine ⟨A, c, hv, hc, hm, hn, hB, fun ad had j x hj => ?_⟩
  have hne : l ≠ [] := by intro e; rw [e] at hj; simp at hj
  rw [hb.cell (p := ad.add j) (by rw [add_block]; exact hB ad had hne)]
  exact hx ad had j x hj
theorem IntsAt.more {w : World} {B B' : Nat} {v : Value} {l : List Int} (h : IntsAt w B v l) (hB : B ≤ B') : IntsAt w B' v l := by
  obtain ⟨A, c, hv, hc, hm, hn, hb, hx⟩ := h
  exact ⟨A, c, hv, hc, hm, hn, fun ad had hne => Nat.lt_of_lt_of_le (hb ad had hne) hB, hx⟩
theorem IntsAt.on {w w' : World} {v : Value} {l : List Int} (h : IntsAt w w.heap.size v l) (hb : Below w.heap.size w w') : IntsAt w' w'.heap.size v l := (h.below hb).more hb.size

theorem IntsAt.at_ {w : World} {B : Nat} {A : Option Addr} {n c : Nat} {l : List Int} (h : IntsAt w B (.slice A n c) l) (k : Nat) (hk : k < l.length) :
    ∃ ad, A = some ad ∧ k < c ∧ w.cell? (ad.add k) = some (.int .i64 l[k]) := by
  obtain ⟨A', c', hv, hc, hm, hn, hb, hx⟩ := h
  injection hv with e1 e2 e3
  subst e1; subst e3
  cases A with
  | none => have := hn rfl; subst this; exact absurd hk (by simp)
  | some ad => exact ⟨ad, rfl, by omega, hx ad rfl k l[k] (List.getElem?_eq_getElem hk)⟩

/-- What lies behind the packet's slices. -/
structure PkAt (w : World) (B : Nat) (p : Pk) (s : Sv) : Prop where
  pay : BytesAt w B (.slice s.pA p.pay.length s.pC) p.pay
  wpay : BytesAt w B (.slice s.wA p.wpay.length s.wC) p.wpay
  pass : BytesAt w B (.slice s.uA p.pass.length s.uC) p.pass
  subs : SubsAt w B (.slice s.sA p.subs.length s.sC) p.subs
  codes : IntsAt w B (.slice s.cA p.codes.length s.cC) p.codes
theorem PkAt.below {w w' : World} {B : Nat} {p : Pk} {s : Sv} (h : PkAt w B p s) (hb : Below B w w') : PkAt w' B p s := ⟨h.pay.below hb, h.wpay.below hb, h.pass.below hb, h.subs.below hb, h.codes.below hb⟩
theorem PkAt.more {w : World} {B B' : Nat} {p : Pk} {s : Sv} (h : PkAt w B p s) (hb : B ≤ B') : PkAt w B' p s := ⟨h.pay.more hb, h.wpay.more hb, h.pass.more hb, h.subs.more hb, h.codes.more hb⟩
theorem PkAt.on {w w' : World} {p : Pk} {s : Sv} (h : PkAt w w.heap.size p s) (hb : Below w.heap.size w w') : PkAt w' w'.heap.size p s := (h.below hb).more hb.size

theorem BytesAt.to {w w' : World} {B : Nat} {v : Value} {l : List UInt8} (h : BytesAt w B v l) (hB : B ≤ w.heap.size) (hb : Below w.heap.size w w') : BytesAt w' B v l := h.below (hb.mono hB)
theorem SubsAt.to {w w' : World} {B : Nat} {v : Value} {l : List (ByteArray × Int)} (h : SubsAt w B v l) (hB : B ≤ w.heap.size) (hb : Below w.heap.size w w') : SubsAt w' B v l := h.below (hb.mono hB)
theorem IntsAt.to {w w' : World} {B : Nat} {v : Value} {l : List Int} (h : IntsAt w B v l) (hB : B ≤ w.heap.size) (hb : Below w.heap.size w w') : IntsAt w' B v l := h.below (hb.mono hB)
theorem PkAt.to {w w' : World} {B : Nat} {p : Pk} {s : Sv} (h : PkAt w B p s) (hB : B ≤ w.heap.size) (hb : Below w.heap.size w w') : PkAt w' B p s := h.below (hb.mono hB)

/-- An int, and the sizes that a packet here has. -/
def i64In (n : Int) : Prop := -9223372036854775808 ≤ n ∧ n ≤ 9223372036854775807
structure PkOk (p : Pk) : Prop where
  kind : i64In p.kind
  qos : i64In p.qos
  id : i64In p.id
  level : i64In p.level
  keep : i64In p.keep
  wqos : i64In p.wqos
  code : i64In p.code
  top : p.top.size ≤ 1000000
  pay : p.pay.length ≤ 1000000
  cli : p.cli.size ≤ 1000000
  wtop : p.wtop.size ≤ 1000000
  wpay : p.wpay.length ≤ 1000000
  user : p.user.size ≤ 1000000
  pass : p.pass.length ≤ 1000000
  subs : p.subs.length ≤ 1000000
  codes : p.codes.length ≤ 1000000
  sub : ∀ x ∈ p.subs, x.1.size ≤ 1000000 ∧ i64In x.2
  cod : ∀ x ∈ p.codes, i64In x

/-- Is a number within these bounds? -/
def inI (n a b : Int) : Bool := decide (a ≤ n) && decide (n ≤ b)
/-- May a text be? -/
def txt (s : ByteArray) : Bool := decide (chkL s.data.toList < 0)

set_option maxHeartbeats 400000 in
theorem within_any (n a b : Int) (w : World) :
    Calls Try.prog 75 #[.int .i64 n, .int .i64 a, .int .i64 b] w fun e w' => e = .returned (.bool (inI n a b)) ∧ w = w' := by
  go_enter Try.func75, Try.ntmps75
  go_wp2
  all_goals (go_ret; exact ⟨ret_bool (by unfold inI; simp; try omega), rfl⟩)

set_option maxHeartbeats 400000 in
theorem isQos_any (n : Int) (w : World) :
    Calls Try.prog 98 #[.int .i64 n] w fun e w' => e = .returned (.bool (inI n 0 2)) ∧ w = w' := by
  go_enter Try.func98, Try.ntmps98
  go_wp2_with (go_at_call 75; refine (within_any _ _ _ _).mono ?_; rintro e w' ⟨rfl, rfl⟩)
  go_ret
  exact ⟨rfl, rfl⟩

set_option maxHeartbeats 400000 in
theorem isId_any (n : Int) (w : World) :
    Calls Try.prog 77 #[.int .i64 n] w fun e w' => e = .returned (.bool (inI n 1 65535)) ∧ w = w' := by
  go_enter Try.func77, Try.ntmps77
  go_wp2_with (go_at_call 75; refine (within_any _ _ _ _).mono ?_; rintro e w' ⟨rfl, rfl⟩)
  go_ret
  exact ⟨rfl, rfl⟩

/-- '[]byte(s)': new memory with the string's bytes. -/
theorem conv_str (s : ByteArray) (w : World) (hs : s.size ≤ 1000000) :
    ∃ (C : Nat) (W : World), (convert 9 22 (.string s)).run Try.prog w = .ok (.slice (some ⟨w.heap.size, 0, none⟩) s.size C) W ∧ BytesAt W W.heap.size (.slice (some ⟨w.heap.size, 0, none⟩) s.size C) s.data.toList ∧ Below w.heap.size w W := by
  refine ⟨_, _, Go.Lib.run_convert_string_bytes w 9 22 5 s Try.underlying9 Try.underlying22 Try.underlying5, ?_, Go.Joins.below_bytesWorld _ _ _ _ (Nat.le_refl _)⟩
  refine ⟨_, _, by rw [size_list], by rw [size_list]; exact grownCap_ge _ _ _ _, grownCap_le_maxLen _ _ _ _ (by unfold maxLen; omega), by simp, fun ad had _ => ?_, fun ad had j x hj => ?_⟩
  · injection had with had; subst had
    rw [bytesWorld_size]; exact Nat.lt_succ_self _
  · injection had with had; subst had
    have hlt : j < s.size := by rw [← size_list]; exact (List.getElem?_eq_some_iff.1 hj).1
    rw [show (Addr.add ⟨w.heap.size, 0, none⟩ j) = ⟨w.heap.size, j, none⟩ by simp [Addr.add]; exact fun h => h.symm, bytesWorld_cell _ _ _ _ hlt, List.getD_eq_getElem?_getD, hj]
    rfl

set_option maxRecDepth 100000 in
set_option maxHeartbeats 400000 in
theorem isText_any (s : ByteArray) (w : World) (hs : s.size ≤ 1000000) :
    Calls Try.prog 97 #[.string s] w fun e w' => e = .returned (.bool (txt s)) ∧ Below w.heap.size w w' := by
  obtain ⟨C, W, hcv, hB, hb⟩ := conv_str s w hs
  go_enter Try.func97, Try.ntmps97
  go_wp2_with (go_at_call 105; refine (check_any _ _ _ hB (by rw [size_list]; omega)).mono ?_; rintro e w' ⟨rfl, hb2⟩)
  all_goals (go_ret; exact ⟨ret_bool (by unfold txt; simp; try omega), thn hb hb2⟩)

end Go.Proofs.Ytkeocnobninaaaa
