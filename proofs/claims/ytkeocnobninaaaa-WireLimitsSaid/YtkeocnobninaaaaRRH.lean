/- The document's test of a packet: hubbubref3.Right: its parts, plainly; a frame written out. -/
import Derived.Test.YtkeocnobninaaaaRR1
import Derived.Test.YtkeocnobninaaaaBodyLen
namespace Go.Proofs.Ytkeocnobninaaaa
open Go.RowKit Go.Lib
set_option linter.unusedVariables false

/-- An operation without its place. -/
def trO (o : Oper) : Option Tmp × Op × Option (Nat × Bool) := (o.dst, o.op, o.guard)
theorem tr_of {ops : Array Oper} {k : Nat} {d : Option Tmp} {x : Op} {g : Option (Nat × Bool)} (h : (ops[k]?).map trO = some (d, x, g)) :
    ops[k]? = some { dst := d, op := x, type := (fun k => (ops.getD k default).type) k, pos := (fun k => (ops.getD k default).pos) k, after := (fun k => (ops.getD k default).after) k, guard := g } := by
  rcases e : ops[k]? with _ | o
  · rw [e] at h; cases h
  · rw [e] at h
    have hd : ops.getD k default = o := by simp [Array.getD_eq_getD_getElem?, e]
    simp only [Option.map_some, Option.some.injEq, trO, Prod.mk.injEq] at h
    obtain ⟨h1, h2, h3⟩ := h
    subst h1 h2 h3
    simp only [hd]
structure RRT (ops : Array Oper) : Prop where
  t0 : (ops[0]?).map trO = some (some 5, Op.fieldAddr 28 (Operand.tmp 1) 0, none)
  t1 : (ops[1]?).map trO = some (some 6, Op.load 3 (Operand.tmp 5), none)
  t2 : (ops[2]?).map trO = some (some 7, Op.call { callee := Callee.value (Operand.func 44), args := #[Operand.tmp 6, Operand.const (Value.int IntKind.i64 1), Operand.const (Value.int IntKind.i64 14)], argTypes := #[3, 3, 3] }, none)
  t3 : (ops[3]?).map trO = some (some 8, Op.unOp UnOp.not 4 (Operand.tmp 7), none)
  t4 : (ops[4]?).map trO = some (some 9, Op.move (Operand.tmp 8), none)
  t5 : (ops[5]?).map trO = some (some 10, Op.load 28 (Operand.tmp 1), some (4, false))
  t6 : (ops[6]?).map trO = some (some 11, Op.load 28 (Operand.tmp 1), some (4, false))
  t7 : (ops[7]?).map trO = some (some 12, Op.call { callee := Callee.value (Operand.func 45), args := #[Operand.tmp 11], argTypes := #[28] }, some (4, false))
  t8 : (ops[8]?).map trO = some (some 13, Op.call { callee := Callee.value (Operand.func 22), args := #[Operand.tmp 10, Operand.tmp 12], argTypes := #[28, 28] }, some (4, false))
  t9 : (ops[9]?).map trO = some (some 14, Op.unOp UnOp.not 4 (Operand.tmp 13), some (4, false))
  t10 : (ops[10]?).map trO = some (some 15, Op.pick (Operand.tmp 9) (Operand.const (Value.bool true)) (Operand.tmp 14), none)
  t11 : (ops[11]?).map trO = some (some 16, Op.move (Operand.tmp 15), none)
  t12 : (ops[12]?).map trO = some (some 17, Op.load 28 (Operand.tmp 1), some (11, false))
  t13 : (ops[13]?).map trO = some (some 18, Op.call { callee := Callee.value (Operand.func 46), args := #[Operand.tmp 17], argTypes := #[28] }, some (11, false))
  t14 : (ops[14]?).map trO = some (some 19, Op.move (Operand.tmp 18), some (11, false))
  t15 : (ops[15]?).map trO = some (some 20, Op.fieldAddr 28 (Operand.tmp 1) 4, some (14, true))
  t16 : (ops[16]?).map trO = some (some 21, Op.load 3 (Operand.tmp 20), some (14, true))
  t17 : (ops[17]?).map trO = some (some 22, Op.call { callee := Callee.value (Operand.func 44), args := #[Operand.tmp 21, Operand.const (Value.int IntKind.i64 1), Operand.const (Value.int IntKind.i64 65535)], argTypes := #[3, 3, 3] }, some (14, true))
  t18 : (ops[18]?).map trO = some (some 23, Op.unOp UnOp.not 4 (Operand.tmp 22), some (14, true))
  t19 : (ops[19]?).map trO = some (some 24, Op.pick (Operand.tmp 19) (Operand.tmp 23) (Operand.const (Value.bool false)), some (11, false))
  t20 : (ops[20]?).map trO = some (some 25, Op.pick (Operand.tmp 16) (Operand.const (Value.bool true)) (Operand.tmp 24), none)
  t21 : (ops[21]?).map trO = some (some 26, Op.move (Operand.tmp 25), none)
  t22 : (ops[22]?).map trO = some (some 27, Op.fieldAddr 28 (Operand.tmp 1) 3, some (21, false))
  t23 : (ops[23]?).map trO = some (some 28, Op.load 3 (Operand.tmp 27), some (21, false))
  t24 : (ops[24]?).map trO = some (some 29, Op.call { callee := Callee.value (Operand.func 44), args := #[Operand.tmp 28, Operand.const (Value.int IntKind.i64 0), Operand.const (Value.int IntKind.i64 2)], argTypes := #[3, 3, 3] }, some (21, false))
  t25 : (ops[25]?).map trO = some (some 30, Op.unOp UnOp.not 4 (Operand.tmp 29), some (21, false))
  t26 : (ops[26]?).map trO = some (some 31, Op.pick (Operand.tmp 26) (Operand.const (Value.bool true)) (Operand.tmp 30), none)
  t27 : (ops[27]?).map trO = some (some 32, Op.move (Operand.tmp 31), none)
  t28 : (ops[28]?).map trO = some (some 33, Op.fieldAddr 28 (Operand.tmp 1) 5, some (27, false))
  t29 : (ops[29]?).map trO = some (some 34, Op.load 9 (Operand.tmp 33), some (27, false))
  t30 : (ops[30]?).map trO = some (some 35, Op.call { callee := Callee.value (Operand.func 47), args := #[Operand.tmp 34], argTypes := #[9] }, some (27, false))
  t31 : (ops[31]?).map trO = some (some 36, Op.unOp UnOp.not 4 (Operand.tmp 35), some (27, false))
  t32 : (ops[32]?).map trO = some (some 37, Op.pick (Operand.tmp 32) (Operand.const (Value.bool true)) (Operand.tmp 36), none)
  t33 : (ops[33]?).map trO = some (some 38, Op.move (Operand.tmp 37), none)
  t34 : (ops[34]?).map trO = some (some 39, Op.fieldAddr 28 (Operand.tmp 1) 8, some (33, false))
  t35 : (ops[35]?).map trO = some (some 40, Op.load 9 (Operand.tmp 39), some (33, false))
  t36 : (ops[36]?).map trO = some (some 41, Op.call { callee := Callee.value (Operand.func 47), args := #[Operand.tmp 40], argTypes := #[9] }, some (33, false))
  t37 : (ops[37]?).map trO = some (some 42, Op.unOp UnOp.not 4 (Operand.tmp 41), some (33, false))
  t38 : (ops[38]?).map trO = some (some 43, Op.pick (Operand.tmp 38) (Operand.const (Value.bool true)) (Operand.tmp 42), none)
  t39 : (ops[39]?).map trO = some (some 44, Op.move (Operand.tmp 43), none)
  t40 : (ops[40]?).map trO = some (some 45, Op.fieldAddr 28 (Operand.tmp 1) 15, some (39, false))
  t41 : (ops[41]?).map trO = some (some 46, Op.load 9 (Operand.tmp 45), some (39, false))
  t42 : (ops[42]?).map trO = some (some 47, Op.call { callee := Callee.value (Operand.func 47), args := #[Operand.tmp 46], argTypes := #[9] }, some (39, false))
  t43 : (ops[43]?).map trO = some (some 48, Op.unOp UnOp.not 4 (Operand.tmp 47), some (39, false))
  t44 : (ops[44]?).map trO = some (some 49, Op.pick (Operand.tmp 44) (Operand.const (Value.bool true)) (Operand.tmp 48), none)
  t45 : (ops[45]?).map trO = some (some 50, Op.move (Operand.tmp 49), none)
  t46 : (ops[46]?).map trO = some (some 51, Op.fieldAddr 28 (Operand.tmp 1) 12, some (45, false))
  t47 : (ops[47]?).map trO = some (some 52, Op.fieldAddr 24 (Operand.tmp 51) 0, some (45, false))
  t48 : (ops[48]?).map trO = some (some 53, Op.load 9 (Operand.tmp 52), some (45, false))
  t49 : (ops[49]?).map trO = some (some 54, Op.call { callee := Callee.value (Operand.func 47), args := #[Operand.tmp 53], argTypes := #[9] }, some (45, false))
  t50 : (ops[50]?).map trO = some (some 55, Op.unOp UnOp.not 4 (Operand.tmp 54), some (45, false))
  t51 : (ops[51]?).map trO = some (some 56, Op.pick (Operand.tmp 50) (Operand.const (Value.bool true)) (Operand.tmp 55), none)
  t52 : (ops[52]?).map trO = some (some 57, Op.move (Operand.tmp 56), none)
  t53 : (ops[53]?).map trO = some (some 58, Op.fieldAddr 28 (Operand.tmp 1) 12, some (52, false))
  t54 : (ops[54]?).map trO = some (some 59, Op.fieldAddr 24 (Operand.tmp 58) 2, some (52, false))
  t55 : (ops[55]?).map trO = some (some 60, Op.load 3 (Operand.tmp 59), some (52, false))
  t56 : (ops[56]?).map trO = some (some 61, Op.call { callee := Callee.value (Operand.func 44), args := #[Operand.tmp 60, Operand.const (Value.int IntKind.i64 0), Operand.const (Value.int IntKind.i64 2)], argTypes := #[3, 3, 3] }, some (52, false))
  t57 : (ops[57]?).map trO = some (some 62, Op.unOp UnOp.not 4 (Operand.tmp 61), some (52, false))
  t58 : (ops[58]?).map trO = some (some 63, Op.pick (Operand.tmp 57) (Operand.const (Value.bool true)) (Operand.tmp 62), none)
  t59 : (ops[59]?).map trO = some (some 64, Op.move (Operand.tmp 63), none)
  t60 : (ops[60]?).map trO = some (some 65, Op.fieldAddr 28 (Operand.tmp 1) 12, some (59, false))
  t61 : (ops[61]?).map trO = some (some 66, Op.fieldAddr 24 (Operand.tmp 65) 1, some (59, false))
  t62 : (ops[62]?).map trO = some (some 67, Op.load 22 (Operand.tmp 66), some (59, false))
  t63 : (ops[63]?).map trO = some (some 68, Op.call { callee := Callee.builtin Builtin.len, args := #[Operand.tmp 67], argTypes := #[22] }, some (59, false))
  t64 : (ops[64]?).map trO = some (some 69, Op.binOp BinOp.gtr 3 (Operand.tmp 68) (Operand.const (Value.int IntKind.i64 65535)) 3, some (59, false))
  t65 : (ops[65]?).map trO = some (some 70, Op.pick (Operand.tmp 64) (Operand.const (Value.bool true)) (Operand.tmp 69), none)
  t66 : (ops[66]?).map trO = some (some 71, Op.move (Operand.tmp 70), none)
  t67 : (ops[67]?).map trO = some (some 72, Op.fieldAddr 28 (Operand.tmp 1) 16, some (66, false))
  t68 : (ops[68]?).map trO = some (some 73, Op.load 22 (Operand.tmp 72), some (66, false))
  t69 : (ops[69]?).map trO = some (some 74, Op.call { callee := Callee.builtin Builtin.len, args := #[Operand.tmp 73], argTypes := #[22] }, some (66, false))
  t70 : (ops[70]?).map trO = some (some 75, Op.binOp BinOp.gtr 3 (Operand.tmp 74) (Operand.const (Value.int IntKind.i64 65535)) 3, some (66, false))
  t71 : (ops[71]?).map trO = some (some 76, Op.pick (Operand.tmp 71) (Operand.const (Value.bool true)) (Operand.tmp 75), none)
theorem RRT.ops {ops : Array Oper} (h : RRT ops) : RROps ops (fun k => (ops.getD k default).type) (fun k => (ops.getD k default).pos) (fun k => (ops.getD k default).after) :=
  ⟨tr_of h.t0, tr_of h.t1, tr_of h.t2, tr_of h.t3, tr_of h.t4, tr_of h.t5, tr_of h.t6, tr_of h.t7, tr_of h.t8, tr_of h.t9, tr_of h.t10, tr_of h.t11, tr_of h.t12, tr_of h.t13, tr_of h.t14, tr_of h.t15, tr_of h.t16, tr_of h.t17, tr_of h.t18, tr_of h.t19, tr_of h.t20, tr_of h.t21, tr_of h.t22, tr_of h.t23, tr_of h.t24, tr_of h.t25, tr_of h.t26, tr_of h.t27, tr_of h.t28, tr_of h.t29, tr_of h.t30, tr_of h.t31, tr_of h.t32, tr_of h.t33, tr_of h.t34, tr_of h.t35, tr_of h.t36, tr_of h.t37, tr_of h.t38, tr_of h.t39, tr_of h.t40, tr_of h.t41, tr_of h.t42, tr_of h.t43, tr_of h.t44, tr_of h.t45, tr_of h.t46, tr_of h.t47, tr_of h.t48, tr_of h.t49, tr_of h.t50, tr_of h.t51, tr_of h.t52, tr_of h.t53, tr_of h.t54, tr_of h.t55, tr_of h.t56, tr_of h.t57, tr_of h.t58, tr_of h.t59, tr_of h.t60, tr_of h.t61, tr_of h.t62, tr_of h.t63, tr_of h.t64, tr_of h.t65, tr_of h.t66, tr_of h.t67, tr_of h.t68, tr_of h.t69, tr_of h.t70, tr_of h.t71⟩

theorem rd_all {ops : Array Oper} (h : ((List.range 72).all fun k => k == 5 || Region.ready .any ops (Lst 72 k) == [k]) = true) (k : Nat) (h1 : k < 72) (h2 : k ≠ 5) : Region.ready .any ops (Lst 72 k) = [k] := by
  have := List.all_eq_true.1 h k (List.mem_range.2 h1)
  simpa [h2] using this
/-- A frame of that size, written out. -/
theorem frame_out (a : Act) (n : Nat) (hs : a.tmps.size = n) (hd : a.defers = []) : a = { tmps := ((List.range n).map fun i => a.tmps.getD i undef).toArray, defers := [] } := by
  obtain ⟨tm, df⟩ := a
  simp only at hs hd
  subst hd
  congr 1
  subst hs
  apply Array.ext
  · simp
  · intro i h1 h2
    simp [h1]
set_option maxRecDepth 100000 in
theorem frame_r (a : Act) (p : Pk) (s : Sv) (g0 : Nat) (b : Bool) (F : KD a 201 [(76, .bool b), (0, pkV p s), (1, .pointer (some ⟨g0, 0, none⟩)), (2, .bool false)]) : ∃ g : Nat → Value, a = { tmps := #[pkV p s, .pointer (some ⟨g0, 0, none⟩), .bool false, g 3, g 4, g 5, g 6, g 7, g 8, g 9, g 10, g 11, g 12, g 13, g 14, g 15, g 16, g 17, g 18, g 19, g 20, g 21, g 22, g 23, g 24, g 25, g 26, g 27, g 28, g 29, g 30, g 31, g 32, g 33, g 34, g 35, g 36, g 37, g 38, g 39, g 40, g 41, g 42, g 43, g 44, g 45, g 46, g 47, g 48, g 49, g 50, g 51, g 52, g 53, g 54, g 55, g 56, g 57, g 58, g 59, g 60, g 61, g 62, g 63, g 64, g 65, g 66, g 67, g 68, g 69, g 70, g 71, g 72, g 73, g 74, g 75, .bool b, g 77, g 78, g 79, g 80, g 81, g 82, g 83, g 84, g 85, g 86, g 87, g 88, g 89, g 90, g 91, g 92, g 93, g 94, g 95, g 96, g 97, g 98, g 99, g 100, g 101, g 102, g 103, g 104, g 105, g 106, g 107, g 108, g 109, g 110, g 111, g 112, g 113, g 114, g 115, g 116, g 117, g 118, g 119, g 120, g 121, g 122, g 123, g 124, g 125, g 126, g 127, g 128, g 129, g 130, g 131, g 132, g 133, g 134, g 135, g 136, g 137, g 138, g 139, g 140, g 141, g 142, g 143, g 144, g 145, g 146, g 147, g 148, g 149, g 150, g 151, g 152, g 153, g 154, g 155, g 156, g 157, g 158, g 159, g 160, g 161, g 162, g 163, g 164, g 165, g 166, g 167, g 168, g 169, g 170, g 171, g 172, g 173, g 174, g 175, g 176, g 177, g 178, g 179, g 180, g 181, g 182, g 183, g 184, g 185, g 186, g 187, g 188, g 189, g 190, g 191, g 192, g 193, g 194, g 195, g 196, g 197, g 198, g 199, g 200], defers := [] } := by
  obtain ⟨g, hg⟩ : ∃ g : Nat → Value, g = fun i => a.tmps.getD i undef := ⟨_, rfl⟩
  refine ⟨g, (frame_out a 201 F.1.size F.2).trans ?_⟩
  rw [← hg]
  have k : ∀ i v, (i, v) ∈ [(76, Value.bool b), (0, pkV p s), (1, .pointer (some ⟨g0, 0, none⟩)), (2, .bool false)] → g i = v := fun i v h => by
    rw [hg]
    exact F.ev h
  rw [← k 0 _ (.tail _ (.head _)), ← k 1 _ (.tail _ (.tail _ (.head _))), ← k 2 _ (.tail _ (.tail _ (.tail _ (.head _)))), ← k 76 _ (.head _)]
  rfl

def rc2 (p : Pk) : Bool := inI p.level 0 255 && inI p.keep 0 65535 && (!p.hp || p.hu) && inI p.code 0 5 && (!p.pres || p.code == 0)
def rcS (p : Pk) (x : ByteArray × Int) : Bool := rtxt x.1 && (inI x.2 0 2 && !(p.kind == 10 && x.2 != 0))
def rcC (x : Int) : Bool := inI x 0 2 || x == 128
def rc3 (p : Pk) : Bool := p.subs.all (rcS p) && p.codes.all rcC && !((p.kind == 8 || p.kind == 10) && p.subs.length == 0) && !(p.kind == 9 && p.codes.length == 0)
def rc4 (p : Pk) : Bool := !((p.kind == 8 || p.kind == 10) && (p.subs.length : Int) == 0) && !(p.kind == 9 && (p.codes.length : Int) == 0)
theorem ref_parts (p : Pk) : refRP p = (rc1 p && (rc2 p && (rc3 p && decide (lenP p ≤ 8192)))) := by
  unfold refRP rc1 rc2 rc3
  simp only [Bool.and_assoc, Bool.and_true]
  rfl

end Go.Proofs.Ytkeocnobninaaaa
