/- The document's test of a packet: hubbubref3.Right's first tests, a region that draws its order. -/
import Derived.Test.YtkeocnobninaaaaOnly
import Derived.Test.YtkeocnobninaaaaOnly1
import Derived.Test.YtkeocnobninaaaaRSame
import Derived.Test.YtkeocnobninaaaaRefRP
import Derived.Test.YtkeocnobninaaaaChain3
namespace Go.Proofs.Ytkeocnobninaaaa
open Go.RowKit Go.Lib
set_option linter.unusedVariables false

theorem only_any (p : Pk) (s : Sv) (w : World) : Calls Try.prog 45 #[pkV p s] w fun e w' => e = .returned (pkV (onP p) (wrS p s)) ∧ Below w.heap.size w w' := by
  rcases k1 : (p.kind == 1) with _ | _
  · exact only_no1 p s w k1
  · exact only_1 p s w k1
theorem on_at {w : World} {B : Nat} {p : Pk} {s : Sv} (h : PkAt w B p s) : PkAt w B (onP p) (wrS p s) := by
  by_cases k3 : (p.kind == 3) = true
  · have k1 : (p.kind == 1) = false := by simp at k3; simp [k3]
    have k2 : (p.kind == 2) = false := by simp at k3; simp [k3]
    have k := wr_at h
    unfold onP
    rw [if_pos k3]
    unfold wrP wrS at k
    unfold wrS
    simp only [k1, k2, k3, if_true, Bool.false_eq_true, if_false] at k ⊢
    exact ⟨k.pay, k.wpay, k.pass, k.subs, k.codes⟩
  · unfold onP
    rw [if_neg k3]
    exact wr_at h

/-- The tests ahead of the greetings'. -/
def rc1 (p : Pk) : Bool := (inI p.kind 1 14 && (decide (p = onP p) && ((!numP p || inI p.id 1 65535) && (inI p.qos 0 2 && (rtxt p.top && (rtxt p.cli && (rtxt p.user && (rtxt p.wtop && (inI p.wqos 0 2 && (decide (p.wpay.length ≤ 65535) && (decide (p.pass.length ≤ 65535) && true)))))))))))
/-- The packet's box is there. -/
def RS (p : Pk) (s : Sv) (w : World) (W : World) : Prop := W.heap[w.heap.size]? = some (.cells (pkC p s) 28 (0, 0)) ∧ Below w.heap.size w W
theorem KD.base {a : Act} {n i : Nat} {v : Value} {L B : List (Nat × Value)} (F : KD a n L) (h1 : (i, v) ∈ L) (hb : ∀ x ∈ B, x ∈ L) : KD a n ((i, v) :: B) := F.cut fun x hx => by
  rcases List.mem_cons.1 hx with rfl | hx
  · exact h1
  · exact hb x hx

/-- The region's operations. -/
structure RROps (ops : Array Oper) (ty : Nat → TypeId) (q : Nat → String) (e : Nat → Array Edge) : Prop where
  r0 : ops[0]? = some { dst := some 5, op := Op.fieldAddr 28 (Operand.tmp 1) 0, type := ty 0, pos := q 0, after := e 0, guard := none }
  r1 : ops[1]? = some { dst := some 6, op := Op.load 3 (Operand.tmp 5), type := ty 1, pos := q 1, after := e 1, guard := none }
  r2 : ops[2]? = some { dst := some 7, op := Op.call { callee := Callee.value (Operand.func 44), args := #[Operand.tmp 6, Operand.const (Value.int IntKind.i64 1), Operand.const (Value.int IntKind.i64 14)], argTypes := #[3, 3, 3] }, type := ty 2, pos := q 2, after := e 2, guard := none }
  r3 : ops[3]? = some { dst := some 8, op := Op.unOp UnOp.not 4 (Operand.tmp 7), type := ty 3, pos := q 3, after := e 3, guard := none }
  r4 : ops[4]? = some { dst := some 9, op := Op.move (Operand.tmp 8), type := ty 4, pos := q 4, after := e 4, guard := none }
  r5 : ops[5]? = some { dst := some 10, op := Op.load 28 (Operand.tmp 1), type := ty 5, pos := q 5, after := e 5, guard := some (4, false) }
  r6 : ops[6]? = some { dst := some 11, op := Op.load 28 (Operand.tmp 1), type := ty 6, pos := q 6, after := e 6, guard := some (4, false) }
  r7 : ops[7]? = some { dst := some 12, op := Op.call { callee := Callee.value (Operand.func 45), args := #[Operand.tmp 11], argTypes := #[28] }, type := ty 7, pos := q 7, after := e 7, guard := some (4, false) }
  r8 : ops[8]? = some { dst := some 13, op := Op.call { callee := Callee.value (Operand.func 22), args := #[Operand.tmp 10, Operand.tmp 12], argTypes := #[28, 28] }, type := ty 8, pos := q 8, after := e 8, guard := some (4, false) }
  r9 : ops[9]? = some { dst := some 14, op := Op.unOp UnOp.not 4 (Operand.tmp 13), type := ty 9, pos := q 9, after := e 9, guard := some (4, false) }
  r10 : ops[10]? = some { dst := some 15, op := Op.pick (Operand.tmp 9) (Operand.const (Value.bool true)) (Operand.tmp 14), type := ty 10, pos := q 10, after := e 10, guard := none }
  r11 : ops[11]? = some { dst := some 16, op := Op.move (Operand.tmp 15), type := ty 11, pos := q 11, after := e 11, guard := none }
  r12 : ops[12]? = some { dst := some 17, op := Op.load 28 (Operand.tmp 1), type := ty 12, pos := q 12, after := e 12, guard := some (11, false) }
  r13 : ops[13]? = some { dst := some 18, op := Op.call { callee := Callee.value (Operand.func 46), args := #[Operand.tmp 17], argTypes := #[28] }, type := ty 13, pos := q 13, after := e 13, guard := some (11, false) }
  r14 : ops[14]? = some { dst := some 19, op := Op.move (Operand.tmp 18), type := ty 14, pos := q 14, after := e 14, guard := some (11, false) }
  r15 : ops[15]? = some { dst := some 20, op := Op.fieldAddr 28 (Operand.tmp 1) 4, type := ty 15, pos := q 15, after := e 15, guard := some (14, true) }
  r16 : ops[16]? = some { dst := some 21, op := Op.load 3 (Operand.tmp 20), type := ty 16, pos := q 16, after := e 16, guard := some (14, true) }
  r17 : ops[17]? = some { dst := some 22, op := Op.call { callee := Callee.value (Operand.func 44), args := #[Operand.tmp 21, Operand.const (Value.int IntKind.i64 1), Operand.const (Value.int IntKind.i64 65535)], argTypes := #[3, 3, 3] }, type := ty 17, pos := q 17, after := e 17, guard := some (14, true) }
  r18 : ops[18]? = some { dst := some 23, op := Op.unOp UnOp.not 4 (Operand.tmp 22), type := ty 18, pos := q 18, after := e 18, guard := some (14, true) }
  r19 : ops[19]? = some { dst := some 24, op := Op.pick (Operand.tmp 19) (Operand.tmp 23) (Operand.const (Value.bool false)), type := ty 19, pos := q 19, after := e 19, guard := some (11, false) }
  r20 : ops[20]? = some { dst := some 25, op := Op.pick (Operand.tmp 16) (Operand.const (Value.bool true)) (Operand.tmp 24), type := ty 20, pos := q 20, after := e 20, guard := none }
  r21 : ops[21]? = some { dst := some 26, op := Op.move (Operand.tmp 25), type := ty 21, pos := q 21, after := e 21, guard := none }
  r22 : ops[22]? = some { dst := some 27, op := Op.fieldAddr 28 (Operand.tmp 1) 3, type := ty 22, pos := q 22, after := e 22, guard := some (21, false) }
  r23 : ops[23]? = some { dst := some 28, op := Op.load 3 (Operand.tmp 27), type := ty 23, pos := q 23, after := e 23, guard := some (21, false) }
  r24 : ops[24]? = some { dst := some 29, op := Op.call { callee := Callee.value (Operand.func 44), args := #[Operand.tmp 28, Operand.const (Value.int IntKind.i64 0), Operand.const (Value.int IntKind.i64 2)], argTypes := #[3, 3, 3] }, type := ty 24, pos := q 24, after := e 24, guard := some (21, false) }
  r25 : ops[25]? = some { dst := some 30, op := Op.unOp UnOp.not 4 (Operand.tmp 29), type := ty 25, pos := q 25, after := e 25, guard := some (21, false) }
  r26 : ops[26]? = some { dst := some 31, op := Op.pick (Operand.tmp 26) (Operand.const (Value.bool true)) (Operand.tmp 30), type := ty 26, pos := q 26, after := e 26, guard := none }
  r27 : ops[27]? = some { dst := some 32, op := Op.move (Operand.tmp 31), type := ty 27, pos := q 27, after := e 27, guard := none }
  r28 : ops[28]? = some { dst := some 33, op := Op.fieldAddr 28 (Operand.tmp 1) 5, type := ty 28, pos := q 28, after := e 28, guard := some (27, false) }
  r29 : ops[29]? = some { dst := some 34, op := Op.load 9 (Operand.tmp 33), type := ty 29, pos := q 29, after := e 29, guard := some (27, false) }
  r30 : ops[30]? = some { dst := some 35, op := Op.call { callee := Callee.value (Operand.func 47), args := #[Operand.tmp 34], argTypes := #[9] }, type := ty 30, pos := q 30, after := e 30, guard := some (27, false) }
  r31 : ops[31]? = some { dst := some 36, op := Op.unOp UnOp.not 4 (Operand.tmp 35), type := ty 31, pos := q 31, after := e 31, guard := some (27, false) }
  r32 : ops[32]? = some { dst := some 37, op := Op.pick (Operand.tmp 32) (Operand.const (Value.bool true)) (Operand.tmp 36), type := ty 32, pos := q 32, after := e 32, guard := none }
  r33 : ops[33]? = some { dst := some 38, op := Op.move (Operand.tmp 37), type := ty 33, pos := q 33, after := e 33, guard := none }
  r34 : ops[34]? = some { dst := some 39, op := Op.fieldAddr 28 (Operand.tmp 1) 8, type := ty 34, pos := q 34, after := e 34, guard := some (33, false) }
  r35 : ops[35]? = some { dst := some 40, op := Op.load 9 (Operand.tmp 39), type := ty 35, pos := q 35, after := e 35, guard := some (33, false) }
  r36 : ops[36]? = some { dst := some 41, op := Op.call { callee := Callee.value (Operand.func 47), args := #[Operand.tmp 40], argTypes := #[9] }, type := ty 36, pos := q 36, after := e 36, guard := some (33, false) }
  r37 : ops[37]? = some { dst := some 42, op := Op.unOp UnOp.not 4 (Operand.tmp 41), type := ty 37, pos := q 37, after := e 37, guard := some (33, false) }
  r38 : ops[38]? = some { dst := some 43, op := Op.pick (Operand.tmp 38) (Operand.const (Value.bool true)) (Operand.tmp 42), type := ty 38, pos := q 38, after := e 38, guard := none }
  r39 : ops[39]? = some { dst := some 44, op := Op.move (Operand.tmp 43), type := ty 39, pos := q 39, after := e 39, guard := none }
  r40 : ops[40]? = some { dst := some 45, op := Op.fieldAddr 28 (Operand.tmp 1) 15, type := ty 40, pos := q 40, after := e 40, guard := some (39, false) }
  r41 : ops[41]? = some { dst := some 46, op := Op.load 9 (Operand.tmp 45), type := ty 41, pos := q 41, after := e 41, guard := some (39, false) }
  r42 : ops[42]? = some { dst := some 47, op := Op.call { callee := Callee.value (Operand.func 47), args := #[Operand.tmp 46], argTypes := #[9] }, type := ty 42, pos := q 42, after := e 42, guard := some (39, false) }
  r43 : ops[43]? = some { dst := some 48, op := Op.unOp UnOp.not 4 (Operand.tmp 47), type := ty 43, pos := q 43, after := e 43, guard := some (39, false) }
  r44 : ops[44]? = some { dst := some 49, op := Op.pick (Operand.tmp 44) (Operand.const (Value.bool true)) (Operand.tmp 48), type := ty 44, pos := q 44, after := e 44, guard := none }
  r45 : ops[45]? = some { dst := some 50, op := Op.move (Operand.tmp 49), type := ty 45, pos := q 45, after := e 45, guard := none }
  r46 : ops[46]? = some { dst := some 51, op := Op.fieldAddr 28 (Operand.tmp 1) 12, type := ty 46, pos := q 46, after := e 46, guard := some (45, false) }
  r47 : ops[47]? = some { dst := some 52, op := Op.fieldAddr 24 (Operand.tmp 51) 0, type := ty 47, pos := q 47, after := e 47, guard := some (45, false) }
  r48 : ops[48]? = some { dst := some 53, op := Op.load 9 (Operand.tmp 52), type := ty 48, pos := q 48, after := e 48, guard := some (45, false) }
  r49 : ops[49]? = some { dst := some 54, op := Op.call { callee := Callee.value (Operand.func 47), args := #[Operand.tmp 53], argTypes := #[9] }, type := ty 49, pos := q 49, after := e 49, guard := some (45, false) }
  r50 : ops[50]? = some { dst := some 55, op := Op.unOp UnOp.not 4 (Operand.tmp 54), type := ty 50, pos := q 50, after := e 50, guard := some (45, false) }
  r51 : ops[51]? = some { dst := some 56, op := Op.pick (Operand.tmp 50) (Operand.const (Value.bool true)) (Operand.tmp 55), type := ty 51, pos := q 51, after := e 51, guard := none }
  r52 : ops[52]? = some { dst := some 57, op := Op.move (Operand.tmp 56), type := ty 52, pos := q 52, after := e 52, guard := none }
  r53 : ops[53]? = some { dst := some 58, op := Op.fieldAddr 28 (Operand.tmp 1) 12, type := ty 53, pos := q 53, after := e 53, guard := some (52, false) }
  r54 : ops[54]? = some { dst := some 59, op := Op.fieldAddr 24 (Operand.tmp 58) 2, type := ty 54, pos := q 54, after := e 54, guard := some (52, false) }
  r55 : ops[55]? = some { dst := some 60, op := Op.load 3 (Operand.tmp 59), type := ty 55, pos := q 55, after := e 55, guard := some (52, false) }
  r56 : ops[56]? = some { dst := some 61, op := Op.call { callee := Callee.value (Operand.func 44), args := #[Operand.tmp 60, Operand.const (Value.int IntKind.i64 0), Operand.const (Value.int IntKind.i64 2)], argTypes := #[3, 3, 3] }, type := ty 56, pos := q 56, after := e 56, guard := some (52, false) }
  r57 : ops[57]? = some { dst := some 62, op := Op.unOp UnOp.not 4 (Operand.tmp 61), type := ty 57, pos := q 57, after := e 57, guard := some (52, false) }
  r58 : ops[58]? = some { dst := some 63, op := Op.pick (Operand.tmp 57) (Operand.const (Value.bool true)) (Operand.tmp 62), type := ty 58, pos := q 58, after := e 58, guard := none }
  r59 : ops[59]? = some { dst := some 64, op := Op.move (Operand.tmp 63), type := ty 59, pos := q 59, after := e 59, guard := none }
  r60 : ops[60]? = some { dst := some 65, op := Op.fieldAddr 28 (Operand.tmp 1) 12, type := ty 60, pos := q 60, after := e 60, guard := some (59, false) }
  r61 : ops[61]? = some { dst := some 66, op := Op.fieldAddr 24 (Operand.tmp 65) 1, type := ty 61, pos := q 61, after := e 61, guard := some (59, false) }
  r62 : ops[62]? = some { dst := some 67, op := Op.load 22 (Operand.tmp 66), type := ty 62, pos := q 62, after := e 62, guard := some (59, false) }
  r63 : ops[63]? = some { dst := some 68, op := Op.call { callee := Callee.builtin Builtin.len, args := #[Operand.tmp 67], argTypes := #[22] }, type := ty 63, pos := q 63, after := e 63, guard := some (59, false) }
  r64 : ops[64]? = some { dst := some 69, op := Op.binOp BinOp.gtr 3 (Operand.tmp 68) (Operand.const (Value.int IntKind.i64 65535)) 3, type := ty 64, pos := q 64, after := e 64, guard := some (59, false) }
  r65 : ops[65]? = some { dst := some 70, op := Op.pick (Operand.tmp 64) (Operand.const (Value.bool true)) (Operand.tmp 69), type := ty 65, pos := q 65, after := e 65, guard := none }
  r66 : ops[66]? = some { dst := some 71, op := Op.move (Operand.tmp 70), type := ty 66, pos := q 66, after := e 66, guard := none }
  r67 : ops[67]? = some { dst := some 72, op := Op.fieldAddr 28 (Operand.tmp 1) 16, type := ty 67, pos := q 67, after := e 67, guard := some (66, false) }
  r68 : ops[68]? = some { dst := some 73, op := Op.load 22 (Operand.tmp 72), type := ty 68, pos := q 68, after := e 68, guard := some (66, false) }
  r69 : ops[69]? = some { dst := some 74, op := Op.call { callee := Callee.builtin Builtin.len, args := #[Operand.tmp 73], argTypes := #[22] }, type := ty 69, pos := q 69, after := e 69, guard := some (66, false) }
  r70 : ops[70]? = some { dst := some 75, op := Op.binOp BinOp.gtr 3 (Operand.tmp 74) (Operand.const (Value.int IntKind.i64 65535)) 3, type := ty 70, pos := q 70, after := e 70, guard := some (66, false) }
  r71 : ops[71]? = some { dst := some 76, op := Op.pick (Operand.tmp 71) (Operand.const (Value.bool true)) (Operand.tmp 75), type := ty 71, pos := q 71, after := e 71, guard := none }

set_option maxRecDepth 100000 in
set_option maxHeartbeats 8000000 in
theorem rr1_main {ops : Array Oper} {ty : Nat → TypeId} {q : Nat → String} {e : Nat → Array Edge} (R : RROps ops ty q e) (hsz : ops.size = 72) (RD : ∀ k, k < 72 → k ≠ 5 → Region.ready .any ops (Lst 72 k) = [k]) (RE : Region.ready .any ops (Lst 72 72) = [])
    (h5 : Region.noSelect ops = true ∧ Region.free .any ops (Lst 72 5) 5 = true ∧ (Region.ready .any ops (Lst 72 5)).contains 5 = true)
    (p : Pk) (s : Sv) (B : Nat) (w : World) (hp : PkAt w B p s) (hB : B ≤ w.heap.size) (ok : PkOk p) {Q : Exit → Act → World → Prop} (hQ : ∀ c a a' w, a'.defers = a.defers → Q (.panic c) a w → Q (.panic c) a' w)
    (a : Act) (W : World) (F : KD a 201 [(0, pkV p s), (1, .pointer (some ⟨w.heap.size, 0, none⟩)), (2, .bool false)]) (hS : RS p s w W) (K : ∀ a W, KD a 201 ((76, .bool (!rc1 p)) :: [(0, pkV p s), (1, .pointer (some ⟨w.heap.size, 0, none⟩)), (2, .bool false)]) → RS p s w W → Q .normal a W) :
    (Code.region 1 ops true).wp Try.prog Q a W := by
  have HP := Lib.hid hp
  have HO := Lib.hid (on_at hp)
  have OK := Lib.hid ok
  have c8 := ok.subs
  have c9 := ok.codes
  clear hp ok
  have T67 : ∀ (a : Act) (W : World), KD a 201 ((71, .bool true) :: [(0, pkV p s), (1, .pointer (some ⟨w.heap.size, 0, none⟩)), (2, .bool false)]) → RS p s w W → rc1 p = false → wpAnyH Try.prog .any ops Q (RS p s w) 5 (Lst 72 67) a W := by
    intro a W F hS hF
    refine st_skip F 67 72 (RD 67 (by decide) (by decide)) R.r67 (want_y rfl (F.yl R.r66 rfl (.head _)) false rfl) rfl (by decide) rfl hS ?_
    clear F; intro a F
    refine st_skip F 68 73 (RD 68 (by decide) (by decide)) R.r68 (want_y rfl (F.yl R.r66 rfl (.tail _ (.head _))) false rfl) rfl (by decide) rfl hS ?_
    clear F; intro a F
    refine st_skip F 69 74 (RD 69 (by decide) (by decide)) R.r69 (want_y rfl (F.yl R.r66 rfl (.tail _ (.tail _ (.head _)))) false rfl) rfl (by decide) rfl hS ?_
    clear F; intro a F
    refine st_skip F 70 75 (RD 70 (by decide) (by decide)) R.r70 (want_y rfl (F.yl R.r66 rfl (.tail _ (.tail _ (.tail _ (.head _))))) false rfl) rfl (by decide) rfl hS ?_
    clear F; intro a F
    refine st_do F 71 76 (.bool true) (RD 71 (by decide) (by decide)) R.r71 (want_0 rfl) (by simp [execOp, F.ev (.tail _ (.tail _ (.tail _ (.tail _ (.head _))))), BigFrame.eval_const, asBool]) rfl (by decide) rfl hS ?_
    clear F; intro a F
    replace F := F.base (.head _) (fun x hx => .tail _ (.tail _ (.tail _ (.tail _ (.tail _ (.tail _ (hx)))))))
    refine wpAnyH_done RE ?_ _
    refine K a W ?_ hS
    rw [hF]; exact F
  have T60 : ∀ (a : Act) (W : World), KD a 201 ((64, .bool true) :: [(0, pkV p s), (1, .pointer (some ⟨w.heap.size, 0, none⟩)), (2, .bool false)]) → RS p s w W → rc1 p = false → wpAnyH Try.prog .any ops Q (RS p s w) 12 (Lst 72 60) a W := by
    intro a W F hS hF
    refine st_skip F 60 65 (RD 60 (by decide) (by decide)) R.r60 (want_y rfl (F.yl R.r59 rfl (.head _)) false rfl) rfl (by decide) rfl hS ?_
    clear F; intro a F
    refine st_skip F 61 66 (RD 61 (by decide) (by decide)) R.r61 (want_y rfl (F.yl R.r59 rfl (.tail _ (.head _))) false rfl) rfl (by decide) rfl hS ?_
    clear F; intro a F
    refine st_skip F 62 67 (RD 62 (by decide) (by decide)) R.r62 (want_y rfl (F.yl R.r59 rfl (.tail _ (.tail _ (.head _)))) false rfl) rfl (by decide) rfl hS ?_
    clear F; intro a F
    refine st_skip F 63 68 (RD 63 (by decide) (by decide)) R.r63 (want_y rfl (F.yl R.r59 rfl (.tail _ (.tail _ (.tail _ (.head _))))) false rfl) rfl (by decide) rfl hS ?_
    clear F; intro a F
    refine st_skip F 64 69 (RD 64 (by decide) (by decide)) R.r64 (want_y rfl (F.yl R.r59 rfl (.tail _ (.tail _ (.tail _ (.tail _ (.head _)))))) false rfl) rfl (by decide) rfl hS ?_
    clear F; intro a F
    refine st_do F 65 70 (.bool true) (RD 65 (by decide) (by decide)) R.r65 (want_0 rfl) (by simp [execOp, F.ev (.tail _ (.tail _ (.tail _ (.tail _ (.tail _ (.head _)))))), BigFrame.eval_const, asBool]) rfl (by decide) rfl hS ?_
    clear F; intro a F
    refine st_do F 66 71 (.bool true) (RD 66 (by decide) (by decide)) R.r66 (want_0 rfl) (by simp [execOp, F.ev (.head _)]) rfl (by decide) rfl hS ?_
    clear F; intro a F
    replace F := F.base (.head _) (fun x hx => .tail _ (.tail _ (.tail _ (.tail _ (.tail _ (.tail _ (.tail _ (.tail _ (hx)))))))))
    exact T67 a W F hS hF
  have T53 : ∀ (a : Act) (W : World), KD a 201 ((57, .bool true) :: [(0, pkV p s), (1, .pointer (some ⟨w.heap.size, 0, none⟩)), (2, .bool false)]) → RS p s w W → rc1 p = false → wpAnyH Try.prog .any ops Q (RS p s w) 19 (Lst 72 53) a W := by
    intro a W F hS hF
    refine st_skip F 53 58 (RD 53 (by decide) (by decide)) R.r53 (want_y rfl (F.yl R.r52 rfl (.head _)) false rfl) rfl (by decide) rfl hS ?_
    clear F; intro a F
    refine st_skip F 54 59 (RD 54 (by decide) (by decide)) R.r54 (want_y rfl (F.yl R.r52 rfl (.tail _ (.head _))) false rfl) rfl (by decide) rfl hS ?_
    clear F; intro a F
    refine st_skip F 55 60 (RD 55 (by decide) (by decide)) R.r55 (want_y rfl (F.yl R.r52 rfl (.tail _ (.tail _ (.head _)))) false rfl) rfl (by decide) rfl hS ?_
    clear F; intro a F
    refine st_skip F 56 61 (RD 56 (by decide) (by decide)) R.r56 (want_y rfl (F.yl R.r52 rfl (.tail _ (.tail _ (.tail _ (.head _))))) false rfl) rfl (by decide) rfl hS ?_
    clear F; intro a F
    refine st_skip F 57 62 (RD 57 (by decide) (by decide)) R.r57 (want_y rfl (F.yl R.r52 rfl (.tail _ (.tail _ (.tail _ (.tail _ (.head _)))))) false rfl) rfl (by decide) rfl hS ?_
    clear F; intro a F
    refine st_do F 58 63 (.bool true) (RD 58 (by decide) (by decide)) R.r58 (want_0 rfl) (by simp [execOp, F.ev (.tail _ (.tail _ (.tail _ (.tail _ (.tail _ (.head _)))))), BigFrame.eval_const, asBool]) rfl (by decide) rfl hS ?_
    clear F; intro a F
    refine st_do F 59 64 (.bool true) (RD 59 (by decide) (by decide)) R.r59 (want_0 rfl) (by simp [execOp, F.ev (.head _)]) rfl (by decide) rfl hS ?_
    clear F; intro a F
    replace F := F.base (.head _) (fun x hx => .tail _ (.tail _ (.tail _ (.tail _ (.tail _ (.tail _ (.tail _ (.tail _ (hx)))))))))
    exact T60 a W F hS hF
  have T46 : ∀ (a : Act) (W : World), KD a 201 ((50, .bool true) :: [(0, pkV p s), (1, .pointer (some ⟨w.heap.size, 0, none⟩)), (2, .bool false)]) → RS p s w W → rc1 p = false → wpAnyH Try.prog .any ops Q (RS p s w) 26 (Lst 72 46) a W := by
    intro a W F hS hF
    refine st_skip F 46 51 (RD 46 (by decide) (by decide)) R.r46 (want_y rfl (F.yl R.r45 rfl (.head _)) false rfl) rfl (by decide) rfl hS ?_
    clear F; intro a F
    refine st_skip F 47 52 (RD 47 (by decide) (by decide)) R.r47 (want_y rfl (F.yl R.r45 rfl (.tail _ (.head _))) false rfl) rfl (by decide) rfl hS ?_
    clear F; intro a F
    refine st_skip F 48 53 (RD 48 (by decide) (by decide)) R.r48 (want_y rfl (F.yl R.r45 rfl (.tail _ (.tail _ (.head _)))) false rfl) rfl (by decide) rfl hS ?_
    clear F; intro a F
    refine st_skip F 49 54 (RD 49 (by decide) (by decide)) R.r49 (want_y rfl (F.yl R.r45 rfl (.tail _ (.tail _ (.tail _ (.head _))))) false rfl) rfl (by decide) rfl hS ?_
    clear F; intro a F
    refine st_skip F 50 55 (RD 50 (by decide) (by decide)) R.r50 (want_y rfl (F.yl R.r45 rfl (.tail _ (.tail _ (.tail _ (.tail _ (.head _)))))) false rfl) rfl (by decide) rfl hS ?_
    clear F; intro a F
    refine st_do F 51 56 (.bool true) (RD 51 (by decide) (by decide)) R.r51 (want_0 rfl) (by simp [execOp, F.ev (.tail _ (.tail _ (.tail _ (.tail _ (.tail _ (.head _)))))), BigFrame.eval_const, asBool]) rfl (by decide) rfl hS ?_
    clear F; intro a F
    refine st_do F 52 57 (.bool true) (RD 52 (by decide) (by decide)) R.r52 (want_0 rfl) (by simp [execOp, F.ev (.head _)]) rfl (by decide) rfl hS ?_
    clear F; intro a F
    replace F := F.base (.head _) (fun x hx => .tail _ (.tail _ (.tail _ (.tail _ (.tail _ (.tail _ (.tail _ (.tail _ (hx)))))))))
    exact T53 a W F hS hF
  have T40 : ∀ (a : Act) (W : World), KD a 201 ((44, .bool true) :: [(0, pkV p s), (1, .pointer (some ⟨w.heap.size, 0, none⟩)), (2, .bool false)]) → RS p s w W → rc1 p = false → wpAnyH Try.prog .any ops Q (RS p s w) 32 (Lst 72 40) a W := by
    intro a W F hS hF
    refine st_skip F 40 45 (RD 40 (by decide) (by decide)) R.r40 (want_y rfl (F.yl R.r39 rfl (.head _)) false rfl) rfl (by decide) rfl hS ?_
    clear F; intro a F
    refine st_skip F 41 46 (RD 41 (by decide) (by decide)) R.r41 (want_y rfl (F.yl R.r39 rfl (.tail _ (.head _))) false rfl) rfl (by decide) rfl hS ?_
    clear F; intro a F
    refine st_skip F 42 47 (RD 42 (by decide) (by decide)) R.r42 (want_y rfl (F.yl R.r39 rfl (.tail _ (.tail _ (.head _)))) false rfl) rfl (by decide) rfl hS ?_
    clear F; intro a F
    refine st_skip F 43 48 (RD 43 (by decide) (by decide)) R.r43 (want_y rfl (F.yl R.r39 rfl (.tail _ (.tail _ (.tail _ (.head _))))) false rfl) rfl (by decide) rfl hS ?_
    clear F; intro a F
    refine st_do F 44 49 (.bool true) (RD 44 (by decide) (by decide)) R.r44 (want_0 rfl) (by simp [execOp, F.ev (.tail _ (.tail _ (.tail _ (.tail _ (.head _))))), BigFrame.eval_const, asBool]) rfl (by decide) rfl hS ?_
    clear F; intro a F
    refine st_do F 45 50 (.bool true) (RD 45 (by decide) (by decide)) R.r45 (want_0 rfl) (by simp [execOp, F.ev (.head _)]) rfl (by decide) rfl hS ?_
    clear F; intro a F
    replace F := F.base (.head _) (fun x hx => .tail _ (.tail _ (.tail _ (.tail _ (.tail _ (.tail _ (.tail _ (hx))))))))
    exact T46 a W F hS hF
  have T34 : ∀ (a : Act) (W : World), KD a 201 ((38, .bool true) :: [(0, pkV p s), (1, .pointer (some ⟨w.heap.size, 0, none⟩)), (2, .bool false)]) → RS p s w W → rc1 p = false → wpAnyH Try.prog .any ops Q (RS p s w) 38 (Lst 72 34) a W := by
    intro a W F hS hF
    refine st_skip F 34 39 (RD 34 (by decide) (by decide)) R.r34 (want_y rfl (F.yl R.r33 rfl (.head _)) false rfl) rfl (by decide) rfl hS ?_
    clear F; intro a F
    refine st_skip F 35 40 (RD 35 (by decide) (by decide)) R.r35 (want_y rfl (F.yl R.r33 rfl (.tail _ (.head _))) false rfl) rfl (by decide) rfl hS ?_
    clear F; intro a F
    refine st_skip F 36 41 (RD 36 (by decide) (by decide)) R.r36 (want_y rfl (F.yl R.r33 rfl (.tail _ (.tail _ (.head _)))) false rfl) rfl (by decide) rfl hS ?_
    clear F; intro a F
    refine st_skip F 37 42 (RD 37 (by decide) (by decide)) R.r37 (want_y rfl (F.yl R.r33 rfl (.tail _ (.tail _ (.tail _ (.head _))))) false rfl) rfl (by decide) rfl hS ?_
    clear F; intro a F
    refine st_do F 38 43 (.bool true) (RD 38 (by decide) (by decide)) R.r38 (want_0 rfl) (by simp [execOp, F.ev (.tail _ (.tail _ (.tail _ (.tail _ (.head _))))), BigFrame.eval_const, asBool]) rfl (by decide) rfl hS ?_
    clear F; intro a F
    refine st_do F 39 44 (.bool true) (RD 39 (by decide) (by decide)) R.r39 (want_0 rfl) (by simp [execOp, F.ev (.head _)]) rfl (by decide) rfl hS ?_
    clear F; intro a F
    replace F := F.base (.head _) (fun x hx => .tail _ (.tail _ (.tail _ (.tail _ (.tail _ (.tail _ (.tail _ (hx))))))))
    exact T40 a W F hS hF
  have T28 : ∀ (a : Act) (W : World), KD a 201 ((32, .bool true) :: [(0, pkV p s), (1, .pointer (some ⟨w.heap.size, 0, none⟩)), (2, .bool false)]) → RS p s w W → rc1 p = false → wpAnyH Try.prog .any ops Q (RS p s w) 44 (Lst 72 28) a W := by
    intro a W F hS hF
    refine st_skip F 28 33 (RD 28 (by decide) (by decide)) R.r28 (want_y rfl (F.yl R.r27 rfl (.head _)) false rfl) rfl (by decide) rfl hS ?_
    clear F; intro a F
    refine st_skip F 29 34 (RD 29 (by decide) (by decide)) R.r29 (want_y rfl (F.yl R.r27 rfl (.tail _ (.head _))) false rfl) rfl (by decide) rfl hS ?_
    clear F; intro a F
    refine st_skip F 30 35 (RD 30 (by decide) (by decide)) R.r30 (want_y rfl (F.yl R.r27 rfl (.tail _ (.tail _ (.head _)))) false rfl) rfl (by decide) rfl hS ?_
    clear F; intro a F
    refine st_skip F 31 36 (RD 31 (by decide) (by decide)) R.r31 (want_y rfl (F.yl R.r27 rfl (.tail _ (.tail _ (.tail _ (.head _))))) false rfl) rfl (by decide) rfl hS ?_
    clear F; intro a F
    refine st_do F 32 37 (.bool true) (RD 32 (by decide) (by decide)) R.r32 (want_0 rfl) (by simp [execOp, F.ev (.tail _ (.tail _ (.tail _ (.tail _ (.head _))))), BigFrame.eval_const, asBool]) rfl (by decide) rfl hS ?_
    clear F; intro a F
    refine st_do F 33 38 (.bool true) (RD 33 (by decide) (by decide)) R.r33 (want_0 rfl) (by simp [execOp, F.ev (.head _)]) rfl (by decide) rfl hS ?_
    clear F; intro a F
    replace F := F.base (.head _) (fun x hx => .tail _ (.tail _ (.tail _ (.tail _ (.tail _ (.tail _ (.tail _ (hx))))))))
    exact T34 a W F hS hF
  have T22 : ∀ (a : Act) (W : World), KD a 201 ((26, .bool true) :: [(0, pkV p s), (1, .pointer (some ⟨w.heap.size, 0, none⟩)), (2, .bool false)]) → RS p s w W → rc1 p = false → wpAnyH Try.prog .any ops Q (RS p s w) 50 (Lst 72 22) a W := by
    intro a W F hS hF
    refine st_skip F 22 27 (RD 22 (by decide) (by decide)) R.r22 (want_y rfl (F.yl R.r21 rfl (.head _)) false rfl) rfl (by decide) rfl hS ?_
    clear F; intro a F
    refine st_skip F 23 28 (RD 23 (by decide) (by decide)) R.r23 (want_y rfl (F.yl R.r21 rfl (.tail _ (.head _))) false rfl) rfl (by decide) rfl hS ?_
    clear F; intro a F
    refine st_skip F 24 29 (RD 24 (by decide) (by decide)) R.r24 (want_y rfl (F.yl R.r21 rfl (.tail _ (.tail _ (.head _)))) false rfl) rfl (by decide) rfl hS ?_
    clear F; intro a F
    refine st_skip F 25 30 (RD 25 (by decide) (by decide)) R.r25 (want_y rfl (F.yl R.r21 rfl (.tail _ (.tail _ (.tail _ (.head _))))) false rfl) rfl (by decide) rfl hS ?_
    clear F; intro a F
    refine st_do F 26 31 (.bool true) (RD 26 (by decide) (by decide)) R.r26 (want_0 rfl) (by simp [execOp, F.ev (.tail _ (.tail _ (.tail _ (.tail _ (.head _))))), BigFrame.eval_const, asBool]) rfl (by decide) rfl hS ?_
    clear F; intro a F
    refine st_do F 27 32 (.bool true) (RD 27 (by decide) (by decide)) R.r27 (want_0 rfl) (by simp [execOp, F.ev (.head _)]) rfl (by decide) rfl hS ?_
    clear F; intro a F
    replace F := F.base (.head _) (fun x hx => .tail _ (.tail _ (.tail _ (.tail _ (.tail _ (.tail _ (.tail _ (hx))))))))
    exact T28 a W F hS hF
  have T12 : ∀ (a : Act) (W : World), KD a 201 ((16, .bool true) :: [(0, pkV p s), (1, .pointer (some ⟨w.heap.size, 0, none⟩)), (2, .bool false)]) → RS p s w W → rc1 p = false → wpAnyH Try.prog .any ops Q (RS p s w) 60 (Lst 72 12) a W := by
    intro a W F hS hF
    refine st_skip F 12 17 (RD 12 (by decide) (by decide)) R.r12 (want_y rfl (F.yl R.r11 rfl (.head _)) false rfl) rfl (by decide) rfl hS ?_
    clear F; intro a F
    refine st_skip F 13 18 (RD 13 (by decide) (by decide)) R.r13 (want_y rfl (F.yl R.r11 rfl (.tail _ (.head _))) false rfl) rfl (by decide) rfl hS ?_
    clear F; intro a F
    refine st_skip F 14 19 (RD 14 (by decide) (by decide)) R.r14 (want_y rfl (F.yl R.r11 rfl (.tail _ (.tail _ (.head _)))) false rfl) rfl (by decide) rfl hS ?_
    clear F; intro a F
    refine st_skip F 15 20 (RD 15 (by decide) (by decide)) R.r15 (want_z rfl (F.yn R.r14 rfl (.head _))) rfl (by decide) rfl hS ?_
    clear F; intro a F
    refine st_skip F 16 21 (RD 16 (by decide) (by decide)) R.r16 (want_z rfl (F.yn R.r14 rfl (.tail _ (.head _)))) rfl (by decide) rfl hS ?_
    clear F; intro a F
    refine st_skip F 17 22 (RD 17 (by decide) (by decide)) R.r17 (want_z rfl (F.yn R.r14 rfl (.tail _ (.tail _ (.head _))))) rfl (by decide) rfl hS ?_
    clear F; intro a F
    refine st_skip F 18 23 (RD 18 (by decide) (by decide)) R.r18 (want_z rfl (F.yn R.r14 rfl (.tail _ (.tail _ (.tail _ (.head _)))))) rfl (by decide) rfl hS ?_
    clear F; intro a F
    refine st_skip F 19 24 (RD 19 (by decide) (by decide)) R.r19 (want_y rfl (F.yl R.r11 rfl (.tail _ (.tail _ (.tail _ (.tail _ (.tail _ (.tail _ (.tail _ (.head _))))))))) false rfl) rfl (by decide) rfl hS ?_
    clear F; intro a F
    refine st_do F 20 25 (.bool true) (RD 20 (by decide) (by decide)) R.r20 (want_0 rfl) (by simp [execOp, F.ev (.tail _ (.tail _ (.tail _ (.tail _ (.tail _ (.tail _ (.tail _ (.tail _ (.head _))))))))), BigFrame.eval_const, asBool]) rfl (by decide) rfl hS ?_
    clear F; intro a F
    refine st_do F 21 26 (.bool true) (RD 21 (by decide) (by decide)) R.r21 (want_0 rfl) (by simp [execOp, F.ev (.head _)]) rfl (by decide) rfl hS ?_
    clear F; intro a F
    replace F := F.base (.head _) (fun x hx => .tail _ (.tail _ (.tail _ (.tail _ (.tail _ (.tail _ (.tail _ (.tail _ (.tail _ (.tail _ (.tail _ (hx))))))))))))
    exact T22 a W F hS hF
  have T5 : ∀ (a : Act) (W : World), KD a 201 ((9, .bool true) :: [(0, pkV p s), (1, .pointer (some ⟨w.heap.size, 0, none⟩)), (2, .bool false)]) → RS p s w W → rc1 p = false → wpAnyH Try.prog .any ops Q (RS p s w) 67 (Lst 72 5) a W := by
    intro a W F hS hF
    refine st_take F 5 10 undef R.r5 h5.1 h5.2.1 h5.2.2 hQ (.inr ⟨(want_y rfl (F.yl R.r4 rfl (.head _)) false rfl), rfl⟩) rfl (by decide) rfl hS ?_
    clear F; intro a F
    refine st_skip F 6 11 (RD 6 (by decide) (by decide)) R.r6 (want_y rfl (F.yl R.r4 rfl (.tail _ (.head _))) false rfl) rfl (by decide) rfl hS ?_
    clear F; intro a F
    refine st_skip F 7 12 (RD 7 (by decide) (by decide)) R.r7 (want_y rfl (F.yl R.r4 rfl (.tail _ (.tail _ (.head _)))) false rfl) rfl (by decide) rfl hS ?_
    clear F; intro a F
    refine st_skip F 8 13 (RD 8 (by decide) (by decide)) R.r8 (want_y rfl (F.yl R.r4 rfl (.tail _ (.tail _ (.tail _ (.head _))))) false rfl) rfl (by decide) rfl hS ?_
    clear F; intro a F
    refine st_skip F 9 14 (RD 9 (by decide) (by decide)) R.r9 (want_y rfl (F.yl R.r4 rfl (.tail _ (.tail _ (.tail _ (.tail _ (.head _)))))) false rfl) rfl (by decide) rfl hS ?_
    clear F; intro a F
    refine st_do F 10 15 (.bool true) (RD 10 (by decide) (by decide)) R.r10 (want_0 rfl) (by simp [execOp, F.ev (.tail _ (.tail _ (.tail _ (.tail _ (.tail _ (.head _)))))), BigFrame.eval_const, asBool]) rfl (by decide) rfl hS ?_
    clear F; intro a F
    refine st_do F 11 16 (.bool true) (RD 11 (by decide) (by decide)) R.r11 (want_0 rfl) (by simp [execOp, F.ev (.head _)]) rfl (by decide) rfl hS ?_
    clear F; intro a F
    replace F := F.base (.head _) (fun x hx => .tail _ (.tail _ (.tail _ (.tail _ (.tail _ (.tail _ (.tail _ (.tail _ (hx)))))))))
    exact T12 a W F hS hF
  have P67 : ∀ (a : Act) (W : World), KD a 201 ((71, .bool false) :: [(0, pkV p s), (1, .pointer (some ⟨w.heap.size, 0, none⟩)), (2, .bool false)]) → RS p s w W → rc1 p = (decide (p.pass.length ≤ 65535) && true) → wpAnyH Try.prog .any ops Q (RS p s w) 5 (Lst 72 67) a W := by
    intro a W F hS hR
    refine st_do F 67 72 (.pointer (some ⟨w.heap.size, 19, none⟩)) (RD 67 (by decide) (by decide)) R.r67 (want_y rfl (F.yl R.r66 rfl (.head _)) true rfl) (by simp [execOp, go_sem, F.raw (.tail _ (.tail _ (.head _)))]) rfl (by decide) rfl hS ?_
    clear F; intro a F
    refine st_do F 68 73 (.slice s.uA p.pass.length s.uC) (RD 68 (by decide) (by decide)) R.r68 (want_y rfl (F.yl R.r66 rfl (.tail _ (.head _))) true rfl) (by simp [execOp, go_sem, F.raw (.head _), row_cells hS.1]) rfl (by decide) rfl hS ?_
    clear F; intro a F
    refine st_do F 69 74 (.int .i64 (p.pass.length : Nat)) (RD 69 (by decide) (by decide)) R.r69 (want_y rfl (F.yl R.r66 rfl (.tail _ (.tail _ (.head _)))) true rfl) (by simp [go_sem, F.raw (.head _)]) rfl (by decide) rfl hS ?_
    clear F; intro a F
    rcases dc : decide (p.pass.length ≤ 65535) with _ | _
    · rw [dc] at hR
      simp at dc
      refine st_do F 70 75 (.bool true) (RD 70 (by decide) (by decide)) R.r70 (want_y rfl (F.yl R.r66 rfl (.tail _ (.tail _ (.tail _ (.head _))))) true rfl) (by simp [execOp, go_sem, F.raw (.head _)]; omega) rfl (by decide) rfl hS ?_
      clear F; intro a F
      refine st_do F 71 76 (.bool true) (RD 71 (by decide) (by decide)) R.r71 (want_0 rfl) (by simp [execOp, F.ev (.tail _ (.tail _ (.tail _ (.tail _ (.head _))))), F.ev (.head _), asBool]) rfl (by decide) rfl hS ?_
      clear F; intro a F
      replace F := F.base (.head _) (fun x hx => .tail _ (.tail _ (.tail _ (.tail _ (.tail _ (.tail _ (hx)))))))
      refine wpAnyH_done RE ?_ _
      refine K a W ?_ hS
      rw [show rc1 p = false by rw [hR]; rfl]; exact F
    · rw [dc] at hR
      simp at dc
      refine st_do F 70 75 (.bool false) (RD 70 (by decide) (by decide)) R.r70 (want_y rfl (F.yl R.r66 rfl (.tail _ (.tail _ (.tail _ (.head _))))) true rfl) (by simp [execOp, go_sem, F.raw (.head _)]; omega) rfl (by decide) rfl hS ?_
      clear F; intro a F
      refine st_do F 71 76 (.bool false) (RD 71 (by decide) (by decide)) R.r71 (want_0 rfl) (by simp [execOp, F.ev (.tail _ (.tail _ (.tail _ (.tail _ (.head _))))), F.ev (.head _), asBool]) rfl (by decide) rfl hS ?_
      clear F; intro a F
      replace F := F.base (.head _) (fun x hx => .tail _ (.tail _ (.tail _ (.tail _ (.tail _ (.tail _ (hx)))))))
      refine wpAnyH_done RE ?_ _
      refine K a W ?_ hS
      rw [show rc1 p = true by rw [hR]; rfl]; exact F
  have P60 : ∀ (a : Act) (W : World), KD a 201 ((64, .bool false) :: [(0, pkV p s), (1, .pointer (some ⟨w.heap.size, 0, none⟩)), (2, .bool false)]) → RS p s w W → rc1 p = (decide (p.wpay.length ≤ 65535) && (decide (p.pass.length ≤ 65535) && true)) → wpAnyH Try.prog .any ops Q (RS p s w) 12 (Lst 72 60) a W := by
    intro a W F hS hR
    refine st_do F 60 65 (.pointer (some ⟨w.heap.size, 12, none⟩)) (RD 60 (by decide) (by decide)) R.r60 (want_y rfl (F.yl R.r59 rfl (.head _)) true rfl) (by simp [execOp, go_sem, F.raw (.tail _ (.tail _ (.head _)))]) rfl (by decide) rfl hS ?_
    clear F; intro a F
    refine st_do F 61 66 (.pointer (some ⟨w.heap.size, 13, none⟩)) (RD 61 (by decide) (by decide)) R.r61 (want_y rfl (F.yl R.r59 rfl (.tail _ (.head _))) true rfl) (by simp [execOp, go_sem, F.raw (.head _)]) rfl (by decide) rfl hS ?_
    clear F; intro a F
    refine st_do F 62 67 (.slice s.wA p.wpay.length s.wC) (RD 62 (by decide) (by decide)) R.r62 (want_y rfl (F.yl R.r59 rfl (.tail _ (.tail _ (.head _)))) true rfl) (by simp [execOp, go_sem, F.raw (.head _), row_cells hS.1]) rfl (by decide) rfl hS ?_
    clear F; intro a F
    refine st_do F 63 68 (.int .i64 (p.wpay.length : Nat)) (RD 63 (by decide) (by decide)) R.r63 (want_y rfl (F.yl R.r59 rfl (.tail _ (.tail _ (.tail _ (.head _))))) true rfl) (by simp [go_sem, F.raw (.head _)]) rfl (by decide) rfl hS ?_
    clear F; intro a F
    rcases dc : decide (p.wpay.length ≤ 65535) with _ | _
    · rw [dc] at hR
      simp at dc
      refine st_do F 64 69 (.bool true) (RD 64 (by decide) (by decide)) R.r64 (want_y rfl (F.yl R.r59 rfl (.tail _ (.tail _ (.tail _ (.tail _ (.head _)))))) true rfl) (by simp [execOp, go_sem, F.raw (.head _)]; omega) rfl (by decide) rfl hS ?_
      clear F; intro a F
      refine st_do F 65 70 (.bool true) (RD 65 (by decide) (by decide)) R.r65 (want_0 rfl) (by simp [execOp, F.ev (.tail _ (.tail _ (.tail _ (.tail _ (.tail _ (.head _)))))), F.ev (.head _), asBool]) rfl (by decide) rfl hS ?_
      clear F; intro a F
      refine st_do F 66 71 (.bool true) (RD 66 (by decide) (by decide)) R.r66 (want_0 rfl) (by simp [execOp, F.ev (.head _)]) rfl (by decide) rfl hS ?_
      clear F; intro a F
      replace F := F.base (.head _) (fun x hx => .tail _ (.tail _ (.tail _ (.tail _ (.tail _ (.tail _ (.tail _ (.tail _ (hx)))))))))
      exact T67 a W F hS (by rw [hR]; rfl)
    · rw [dc] at hR
      simp at dc
      refine st_do F 64 69 (.bool false) (RD 64 (by decide) (by decide)) R.r64 (want_y rfl (F.yl R.r59 rfl (.tail _ (.tail _ (.tail _ (.tail _ (.head _)))))) true rfl) (by simp [execOp, go_sem, F.raw (.head _)]; omega) rfl (by decide) rfl hS ?_
      clear F; intro a F
      refine st_do F 65 70 (.bool false) (RD 65 (by decide) (by decide)) R.r65 (want_0 rfl) (by simp [execOp, F.ev (.tail _ (.tail _ (.tail _ (.tail _ (.tail _ (.head _)))))), F.ev (.head _), asBool]) rfl (by decide) rfl hS ?_
      clear F; intro a F
      refine st_do F 66 71 (.bool false) (RD 66 (by decide) (by decide)) R.r66 (want_0 rfl) (by simp [execOp, F.ev (.head _)]) rfl (by decide) rfl hS ?_
      clear F; intro a F
      replace F := F.base (.head _) (fun x hx => .tail _ (.tail _ (.tail _ (.tail _ (.tail _ (.tail _ (.tail _ (.tail _ (hx)))))))))
      exact P67 a W F hS (by rw [hR]; rfl)
  have P53 : ∀ (a : Act) (W : World), KD a 201 ((57, .bool false) :: [(0, pkV p s), (1, .pointer (some ⟨w.heap.size, 0, none⟩)), (2, .bool false)]) → RS p s w W → rc1 p = (inI p.wqos 0 2 && (decide (p.wpay.length ≤ 65535) && (decide (p.pass.length ≤ 65535) && true))) → wpAnyH Try.prog .any ops Q (RS p s w) 19 (Lst 72 53) a W := by
    intro a W F hS hR
    refine st_do F 53 58 (.pointer (some ⟨w.heap.size, 12, none⟩)) (RD 53 (by decide) (by decide)) R.r53 (want_y rfl (F.yl R.r52 rfl (.head _)) true rfl) (by simp [execOp, go_sem, F.raw (.tail _ (.tail _ (.head _)))]) rfl (by decide) rfl hS ?_
    clear F; intro a F
    refine st_do F 54 59 (.pointer (some ⟨w.heap.size, 14, none⟩)) (RD 54 (by decide) (by decide)) R.r54 (want_y rfl (F.yl R.r52 rfl (.tail _ (.head _))) true rfl) (by simp [execOp, go_sem, F.raw (.head _)]) rfl (by decide) rfl hS ?_
    clear F; intro a F
    refine st_do F 55 60 (.int .i64 p.wqos) (RD 55 (by decide) (by decide)) R.r55 (want_y rfl (F.yl R.r52 rfl (.tail _ (.tail _ (.head _)))) true rfl) (by simp [execOp, go_sem, F.raw (.head _), row_cells hS.1]) rfl (by decide) rfl hS ?_
    clear F; intro a F
    rcases dc : inI p.wqos 0 2 with _ | _
    · rw [dc] at hR
      refine st_call F 56 61 (.bool false) (RD 56 (by decide) (by decide)) R.r56 (want_y rfl (F.yl R.r52 rfl (.tail _ (.tail _ (.tail _ (.head _))))) true rfl) (by rfl) (args' := #[.int .i64 p.wqos, .int .i64 0, .int .i64 2]) (by simp [F.ev (.head _), BigFrame.eval_const]) rfl (by decide) rfl ((rin_any (p.wqos) 0 2 _).mono (by rintro e w' ⟨rfl, rfl⟩; exact ⟨by rw [dc], hS⟩)) ?_
      clear F hS; intro a W F hS
      refine st_do F 57 62 (.bool true) (RD 57 (by decide) (by decide)) R.r57 (want_y rfl (F.yl R.r52 rfl (.tail _ (.tail _ (.tail _ (.tail _ (.head _)))))) true rfl) (by simp [execOp, go_sem, F.raw (.head _)]) rfl (by decide) rfl hS ?_
      clear F; intro a F
      refine st_do F 58 63 (.bool true) (RD 58 (by decide) (by decide)) R.r58 (want_0 rfl) (by simp [execOp, F.ev (.tail _ (.tail _ (.tail _ (.tail _ (.tail _ (.head _)))))), F.ev (.head _), asBool]) rfl (by decide) rfl hS ?_
      clear F; intro a F
      refine st_do F 59 64 (.bool true) (RD 59 (by decide) (by decide)) R.r59 (want_0 rfl) (by simp [execOp, F.ev (.head _)]) rfl (by decide) rfl hS ?_
      clear F; intro a F
      replace F := F.base (.head _) (fun x hx => .tail _ (.tail _ (.tail _ (.tail _ (.tail _ (.tail _ (.tail _ (.tail _ (hx)))))))))
      exact T60 a W F hS (by rw [hR]; rfl)
    · rw [dc] at hR
      refine st_call F 56 61 (.bool true) (RD 56 (by decide) (by decide)) R.r56 (want_y rfl (F.yl R.r52 rfl (.tail _ (.tail _ (.tail _ (.head _))))) true rfl) (by rfl) (args' := #[.int .i64 p.wqos, .int .i64 0, .int .i64 2]) (by simp [F.ev (.head _), BigFrame.eval_const]) rfl (by decide) rfl ((rin_any (p.wqos) 0 2 _).mono (by rintro e w' ⟨rfl, rfl⟩; exact ⟨by rw [dc], hS⟩)) ?_
      clear F hS; intro a W F hS
      refine st_do F 57 62 (.bool false) (RD 57 (by decide) (by decide)) R.r57 (want_y rfl (F.yl R.r52 rfl (.tail _ (.tail _ (.tail _ (.tail _ (.head _)))))) true rfl) (by simp [execOp, go_sem, F.raw (.head _)]) rfl (by decide) rfl hS ?_
      clear F; intro a F
      refine st_do F 58 63 (.bool false) (RD 58 (by decide) (by decide)) R.r58 (want_0 rfl) (by simp [execOp, F.ev (.tail _ (.tail _ (.tail _ (.tail _ (.tail _ (.head _)))))), F.ev (.head _), asBool]) rfl (by decide) rfl hS ?_
      clear F; intro a F
      refine st_do F 59 64 (.bool false) (RD 59 (by decide) (by decide)) R.r59 (want_0 rfl) (by simp [execOp, F.ev (.head _)]) rfl (by decide) rfl hS ?_
      clear F; intro a F
      replace F := F.base (.head _) (fun x hx => .tail _ (.tail _ (.tail _ (.tail _ (.tail _ (.tail _ (.tail _ (.tail _ (hx)))))))))
      exact P60 a W F hS (by rw [hR]; rfl)
  have P46 : ∀ (a : Act) (W : World), KD a 201 ((50, .bool false) :: [(0, pkV p s), (1, .pointer (some ⟨w.heap.size, 0, none⟩)), (2, .bool false)]) → RS p s w W → rc1 p = (rtxt p.wtop && (inI p.wqos 0 2 && (decide (p.wpay.length ≤ 65535) && (decide (p.pass.length ≤ 65535) && true)))) → wpAnyH Try.prog .any ops Q (RS p s w) 26 (Lst 72 46) a W := by
    intro a W F hS hR
    refine st_do F 46 51 (.pointer (some ⟨w.heap.size, 12, none⟩)) (RD 46 (by decide) (by decide)) R.r46 (want_y rfl (F.yl R.r45 rfl (.head _)) true rfl) (by simp [execOp, go_sem, F.raw (.tail _ (.tail _ (.head _)))]) rfl (by decide) rfl hS ?_
    clear F; intro a F
    refine st_do F 47 52 (.pointer (some ⟨w.heap.size, 12, none⟩)) (RD 47 (by decide) (by decide)) R.r47 (want_y rfl (F.yl R.r45 rfl (.tail _ (.head _))) true rfl) (by simp [execOp, go_sem, F.raw (.head _)]) rfl (by decide) rfl hS ?_
    clear F; intro a F
    refine st_do F 48 53 (.string p.wtop) (RD 48 (by decide) (by decide)) R.r48 (want_y rfl (F.yl R.r45 rfl (.tail _ (.tail _ (.head _)))) true rfl) (by simp [execOp, go_sem, F.raw (.head _), row_cells hS.1]) rfl (by decide) rfl hS ?_
    clear F; intro a F
    rcases dc : rtxt p.wtop with _ | _
    · rw [dc] at hR
      refine st_call F 49 54 (.bool false) (RD 49 (by decide) (by decide)) R.r49 (want_y rfl (F.yl R.r45 rfl (.tail _ (.tail _ (.tail _ (.head _))))) true rfl) (by rfl) (args' := #[.string p.wtop]) (by simp [F.ev (.head _)]) rfl (by decide) rfl ((rtext_any (p.wtop) _ OK.out.wtop).mono (by rintro e w' ⟨rfl, hb⟩; exact ⟨by rw [dc], ⟨heap_below hb hS.1, thn hS.2 hb⟩⟩)) ?_
      clear F hS; intro a W F hS
      refine st_do F 50 55 (.bool true) (RD 50 (by decide) (by decide)) R.r50 (want_y rfl (F.yl R.r45 rfl (.tail _ (.tail _ (.tail _ (.tail _ (.head _)))))) true rfl) (by simp [execOp, go_sem, F.raw (.head _)]) rfl (by decide) rfl hS ?_
      clear F; intro a F
      refine st_do F 51 56 (.bool true) (RD 51 (by decide) (by decide)) R.r51 (want_0 rfl) (by simp [execOp, F.ev (.tail _ (.tail _ (.tail _ (.tail _ (.tail _ (.head _)))))), F.ev (.head _), asBool]) rfl (by decide) rfl hS ?_
      clear F; intro a F
      refine st_do F 52 57 (.bool true) (RD 52 (by decide) (by decide)) R.r52 (want_0 rfl) (by simp [execOp, F.ev (.head _)]) rfl (by decide) rfl hS ?_
      clear F; intro a F
      replace F := F.base (.head _) (fun x hx => .tail _ (.tail _ (.tail _ (.tail _ (.tail _ (.tail _ (.tail _ (.tail _ (hx)))))))))
      exact T53 a W F hS (by rw [hR]; rfl)
    · rw [dc] at hR
      refine st_call F 49 54 (.bool true) (RD 49 (by decide) (by decide)) R.r49 (want_y rfl (F.yl R.r45 rfl (.tail _ (.tail _ (.tail _ (.head _))))) true rfl) (by rfl) (args' := #[.string p.wtop]) (by simp [F.ev (.head _)]) rfl (by decide) rfl ((rtext_any (p.wtop) _ OK.out.wtop).mono (by rintro e w' ⟨rfl, hb⟩; exact ⟨by rw [dc], ⟨heap_below hb hS.1, thn hS.2 hb⟩⟩)) ?_
      clear F hS; intro a W F hS
      refine st_do F 50 55 (.bool false) (RD 50 (by decide) (by decide)) R.r50 (want_y rfl (F.yl R.r45 rfl (.tail _ (.tail _ (.tail _ (.tail _ (.head _)))))) true rfl) (by simp [execOp, go_sem, F.raw (.head _)]) rfl (by decide) rfl hS ?_
      clear F; intro a F
      refine st_do F 51 56 (.bool false) (RD 51 (by decide) (by decide)) R.r51 (want_0 rfl) (by simp [execOp, F.ev (.tail _ (.tail _ (.tail _ (.tail _ (.tail _ (.head _)))))), F.ev (.head _), asBool]) rfl (by decide) rfl hS ?_
      clear F; intro a F
      refine st_do F 52 57 (.bool false) (RD 52 (by decide) (by decide)) R.r52 (want_0 rfl) (by simp [execOp, F.ev (.head _)]) rfl (by decide) rfl hS ?_
      clear F; intro a F
      replace F := F.base (.head _) (fun x hx => .tail _ (.tail _ (.tail _ (.tail _ (.tail _ (.tail _ (.tail _ (.tail _ (hx)))))))))
      exact P53 a W F hS (by rw [hR]; rfl)
  have P40 : ∀ (a : Act) (W : World), KD a 201 ((44, .bool false) :: [(0, pkV p s), (1, .pointer (some ⟨w.heap.size, 0, none⟩)), (2, .bool false)]) → RS p s w W → rc1 p = (rtxt p.user && (rtxt p.wtop && (inI p.wqos 0 2 && (decide (p.wpay.length ≤ 65535) && (decide (p.pass.length ≤ 65535) && true))))) → wpAnyH Try.prog .any ops Q (RS p s w) 32 (Lst 72 40) a W := by
    intro a W F hS hR
    refine st_do F 40 45 (.pointer (some ⟨w.heap.size, 18, none⟩)) (RD 40 (by decide) (by decide)) R.r40 (want_y rfl (F.yl R.r39 rfl (.head _)) true rfl) (by simp [execOp, go_sem, F.raw (.tail _ (.tail _ (.head _)))]) rfl (by decide) rfl hS ?_
    clear F; intro a F
    refine st_do F 41 46 (.string p.user) (RD 41 (by decide) (by decide)) R.r41 (want_y rfl (F.yl R.r39 rfl (.tail _ (.head _))) true rfl) (by simp [execOp, go_sem, F.raw (.head _), row_cells hS.1]) rfl (by decide) rfl hS ?_
    clear F; intro a F
    rcases dc : rtxt p.user with _ | _
    · rw [dc] at hR
      refine st_call F 42 47 (.bool false) (RD 42 (by decide) (by decide)) R.r42 (want_y rfl (F.yl R.r39 rfl (.tail _ (.tail _ (.head _)))) true rfl) (by rfl) (args' := #[.string p.user]) (by simp [F.ev (.head _)]) rfl (by decide) rfl ((rtext_any (p.user) _ OK.out.user).mono (by rintro e w' ⟨rfl, hb⟩; exact ⟨by rw [dc], ⟨heap_below hb hS.1, thn hS.2 hb⟩⟩)) ?_
      clear F hS; intro a W F hS
      refine st_do F 43 48 (.bool true) (RD 43 (by decide) (by decide)) R.r43 (want_y rfl (F.yl R.r39 rfl (.tail _ (.tail _ (.tail _ (.head _))))) true rfl) (by simp [execOp, go_sem, F.raw (.head _)]) rfl (by decide) rfl hS ?_
      clear F; intro a F
      refine st_do F 44 49 (.bool true) (RD 44 (by decide) (by decide)) R.r44 (want_0 rfl) (by simp [execOp, F.ev (.tail _ (.tail _ (.tail _ (.tail _ (.head _))))), F.ev (.head _), asBool]) rfl (by decide) rfl hS ?_
      clear F; intro a F
      refine st_do F 45 50 (.bool true) (RD 45 (by decide) (by decide)) R.r45 (want_0 rfl) (by simp [execOp, F.ev (.head _)]) rfl (by decide) rfl hS ?_
      clear F; intro a F
      replace F := F.base (.head _) (fun x hx => .tail _ (.tail _ (.tail _ (.tail _ (.tail _ (.tail _ (.tail _ (hx))))))))
      exact T46 a W F hS (by rw [hR]; rfl)
    · rw [dc] at hR
      refine st_call F 42 47 (.bool true) (RD 42 (by decide) (by decide)) R.r42 (want_y rfl (F.yl R.r39 rfl (.tail _ (.tail _ (.head _)))) true rfl) (by rfl) (args' := #[.string p.user]) (by simp [F.ev (.head _)]) rfl (by decide) rfl ((rtext_any (p.user) _ OK.out.user).mono (by rintro e w' ⟨rfl, hb⟩; exact ⟨by rw [dc], ⟨heap_below hb hS.1, thn hS.2 hb⟩⟩)) ?_
      clear F hS; intro a W F hS
      refine st_do F 43 48 (.bool false) (RD 43 (by decide) (by decide)) R.r43 (want_y rfl (F.yl R.r39 rfl (.tail _ (.tail _ (.tail _ (.head _))))) true rfl) (by simp [execOp, go_sem, F.raw (.head _)]) rfl (by decide) rfl hS ?_
      clear F; intro a F
      refine st_do F 44 49 (.bool false) (RD 44 (by decide) (by decide)) R.r44 (want_0 rfl) (by simp [execOp, F.ev (.tail _ (.tail _ (.tail _ (.tail _ (.head _))))), F.ev (.head _), asBool]) rfl (by decide) rfl hS ?_
      clear F; intro a F
      refine st_do F 45 50 (.bool false) (RD 45 (by decide) (by decide)) R.r45 (want_0 rfl) (by simp [execOp, F.ev (.head _)]) rfl (by decide) rfl hS ?_
      clear F; intro a F
      replace F := F.base (.head _) (fun x hx => .tail _ (.tail _ (.tail _ (.tail _ (.tail _ (.tail _ (.tail _ (hx))))))))
      exact P46 a W F hS (by rw [hR]; rfl)
  have P34 : ∀ (a : Act) (W : World), KD a 201 ((38, .bool false) :: [(0, pkV p s), (1, .pointer (some ⟨w.heap.size, 0, none⟩)), (2, .bool false)]) → RS p s w W → rc1 p = (rtxt p.cli && (rtxt p.user && (rtxt p.wtop && (inI p.wqos 0 2 && (decide (p.wpay.length ≤ 65535) && (decide (p.pass.length ≤ 65535) && true)))))) → wpAnyH Try.prog .any ops Q (RS p s w) 38 (Lst 72 34) a W := by
    intro a W F hS hR
    refine st_do F 34 39 (.pointer (some ⟨w.heap.size, 8, none⟩)) (RD 34 (by decide) (by decide)) R.r34 (want_y rfl (F.yl R.r33 rfl (.head _)) true rfl) (by simp [execOp, go_sem, F.raw (.tail _ (.tail _ (.head _)))]) rfl (by decide) rfl hS ?_
    clear F; intro a F
    refine st_do F 35 40 (.string p.cli) (RD 35 (by decide) (by decide)) R.r35 (want_y rfl (F.yl R.r33 rfl (.tail _ (.head _))) true rfl) (by simp [execOp, go_sem, F.raw (.head _), row_cells hS.1]) rfl (by decide) rfl hS ?_
    clear F; intro a F
    rcases dc : rtxt p.cli with _ | _
    · rw [dc] at hR
      refine st_call F 36 41 (.bool false) (RD 36 (by decide) (by decide)) R.r36 (want_y rfl (F.yl R.r33 rfl (.tail _ (.tail _ (.head _)))) true rfl) (by rfl) (args' := #[.string p.cli]) (by simp [F.ev (.head _)]) rfl (by decide) rfl ((rtext_any (p.cli) _ OK.out.cli).mono (by rintro e w' ⟨rfl, hb⟩; exact ⟨by rw [dc], ⟨heap_below hb hS.1, thn hS.2 hb⟩⟩)) ?_
      clear F hS; intro a W F hS
      refine st_do F 37 42 (.bool true) (RD 37 (by decide) (by decide)) R.r37 (want_y rfl (F.yl R.r33 rfl (.tail _ (.tail _ (.tail _ (.head _))))) true rfl) (by simp [execOp, go_sem, F.raw (.head _)]) rfl (by decide) rfl hS ?_
      clear F; intro a F
      refine st_do F 38 43 (.bool true) (RD 38 (by decide) (by decide)) R.r38 (want_0 rfl) (by simp [execOp, F.ev (.tail _ (.tail _ (.tail _ (.tail _ (.head _))))), F.ev (.head _), asBool]) rfl (by decide) rfl hS ?_
      clear F; intro a F
      refine st_do F 39 44 (.bool true) (RD 39 (by decide) (by decide)) R.r39 (want_0 rfl) (by simp [execOp, F.ev (.head _)]) rfl (by decide) rfl hS ?_
      clear F; intro a F
      replace F := F.base (.head _) (fun x hx => .tail _ (.tail _ (.tail _ (.tail _ (.tail _ (.tail _ (.tail _ (hx))))))))
      exact T40 a W F hS (by rw [hR]; rfl)
    · rw [dc] at hR
      refine st_call F 36 41 (.bool true) (RD 36 (by decide) (by decide)) R.r36 (want_y rfl (F.yl R.r33 rfl (.tail _ (.tail _ (.head _)))) true rfl) (by rfl) (args' := #[.string p.cli]) (by simp [F.ev (.head _)]) rfl (by decide) rfl ((rtext_any (p.cli) _ OK.out.cli).mono (by rintro e w' ⟨rfl, hb⟩; exact ⟨by rw [dc], ⟨heap_below hb hS.1, thn hS.2 hb⟩⟩)) ?_
      clear F hS; intro a W F hS
      refine st_do F 37 42 (.bool false) (RD 37 (by decide) (by decide)) R.r37 (want_y rfl (F.yl R.r33 rfl (.tail _ (.tail _ (.tail _ (.head _))))) true rfl) (by simp [execOp, go_sem, F.raw (.head _)]) rfl (by decide) rfl hS ?_
      clear F; intro a F
      refine st_do F 38 43 (.bool false) (RD 38 (by decide) (by decide)) R.r38 (want_0 rfl) (by simp [execOp, F.ev (.tail _ (.tail _ (.tail _ (.tail _ (.head _))))), F.ev (.head _), asBool]) rfl (by decide) rfl hS ?_
      clear F; intro a F
      refine st_do F 39 44 (.bool false) (RD 39 (by decide) (by decide)) R.r39 (want_0 rfl) (by simp [execOp, F.ev (.head _)]) rfl (by decide) rfl hS ?_
      clear F; intro a F
      replace F := F.base (.head _) (fun x hx => .tail _ (.tail _ (.tail _ (.tail _ (.tail _ (.tail _ (.tail _ (hx))))))))
      exact P40 a W F hS (by rw [hR]; rfl)
  have P28 : ∀ (a : Act) (W : World), KD a 201 ((32, .bool false) :: [(0, pkV p s), (1, .pointer (some ⟨w.heap.size, 0, none⟩)), (2, .bool false)]) → RS p s w W → rc1 p = (rtxt p.top && (rtxt p.cli && (rtxt p.user && (rtxt p.wtop && (inI p.wqos 0 2 && (decide (p.wpay.length ≤ 65535) && (decide (p.pass.length ≤ 65535) && true))))))) → wpAnyH Try.prog .any ops Q (RS p s w) 44 (Lst 72 28) a W := by
    intro a W F hS hR
    refine st_do F 28 33 (.pointer (some ⟨w.heap.size, 5, none⟩)) (RD 28 (by decide) (by decide)) R.r28 (want_y rfl (F.yl R.r27 rfl (.head _)) true rfl) (by simp [execOp, go_sem, F.raw (.tail _ (.tail _ (.head _)))]) rfl (by decide) rfl hS ?_
    clear F; intro a F
    refine st_do F 29 34 (.string p.top) (RD 29 (by decide) (by decide)) R.r29 (want_y rfl (F.yl R.r27 rfl (.tail _ (.head _))) true rfl) (by simp [execOp, go_sem, F.raw (.head _), row_cells hS.1]) rfl (by decide) rfl hS ?_
    clear F; intro a F
    rcases dc : rtxt p.top with _ | _
    · rw [dc] at hR
      refine st_call F 30 35 (.bool false) (RD 30 (by decide) (by decide)) R.r30 (want_y rfl (F.yl R.r27 rfl (.tail _ (.tail _ (.head _)))) true rfl) (by rfl) (args' := #[.string p.top]) (by simp [F.ev (.head _)]) rfl (by decide) rfl ((rtext_any (p.top) _ OK.out.top).mono (by rintro e w' ⟨rfl, hb⟩; exact ⟨by rw [dc], ⟨heap_below hb hS.1, thn hS.2 hb⟩⟩)) ?_
      clear F hS; intro a W F hS
      refine st_do F 31 36 (.bool true) (RD 31 (by decide) (by decide)) R.r31 (want_y rfl (F.yl R.r27 rfl (.tail _ (.tail _ (.tail _ (.head _))))) true rfl) (by simp [execOp, go_sem, F.raw (.head _)]) rfl (by decide) rfl hS ?_
      clear F; intro a F
      refine st_do F 32 37 (.bool true) (RD 32 (by decide) (by decide)) R.r32 (want_0 rfl) (by simp [execOp, F.ev (.tail _ (.tail _ (.tail _ (.tail _ (.head _))))), F.ev (.head _), asBool]) rfl (by decide) rfl hS ?_
      clear F; intro a F
      refine st_do F 33 38 (.bool true) (RD 33 (by decide) (by decide)) R.r33 (want_0 rfl) (by simp [execOp, F.ev (.head _)]) rfl (by decide) rfl hS ?_
      clear F; intro a F
      replace F := F.base (.head _) (fun x hx => .tail _ (.tail _ (.tail _ (.tail _ (.tail _ (.tail _ (.tail _ (hx))))))))
      exact T34 a W F hS (by rw [hR]; rfl)
    · rw [dc] at hR
      refine st_call F 30 35 (.bool true) (RD 30 (by decide) (by decide)) R.r30 (want_y rfl (F.yl R.r27 rfl (.tail _ (.tail _ (.head _)))) true rfl) (by rfl) (args' := #[.string p.top]) (by simp [F.ev (.head _)]) rfl (by decide) rfl ((rtext_any (p.top) _ OK.out.top).mono (by rintro e w' ⟨rfl, hb⟩; exact ⟨by rw [dc], ⟨heap_below hb hS.1, thn hS.2 hb⟩⟩)) ?_
      clear F hS; intro a W F hS
      refine st_do F 31 36 (.bool false) (RD 31 (by decide) (by decide)) R.r31 (want_y rfl (F.yl R.r27 rfl (.tail _ (.tail _ (.tail _ (.head _))))) true rfl) (by simp [execOp, go_sem, F.raw (.head _)]) rfl (by decide) rfl hS ?_
      clear F; intro a F
      refine st_do F 32 37 (.bool false) (RD 32 (by decide) (by decide)) R.r32 (want_0 rfl) (by simp [execOp, F.ev (.tail _ (.tail _ (.tail _ (.tail _ (.head _))))), F.ev (.head _), asBool]) rfl (by decide) rfl hS ?_
      clear F; intro a F
      refine st_do F 33 38 (.bool false) (RD 33 (by decide) (by decide)) R.r33 (want_0 rfl) (by simp [execOp, F.ev (.head _)]) rfl (by decide) rfl hS ?_
      clear F; intro a F
      replace F := F.base (.head _) (fun x hx => .tail _ (.tail _ (.tail _ (.tail _ (.tail _ (.tail _ (.tail _ (hx))))))))
      exact P34 a W F hS (by rw [hR]; rfl)
  have P22 : ∀ (a : Act) (W : World), KD a 201 ((26, .bool false) :: [(0, pkV p s), (1, .pointer (some ⟨w.heap.size, 0, none⟩)), (2, .bool false)]) → RS p s w W → rc1 p = (inI p.qos 0 2 && (rtxt p.top && (rtxt p.cli && (rtxt p.user && (rtxt p.wtop && (inI p.wqos 0 2 && (decide (p.wpay.length ≤ 65535) && (decide (p.pass.length ≤ 65535) && true)))))))) → wpAnyH Try.prog .any ops Q (RS p s w) 50 (Lst 72 22) a W := by
    intro a W F hS hR
    refine st_do F 22 27 (.pointer (some ⟨w.heap.size, 3, none⟩)) (RD 22 (by decide) (by decide)) R.r22 (want_y rfl (F.yl R.r21 rfl (.head _)) true rfl) (by simp [execOp, go_sem, F.raw (.tail _ (.tail _ (.head _)))]) rfl (by decide) rfl hS ?_
    clear F; intro a F
    refine st_do F 23 28 (.int .i64 p.qos) (RD 23 (by decide) (by decide)) R.r23 (want_y rfl (F.yl R.r21 rfl (.tail _ (.head _))) true rfl) (by simp [execOp, go_sem, F.raw (.head _), row_cells hS.1]) rfl (by decide) rfl hS ?_
    clear F; intro a F
    rcases dc : inI p.qos 0 2 with _ | _
    · rw [dc] at hR
      refine st_call F 24 29 (.bool false) (RD 24 (by decide) (by decide)) R.r24 (want_y rfl (F.yl R.r21 rfl (.tail _ (.tail _ (.head _)))) true rfl) (by rfl) (args' := #[.int .i64 p.qos, .int .i64 0, .int .i64 2]) (by simp [F.ev (.head _), BigFrame.eval_const]) rfl (by decide) rfl ((rin_any (p.qos) 0 2 _).mono (by rintro e w' ⟨rfl, rfl⟩; exact ⟨by rw [dc], hS⟩)) ?_
      clear F hS; intro a W F hS
      refine st_do F 25 30 (.bool true) (RD 25 (by decide) (by decide)) R.r25 (want_y rfl (F.yl R.r21 rfl (.tail _ (.tail _ (.tail _ (.head _))))) true rfl) (by simp [execOp, go_sem, F.raw (.head _)]) rfl (by decide) rfl hS ?_
      clear F; intro a F
      refine st_do F 26 31 (.bool true) (RD 26 (by decide) (by decide)) R.r26 (want_0 rfl) (by simp [execOp, F.ev (.tail _ (.tail _ (.tail _ (.tail _ (.head _))))), F.ev (.head _), asBool]) rfl (by decide) rfl hS ?_
      clear F; intro a F
      refine st_do F 27 32 (.bool true) (RD 27 (by decide) (by decide)) R.r27 (want_0 rfl) (by simp [execOp, F.ev (.head _)]) rfl (by decide) rfl hS ?_
      clear F; intro a F
      replace F := F.base (.head _) (fun x hx => .tail _ (.tail _ (.tail _ (.tail _ (.tail _ (.tail _ (.tail _ (hx))))))))
      exact T28 a W F hS (by rw [hR]; rfl)
    · rw [dc] at hR
      refine st_call F 24 29 (.bool true) (RD 24 (by decide) (by decide)) R.r24 (want_y rfl (F.yl R.r21 rfl (.tail _ (.tail _ (.head _)))) true rfl) (by rfl) (args' := #[.int .i64 p.qos, .int .i64 0, .int .i64 2]) (by simp [F.ev (.head _), BigFrame.eval_const]) rfl (by decide) rfl ((rin_any (p.qos) 0 2 _).mono (by rintro e w' ⟨rfl, rfl⟩; exact ⟨by rw [dc], hS⟩)) ?_
      clear F hS; intro a W F hS
      refine st_do F 25 30 (.bool false) (RD 25 (by decide) (by decide)) R.r25 (want_y rfl (F.yl R.r21 rfl (.tail _ (.tail _ (.tail _ (.head _))))) true rfl) (by simp [execOp, go_sem, F.raw (.head _)]) rfl (by decide) rfl hS ?_
      clear F; intro a F
      refine st_do F 26 31 (.bool false) (RD 26 (by decide) (by decide)) R.r26 (want_0 rfl) (by simp [execOp, F.ev (.tail _ (.tail _ (.tail _ (.tail _ (.head _))))), F.ev (.head _), asBool]) rfl (by decide) rfl hS ?_
      clear F; intro a F
      refine st_do F 27 32 (.bool false) (RD 27 (by decide) (by decide)) R.r27 (want_0 rfl) (by simp [execOp, F.ev (.head _)]) rfl (by decide) rfl hS ?_
      clear F; intro a F
      replace F := F.base (.head _) (fun x hx => .tail _ (.tail _ (.tail _ (.tail _ (.tail _ (.tail _ (.tail _ (hx))))))))
      exact P28 a W F hS (by rw [hR]; rfl)
  have P12 : ∀ (a : Act) (W : World), KD a 201 ((16, .bool false) :: [(0, pkV p s), (1, .pointer (some ⟨w.heap.size, 0, none⟩)), (2, .bool false)]) → RS p s w W → rc1 p = ((!numP p || inI p.id 1 65535) && (inI p.qos 0 2 && (rtxt p.top && (rtxt p.cli && (rtxt p.user && (rtxt p.wtop && (inI p.wqos 0 2 && (decide (p.wpay.length ≤ 65535) && (decide (p.pass.length ≤ 65535) && true))))))))) → wpAnyH Try.prog .any ops Q (RS p s w) 60 (Lst 72 12) a W := by
    intro a W F hS hR
    refine st_do F 12 17 (pkV p s) (RD 12 (by decide) (by decide)) R.r12 (want_y rfl (F.yl R.r11 rfl (.head _)) true rfl) (ld_exec rfl (F.ev (.tail _ (.tail _ (.head _)))) hS.1 rfl) rfl (by decide) rfl hS ?_
    clear F; intro a F
    rcases dn : numP p with _ | _
    · rw [dn] at hR
      refine st_call F 13 18 (.bool false) (RD 13 (by decide) (by decide)) R.r13 (want_y rfl (F.yl R.r11 rfl (.tail _ (.head _))) true rfl) (by rfl) (args' := #[pkV p s]) (by simp [F.ev (.head _)]) rfl (by decide) rfl ((num_any p s _).mono (by rintro e w' ⟨rfl, hb⟩; exact ⟨by rw [dn], ⟨heap_below hb hS.1, thn hS.2 hb⟩⟩)) ?_
      clear F hS; intro a W F hS
      refine st_do F 14 19 (.bool false) (RD 14 (by decide) (by decide)) R.r14 (want_y rfl (F.yl R.r11 rfl (.tail _ (.tail _ (.head _)))) true rfl) (by simp [execOp, F.ev (.head _)]) rfl (by decide) rfl hS ?_
      clear F; intro a F
      refine st_skip F 15 20 (RD 15 (by decide) (by decide)) R.r15 (want_y rfl (F.yl R.r14 rfl (.head _)) false rfl) rfl (by decide) rfl hS ?_
      clear F; intro a F
      refine st_skip F 16 21 (RD 16 (by decide) (by decide)) R.r16 (want_y rfl (F.yl R.r14 rfl (.tail _ (.head _))) false rfl) rfl (by decide) rfl hS ?_
      clear F; intro a F
      refine st_skip F 17 22 (RD 17 (by decide) (by decide)) R.r17 (want_y rfl (F.yl R.r14 rfl (.tail _ (.tail _ (.head _)))) false rfl) rfl (by decide) rfl hS ?_
      clear F; intro a F
      refine st_skip F 18 23 (RD 18 (by decide) (by decide)) R.r18 (want_y rfl (F.yl R.r14 rfl (.tail _ (.tail _ (.tail _ (.head _))))) false rfl) rfl (by decide) rfl hS ?_
      clear F; intro a F
      refine st_do F 19 24 (.bool false) (RD 19 (by decide) (by decide)) R.r19 (want_y rfl (F.yl R.r11 rfl (.tail _ (.tail _ (.tail _ (.tail _ (.tail _ (.tail _ (.tail _ (.head _))))))))) true rfl) (by simp [execOp, F.ev (.tail _ (.tail _ (.tail _ (.tail _ (.head _))))), BigFrame.eval_const, asBool]) rfl (by decide) rfl hS ?_
      clear F; intro a F
      refine st_do F 20 25 (.bool false) (RD 20 (by decide) (by decide)) R.r20 (want_0 rfl) (by simp [execOp, F.ev (.tail _ (.tail _ (.tail _ (.tail _ (.tail _ (.tail _ (.tail _ (.tail _ (.head _))))))))), F.ev (.head _), asBool]) rfl (by decide) rfl hS ?_
      clear F; intro a F
      refine st_do F 21 26 (.bool false) (RD 21 (by decide) (by decide)) R.r21 (want_0 rfl) (by simp [execOp, F.ev (.head _)]) rfl (by decide) rfl hS ?_
      clear F; intro a F
      replace F := F.base (.head _) (fun x hx => .tail _ (.tail _ (.tail _ (.tail _ (.tail _ (.tail _ (.tail _ (.tail _ (.tail _ (.tail _ (.tail _ (hx))))))))))))
      exact P22 a W F hS (by rw [hR]; rfl)
    · rw [dn] at hR
      refine st_call F 13 18 (.bool true) (RD 13 (by decide) (by decide)) R.r13 (want_y rfl (F.yl R.r11 rfl (.tail _ (.head _))) true rfl) (by rfl) (args' := #[pkV p s]) (by simp [F.ev (.head _)]) rfl (by decide) rfl ((num_any p s _).mono (by rintro e w' ⟨rfl, hb⟩; exact ⟨by rw [dn], ⟨heap_below hb hS.1, thn hS.2 hb⟩⟩)) ?_
      clear F hS; intro a W F hS
      refine st_do F 14 19 (.bool true) (RD 14 (by decide) (by decide)) R.r14 (want_y rfl (F.yl R.r11 rfl (.tail _ (.tail _ (.head _)))) true rfl) (by simp [execOp, F.ev (.head _)]) rfl (by decide) rfl hS ?_
      clear F; intro a F
      refine st_do F 15 20 (.pointer (some ⟨w.heap.size, 4, none⟩)) (RD 15 (by decide) (by decide)) R.r15 (want_y rfl (F.yl R.r14 rfl (.head _)) true rfl) (by simp [execOp, go_sem, F.raw (.tail _ (.tail _ (.tail _ (.tail _ (.tail _ (.head _))))))]) rfl (by decide) rfl hS ?_
      clear F; intro a F
      refine st_do F 16 21 (.int .i64 p.id) (RD 16 (by decide) (by decide)) R.r16 (want_y rfl (F.yl R.r14 rfl (.tail _ (.head _))) true rfl) (by simp [execOp, go_sem, F.raw (.head _), row_cells hS.1]) rfl (by decide) rfl hS ?_
      clear F; intro a F
      rcases dc : inI p.id 1 65535 with _ | _
      · rw [dc] at hR
        refine st_call F 17 22 (.bool false) (RD 17 (by decide) (by decide)) R.r17 (want_y rfl (F.yl R.r14 rfl (.tail _ (.tail _ (.head _)))) true rfl) (by rfl) (args' := #[.int .i64 p.id, .int .i64 1, .int .i64 65535]) (by simp [F.ev (.head _), BigFrame.eval_const]) rfl (by decide) rfl ((rin_any (p.id) 1 65535 _).mono (by rintro e w' ⟨rfl, rfl⟩; exact ⟨by rw [dc], hS⟩)) ?_
        clear F hS; intro a W F hS
        refine st_do F 18 23 (.bool true) (RD 18 (by decide) (by decide)) R.r18 (want_y rfl (F.yl R.r14 rfl (.tail _ (.tail _ (.tail _ (.head _))))) true rfl) (by simp [execOp, go_sem, F.raw (.head _)]) rfl (by decide) rfl hS ?_
        clear F; intro a F
        refine st_do F 19 24 (.bool true) (RD 19 (by decide) (by decide)) R.r19 (want_y rfl (F.yl R.r11 rfl (.tail _ (.tail _ (.tail _ (.tail _ (.tail _ (.tail _ (.tail _ (.head _))))))))) true rfl) (by simp [execOp, F.ev (.tail _ (.tail _ (.tail _ (.tail _ (.head _))))), F.ev (.head _), asBool]) rfl (by decide) rfl hS ?_
        clear F; intro a F
        refine st_do F 20 25 (.bool true) (RD 20 (by decide) (by decide)) R.r20 (want_0 rfl) (by simp [execOp, F.ev (.tail _ (.tail _ (.tail _ (.tail _ (.tail _ (.tail _ (.tail _ (.tail _ (.head _))))))))), F.ev (.head _), asBool]) rfl (by decide) rfl hS ?_
        clear F; intro a F
        refine st_do F 21 26 (.bool true) (RD 21 (by decide) (by decide)) R.r21 (want_0 rfl) (by simp [execOp, F.ev (.head _)]) rfl (by decide) rfl hS ?_
        clear F; intro a F
        replace F := F.base (.head _) (fun x hx => .tail _ (.tail _ (.tail _ (.tail _ (.tail _ (.tail _ (.tail _ (.tail _ (.tail _ (.tail _ (.tail _ (hx))))))))))))
        exact T22 a W F hS (by rw [hR]; rfl)
      · rw [dc] at hR
        refine st_call F 17 22 (.bool true) (RD 17 (by decide) (by decide)) R.r17 (want_y rfl (F.yl R.r14 rfl (.tail _ (.tail _ (.head _)))) true rfl) (by rfl) (args' := #[.int .i64 p.id, .int .i64 1, .int .i64 65535]) (by simp [F.ev (.head _), BigFrame.eval_const]) rfl (by decide) rfl ((rin_any (p.id) 1 65535 _).mono (by rintro e w' ⟨rfl, rfl⟩; exact ⟨by rw [dc], hS⟩)) ?_
        clear F hS; intro a W F hS
        refine st_do F 18 23 (.bool false) (RD 18 (by decide) (by decide)) R.r18 (want_y rfl (F.yl R.r14 rfl (.tail _ (.tail _ (.tail _ (.head _))))) true rfl) (by simp [execOp, go_sem, F.raw (.head _)]) rfl (by decide) rfl hS ?_
        clear F; intro a F
        refine st_do F 19 24 (.bool false) (RD 19 (by decide) (by decide)) R.r19 (want_y rfl (F.yl R.r11 rfl (.tail _ (.tail _ (.tail _ (.tail _ (.tail _ (.tail _ (.tail _ (.head _))))))))) true rfl) (by simp [execOp, F.ev (.tail _ (.tail _ (.tail _ (.tail _ (.head _))))), F.ev (.head _), asBool]) rfl (by decide) rfl hS ?_
        clear F; intro a F
        refine st_do F 20 25 (.bool false) (RD 20 (by decide) (by decide)) R.r20 (want_0 rfl) (by simp [execOp, F.ev (.tail _ (.tail _ (.tail _ (.tail _ (.tail _ (.tail _ (.tail _ (.tail _ (.head _))))))))), F.ev (.head _), asBool]) rfl (by decide) rfl hS ?_
        clear F; intro a F
        refine st_do F 21 26 (.bool false) (RD 21 (by decide) (by decide)) R.r21 (want_0 rfl) (by simp [execOp, F.ev (.head _)]) rfl (by decide) rfl hS ?_
        clear F; intro a F
        replace F := F.base (.head _) (fun x hx => .tail _ (.tail _ (.tail _ (.tail _ (.tail _ (.tail _ (.tail _ (.tail _ (.tail _ (.tail _ (.tail _ (hx))))))))))))
        exact P22 a W F hS (by rw [hR]; rfl)
  have P5 : ∀ (a : Act) (W : World), KD a 201 ((9, .bool false) :: [(0, pkV p s), (1, .pointer (some ⟨w.heap.size, 0, none⟩)), (2, .bool false)]) → RS p s w W → rc1 p = (decide (p = onP p) && ((!numP p || inI p.id 1 65535) && (inI p.qos 0 2 && (rtxt p.top && (rtxt p.cli && (rtxt p.user && (rtxt p.wtop && (inI p.wqos 0 2 && (decide (p.wpay.length ≤ 65535) && (decide (p.pass.length ≤ 65535) && true)))))))))) → wpAnyH Try.prog .any ops Q (RS p s w) 67 (Lst 72 5) a W := by
    intro a W F hS hR
    refine st_take F 5 10 (pkV p s) R.r5 h5.1 h5.2.1 h5.2.2 hQ (.inl ⟨(want_y rfl (F.yl R.r4 rfl (.head _)) true rfl), fun W hW => ld_exec rfl (F.ev (.tail _ (.tail _ (.head _)))) hW.1 rfl⟩) rfl (by decide) rfl hS ?_
    clear F; intro a F
    refine st_do F 6 11 (pkV p s) (RD 6 (by decide) (by decide)) R.r6 (want_y rfl (F.yl R.r4 rfl (.tail _ (.head _))) true rfl) (ld_exec rfl (F.ev (.tail _ (.tail _ (.tail _ (.head _))))) hS.1 rfl) rfl (by decide) rfl hS ?_
    clear F; intro a F
    refine st_call F 7 12 (pkV (onP p) (wrS p s)) (RD 7 (by decide) (by decide)) R.r7 (want_y rfl (F.yl R.r4 rfl (.tail _ (.tail _ (.head _)))) true rfl) (by rfl) (args' := #[pkV p s]) (by simp [F.ev (.head _)]) rfl (by decide) rfl ((only_any p s _).mono (by rintro e w' ⟨rfl, hb⟩; exact ⟨rfl, ⟨heap_below hb hS.1, thn hS.2 hb⟩⟩)) ?_
    clear F hS; intro a W F hS
    rcases dc : decide (p = onP p) with _ | _
    · rw [dc] at hR
      refine st_call F 8 13 (.bool false) (RD 8 (by decide) (by decide)) R.r8 (want_y rfl (F.yl R.r4 rfl (.tail _ (.tail _ (.tail _ (.head _))))) true rfl) (by rfl) (args' := #[pkV p s, pkV (onP p) (wrS p s)]) (by simp [F.ev (.tail _ (.tail _ (.head _))), F.ev (.head _)]) rfl (by decide) rfl ((rsame_any p (onP p) s (wrS p s) B _ (HP.out.to hB hS.2) (HO.out.to hB hS.2) (Nat.le_trans hB hS.2.size) c8 c9).mono (by rintro e w' ⟨rfl, hb⟩; exact ⟨by rw [dc], ⟨heap_below hb hS.1, thn hS.2 hb⟩⟩)) ?_
      clear F hS; intro a W F hS
      refine st_do F 9 14 (.bool true) (RD 9 (by decide) (by decide)) R.r9 (want_y rfl (F.yl R.r4 rfl (.tail _ (.tail _ (.tail _ (.tail _ (.head _)))))) true rfl) (by simp [execOp, go_sem, F.raw (.head _)]) rfl (by decide) rfl hS ?_
      clear F; intro a F
      refine st_do F 10 15 (.bool true) (RD 10 (by decide) (by decide)) R.r10 (want_0 rfl) (by simp [execOp, F.ev (.tail _ (.tail _ (.tail _ (.tail _ (.tail _ (.head _)))))), F.ev (.head _), asBool]) rfl (by decide) rfl hS ?_
      clear F; intro a F
      refine st_do F 11 16 (.bool true) (RD 11 (by decide) (by decide)) R.r11 (want_0 rfl) (by simp [execOp, F.ev (.head _)]) rfl (by decide) rfl hS ?_
      clear F; intro a F
      replace F := F.base (.head _) (fun x hx => .tail _ (.tail _ (.tail _ (.tail _ (.tail _ (.tail _ (.tail _ (.tail _ (hx)))))))))
      exact T12 a W F hS (by rw [hR]; rfl)
    · rw [dc] at hR
      refine st_call F 8 13 (.bool true) (RD 8 (by decide) (by decide)) R.r8 (want_y rfl (F.yl R.r4 rfl (.tail _ (.tail _ (.tail _ (.head _))))) true rfl) (by rfl) (args' := #[pkV p s, pkV (onP p) (wrS p s)]) (by simp [F.ev (.tail _ (.tail _ (.head _))), F.ev (.head _)]) rfl (by decide) rfl ((rsame_any p (onP p) s (wrS p s) B _ (HP.out.to hB hS.2) (HO.out.to hB hS.2) (Nat.le_trans hB hS.2.size) c8 c9).mono (by rintro e w' ⟨rfl, hb⟩; exact ⟨by rw [dc], ⟨heap_below hb hS.1, thn hS.2 hb⟩⟩)) ?_
      clear F hS; intro a W F hS
      refine st_do F 9 14 (.bool false) (RD 9 (by decide) (by decide)) R.r9 (want_y rfl (F.yl R.r4 rfl (.tail _ (.tail _ (.tail _ (.tail _ (.head _)))))) true rfl) (by simp [execOp, go_sem, F.raw (.head _)]) rfl (by decide) rfl hS ?_
      clear F; intro a F
      refine st_do F 10 15 (.bool false) (RD 10 (by decide) (by decide)) R.r10 (want_0 rfl) (by simp [execOp, F.ev (.tail _ (.tail _ (.tail _ (.tail _ (.tail _ (.head _)))))), F.ev (.head _), asBool]) rfl (by decide) rfl hS ?_
      clear F; intro a F
      refine st_do F 11 16 (.bool false) (RD 11 (by decide) (by decide)) R.r11 (want_0 rfl) (by simp [execOp, F.ev (.head _)]) rfl (by decide) rfl hS ?_
      clear F; intro a F
      replace F := F.base (.head _) (fun x hx => .tail _ (.tail _ (.tail _ (.tail _ (.tail _ (.tail _ (.tail _ (.tail _ (hx)))))))))
      exact P12 a W F hS (by rw [hR]; rfl)
  have hR : rc1 p = (inI p.kind 1 14 && (decide (p = onP p) && ((!numP p || inI p.id 1 65535) && (inI p.qos 0 2 && (rtxt p.top && (rtxt p.cli && (rtxt p.user && (rtxt p.wtop && (inI p.wqos 0 2 && (decide (p.wpay.length ≤ 65535) && (decide (p.pass.length ≤ 65535) && true))))))))))) := rfl
  refine wp_region_held_drew (S := RS p s w) (by rfl) ⟨hS.1, Below.drew hS.2⟩ ?_
  intro hS
  rw [hsz]
  show wpAnyH Try.prog .any ops Q (RS p s w) 72 (Lst 72 0) a W.drew
  generalize W.drew = W at *
  refine st_do F 0 5 (.pointer (some ⟨w.heap.size, 0, none⟩)) (RD 0 (by decide) (by decide)) R.r0 (want_0 rfl) (by simp [execOp, go_sem, F.raw (.tail _ (.head _))]) rfl (by decide) rfl hS ?_
  clear F; intro a F
  refine st_do F 1 6 (.int .i64 p.kind) (RD 1 (by decide) (by decide)) R.r1 (want_0 rfl) (by simp [execOp, go_sem, F.raw (.head _), row_cells hS.1]) rfl (by decide) rfl hS ?_
  clear F; intro a F
  rcases dc : inI p.kind 1 14 with _ | _
  · rw [dc] at hR
    refine st_call F 2 7 (.bool false) (RD 2 (by decide) (by decide)) R.r2 (want_0 rfl) (by rfl) (args' := #[.int .i64 p.kind, .int .i64 1, .int .i64 14]) (by simp [F.ev (.head _), BigFrame.eval_const]) rfl (by decide) rfl ((rin_any (p.kind) 1 14 _).mono (by rintro e w' ⟨rfl, rfl⟩; exact ⟨by rw [dc], hS⟩)) ?_
    clear F hS; intro a W F hS
    refine st_do F 3 8 (.bool true) (RD 3 (by decide) (by decide)) R.r3 (want_0 rfl) (by simp [execOp, go_sem, F.raw (.head _)]) rfl (by decide) rfl hS ?_
    clear F; intro a F
    refine st_do F 4 9 (.bool true) (RD 4 (by decide) (by decide)) R.r4 (want_0 rfl) (by simp [execOp, F.ev (.head _)]) rfl (by decide) rfl hS ?_
    clear F; intro a F
    replace F := F.base (.head _) (fun x hx => .tail _ (.tail _ (.tail _ (.tail _ (.tail _ (hx))))))
    exact T5 a W F hS (by rw [hR]; rfl)
  · rw [dc] at hR
    refine st_call F 2 7 (.bool true) (RD 2 (by decide) (by decide)) R.r2 (want_0 rfl) (by rfl) (args' := #[.int .i64 p.kind, .int .i64 1, .int .i64 14]) (by simp [F.ev (.head _), BigFrame.eval_const]) rfl (by decide) rfl ((rin_any (p.kind) 1 14 _).mono (by rintro e w' ⟨rfl, rfl⟩; exact ⟨by rw [dc], hS⟩)) ?_
    clear F hS; intro a W F hS
    refine st_do F 3 8 (.bool false) (RD 3 (by decide) (by decide)) R.r3 (want_0 rfl) (by simp [execOp, go_sem, F.raw (.head _)]) rfl (by decide) rfl hS ?_
    clear F; intro a F
    refine st_do F 4 9 (.bool false) (RD 4 (by decide) (by decide)) R.r4 (want_0 rfl) (by simp [execOp, F.ev (.head _)]) rfl (by decide) rfl hS ?_
    clear F; intro a F
    replace F := F.base (.head _) (fun x hx => .tail _ (.tail _ (.tail _ (.tail _ (.tail _ (hx))))))
    exact P5 a W F hS (by rw [hR]; rfl)
end Go.Proofs.Ytkeocnobninaaaa
