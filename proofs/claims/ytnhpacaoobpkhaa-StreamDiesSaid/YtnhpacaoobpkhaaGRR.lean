import Derived.Test.YtnhpacaoobpkhaaGWr
import Derived.Test.YtnhpacaoobpkhaaOnly1
import Derived.Test.YtnhpacaoobpkhaaRSame
import Derived.Test.YtnhpacaoobpkhaaGRight
import Derived.Test.YtnhpacaoobpkhaaGPkt
import Derived.Test.YtnhpacaoobpkhaaGBytes
namespace Go.Proofs.Ytnhpacaoobpkhaa
open Go.RowKit Go.Lib
set_option linter.unusedVariables false
set_option maxRecDepth 100000
set_option maxHeartbeats 8000000
theorem only_any (p:Pk)(s:Sv)(w:World):Calls Try.prog 45 #[pkV p s] w fun e w'=>e=.returned (pkV (onP p) (wrS p s))∧Below w.heap.size w w':=by
 rcases k1:(p.kind==1) with _ | _
 ·exact only_no1 p s w k1
 ·exact only_1 p s w k1
theorem on_at {w:World}{B:Nat}{p:Pk}{s:Sv}(h:PkAt w B p s):PkAt w B (onP p) (wrS p s):=by
 by_cases k3:(p.kind==3)=true
 ·have k1:(p.kind==1)=false:=by simp at k3;simp [k3]
  have k2:(p.kind==2)=false:=by simp at k3;simp [k3]
  have k:=wr_at h
  unfold onP
  rw [if_pos k3]
  unfold wrP wrS at k
  unfold wrS
  simp only [k1,k2,k3,if_true,Bool.false_eq_true,if_false] at k ⊢
  exact ⟨k.pay,k.wpay,k.pass,k.subs,k.codes⟩
 ·unfold onP
  rw [if_neg k3]
  exact wr_at h
def rc1 (p:Pk):Bool:=(inI p.kind 1 14 && (decide (p=onP p) && ((!numP p || inI p.id 1 65535) && (inI p.qos 0 2 && (rtxt p.top && (rtxt p.cli && (rtxt p.user && (rtxt p.wtop && (inI p.wqos 0 2 && (decide (p.wpay.length≤65535) && (decide (p.pass.length≤65535) && true)))))))))))
def RS (p:Pk) (s:Sv) (w:World) (W:World):Prop:=W.heap[w.heap.size]? = some (.cells (pkC p s) 28 (0,0))∧Below w.heap.size w W
theorem KD.base {a:Act}{n i:Nat}{v:Value}{L B:List (Nat×Value)}(F:KD a n L)(h1:(i,v) ∈ L)(hb:∀x ∈ B,x ∈ L):KD a n ((i,v) :: B):=F.cut fun x hx=>by
 rcases List.mem_cons.1 hx with rfl | hx
 ·exact h1
 ·exact hb x hx
structure RROps (ops:Array Oper) (ty:Nat→TypeId) (q:Nat→String) (e:Nat→Array Edge):Prop where
 r0:ops[0]? = some ⟨some 5,.fieldAddr 28 (.tmp 1) 0,ty 0,q 0,e 0,none⟩
 r1:ops[1]? = some ⟨some 6,.load 3 (.tmp 5),ty 1,q 1,e 1,none⟩
 r2:ops[2]? = some ⟨some 7,.call ⟨.value (.func 44),#[.tmp 6,.const (.int .i64 1),.const (.int .i64 14)],#[3,3,3]⟩,ty 2,q 2,e 2,none⟩
 r3:ops[3]? = some ⟨some 8,.unOp .not 4 (.tmp 7),ty 3,q 3,e 3,none⟩
 r4:ops[4]? = some ⟨some 9,.move (.tmp 8),ty 4,q 4,e 4,none⟩
 r5:ops[5]? = some ⟨some 10,.load 28 (.tmp 1),ty 5,q 5,e 5,some (4,false)⟩
 r6:ops[6]? = some ⟨some 11,.load 28 (.tmp 1),ty 6,q 6,e 6,some (4,false)⟩
 r7:ops[7]? = some ⟨some 12,.call ⟨.value (.func 45),#[.tmp 11],#[28]⟩,ty 7,q 7,e 7,some (4,false)⟩
 r8:ops[8]? = some ⟨some 13,.call ⟨.value (.func 22),#[.tmp 10,.tmp 12],#[28,28]⟩,ty 8,q 8,e 8,some (4,false)⟩
 r9:ops[9]? = some ⟨some 14,.unOp .not 4 (.tmp 13),ty 9,q 9,e 9,some (4,false)⟩
 r10:ops[10]? = some ⟨some 15,.pick (.tmp 9) (.const (.bool true)) (.tmp 14),ty 10,q 10,e 10,none⟩
 r11:ops[11]? = some ⟨some 16,.move (.tmp 15),ty 11,q 11,e 11,none⟩
 r12:ops[12]? = some ⟨some 17,.load 28 (.tmp 1),ty 12,q 12,e 12,some (11,false)⟩
 r13:ops[13]? = some ⟨some 18,.call ⟨.value (.func 46),#[.tmp 17],#[28]⟩,ty 13,q 13,e 13,some (11,false)⟩
 r14:ops[14]? = some ⟨some 19,.move (.tmp 18),ty 14,q 14,e 14,some (11,false)⟩
 r15:ops[15]? = some ⟨some 20,.fieldAddr 28 (.tmp 1) 4,ty 15,q 15,e 15,some (14,true)⟩
 r16:ops[16]? = some ⟨some 21,.load 3 (.tmp 20),ty 16,q 16,e 16,some (14,true)⟩
 r17:ops[17]? = some ⟨some 22,.call ⟨.value (.func 44),#[.tmp 21,.const (.int .i64 1),.const (.int .i64 65535)],#[3,3,3]⟩,ty 17,q 17,e 17,some (14,true)⟩
 r18:ops[18]? = some ⟨some 23,.unOp .not 4 (.tmp 22),ty 18,q 18,e 18,some (14,true)⟩
 r19:ops[19]? = some ⟨some 24,.pick (.tmp 19) (.tmp 23) (.const (.bool false)),ty 19,q 19,e 19,some (11,false)⟩
 r20:ops[20]? = some ⟨some 25,.pick (.tmp 16) (.const (.bool true)) (.tmp 24),ty 20,q 20,e 20,none⟩
 r21:ops[21]? = some ⟨some 26,.move (.tmp 25),ty 21,q 21,e 21,none⟩
 r22:ops[22]? = some ⟨some 27,.fieldAddr 28 (.tmp 1) 3,ty 22,q 22,e 22,some (21,false)⟩
 r23:ops[23]? = some ⟨some 28,.load 3 (.tmp 27),ty 23,q 23,e 23,some (21,false)⟩
 r24:ops[24]? = some ⟨some 29,.call ⟨.value (.func 44),#[.tmp 28,.const (.int .i64 0),.const (.int .i64 2)],#[3,3,3]⟩,ty 24,q 24,e 24,some (21,false)⟩
 r25:ops[25]? = some ⟨some 30,.unOp .not 4 (.tmp 29),ty 25,q 25,e 25,some (21,false)⟩
 r26:ops[26]? = some ⟨some 31,.pick (.tmp 26) (.const (.bool true)) (.tmp 30),ty 26,q 26,e 26,none⟩
 r27:ops[27]? = some ⟨some 32,.move (.tmp 31),ty 27,q 27,e 27,none⟩
 r28:ops[28]? = some ⟨some 33,.fieldAddr 28 (.tmp 1) 5,ty 28,q 28,e 28,some (27,false)⟩
 r29:ops[29]? = some ⟨some 34,.load 9 (.tmp 33),ty 29,q 29,e 29,some (27,false)⟩
 r30:ops[30]? = some ⟨some 35,.call ⟨.value (.func 47),#[.tmp 34],#[9]⟩,ty 30,q 30,e 30,some (27,false)⟩
 r31:ops[31]? = some ⟨some 36,.unOp .not 4 (.tmp 35),ty 31,q 31,e 31,some (27,false)⟩
 r32:ops[32]? = some ⟨some 37,.pick (.tmp 32) (.const (.bool true)) (.tmp 36),ty 32,q 32,e 32,none⟩
 r33:ops[33]? = some ⟨some 38,.move (.tmp 37),ty 33,q 33,e 33,none⟩
 r34:ops[34]? = some ⟨some 39,.fieldAddr 28 (.tmp 1) 8,ty 34,q 34,e 34,some (33,false)⟩
 r35:ops[35]? = some ⟨some 40,.load 9 (.tmp 39),ty 35,q 35,e 35,some (33,false)⟩
 r36:ops[36]? = some ⟨some 41,.call ⟨.value (.func 47),#[.tmp 40],#[9]⟩,ty 36,q 36,e 36,some (33,false)⟩
 r37:ops[37]? = some ⟨some 42,.unOp .not 4 (.tmp 41),ty 37,q 37,e 37,some (33,false)⟩
 r38:ops[38]? = some ⟨some 43,.pick (.tmp 38) (.const (.bool true)) (.tmp 42),ty 38,q 38,e 38,none⟩
 r39:ops[39]? = some ⟨some 44,.move (.tmp 43),ty 39,q 39,e 39,none⟩
 r40:ops[40]? = some ⟨some 45,.fieldAddr 28 (.tmp 1) 15,ty 40,q 40,e 40,some (39,false)⟩
 r41:ops[41]? = some ⟨some 46,.load 9 (.tmp 45),ty 41,q 41,e 41,some (39,false)⟩
 r42:ops[42]? = some ⟨some 47,.call ⟨.value (.func 47),#[.tmp 46],#[9]⟩,ty 42,q 42,e 42,some (39,false)⟩
 r43:ops[43]? = some ⟨some 48,.unOp .not 4 (.tmp 47),ty 43,q 43,e 43,some (39,false)⟩
 r44:ops[44]? = some ⟨some 49,.pick (.tmp 44) (.const (.bool true)) (.tmp 48),ty 44,q 44,e 44,none⟩
 r45:ops[45]? = some ⟨some 50,.move (.tmp 49),ty 45,q 45,e 45,none⟩
 r46:ops[46]? = some ⟨some 51,.fieldAddr 28 (.tmp 1) 12,ty 46,q 46,e 46,some (45,false)⟩
 r47:ops[47]? = some ⟨some 52,.fieldAddr 24 (.tmp 51) 0,ty 47,q 47,e 47,some (45,false)⟩
 r48:ops[48]? = some ⟨some 53,.load 9 (.tmp 52),ty 48,q 48,e 48,some (45,false)⟩
 r49:ops[49]? = some ⟨some 54,.call ⟨.value (.func 47),#[.tmp 53],#[9]⟩,ty 49,q 49,e 49,some (45,false)⟩
 r50:ops[50]? = some ⟨some 55,.unOp .not 4 (.tmp 54),ty 50,q 50,e 50,some (45,false)⟩
 r51:ops[51]? = some ⟨some 56,.pick (.tmp 50) (.const (.bool true)) (.tmp 55),ty 51,q 51,e 51,none⟩
 r52:ops[52]? = some ⟨some 57,.move (.tmp 56),ty 52,q 52,e 52,none⟩
 r53:ops[53]? = some ⟨some 58,.fieldAddr 28 (.tmp 1) 12,ty 53,q 53,e 53,some (52,false)⟩
 r54:ops[54]? = some ⟨some 59,.fieldAddr 24 (.tmp 58) 2,ty 54,q 54,e 54,some (52,false)⟩
 r55:ops[55]? = some ⟨some 60,.load 3 (.tmp 59),ty 55,q 55,e 55,some (52,false)⟩
 r56:ops[56]? = some ⟨some 61,.call ⟨.value (.func 44),#[.tmp 60,.const (.int .i64 0),.const (.int .i64 2)],#[3,3,3]⟩,ty 56,q 56,e 56,some (52,false)⟩
 r57:ops[57]? = some ⟨some 62,.unOp .not 4 (.tmp 61),ty 57,q 57,e 57,some (52,false)⟩
 r58:ops[58]? = some ⟨some 63,.pick (.tmp 57) (.const (.bool true)) (.tmp 62),ty 58,q 58,e 58,none⟩
 r59:ops[59]? = some ⟨some 64,.move (.tmp 63),ty 59,q 59,e 59,none⟩
 r60:ops[60]? = some ⟨some 65,.fieldAddr 28 (.tmp 1) 12,ty 60,q 60,e 60,some (59,false)⟩
 r61:ops[61]? = some ⟨some 66,.fieldAddr 24 (.tmp 65) 1,ty 61,q 61,e 61,some (59,false)⟩
 r62:ops[62]? = some ⟨some 67,.load 22 (.tmp 66),ty 62,q 62,e 62,some (59,false)⟩
 r63:ops[63]? = some ⟨some 68,.call ⟨.builtin .len,#[.tmp 67],#[22]⟩,ty 63,q 63,e 63,some (59,false)⟩
 r64:ops[64]? = some ⟨some 69,.binOp .gtr 3 (.tmp 68) (.const (.int .i64 65535)) 3,ty 64,q 64,e 64,some (59,false)⟩
 r65:ops[65]? = some ⟨some 70,.pick (.tmp 64) (.const (.bool true)) (.tmp 69),ty 65,q 65,e 65,none⟩
 r66:ops[66]? = some ⟨some 71,.move (.tmp 70),ty 66,q 66,e 66,none⟩
 r67:ops[67]? = some ⟨some 72,.fieldAddr 28 (.tmp 1) 16,ty 67,q 67,e 67,some (66,false)⟩
 r68:ops[68]? = some ⟨some 73,.load 22 (.tmp 72),ty 68,q 68,e 68,some (66,false)⟩
 r69:ops[69]? = some ⟨some 74,.call ⟨.builtin .len,#[.tmp 73],#[22]⟩,ty 69,q 69,e 69,some (66,false)⟩
 r70:ops[70]? = some ⟨some 75,.binOp .gtr 3 (.tmp 74) (.const (.int .i64 65535)) 3,ty 70,q 70,e 70,some (66,false)⟩
 r71:ops[71]? = some ⟨some 76,.pick (.tmp 71) (.const (.bool true)) (.tmp 75),ty 71,q 71,e 71,none⟩
theorem rr1_main {ops:Array Oper} {ty:Nat→TypeId} {q:Nat→String} {e:Nat→Array Edge} (R:RROps ops ty q e) (hsz:ops.size=72) (RD:∀k,k<72→k≠5→Region.ready .any ops (Lst 72 k)=[k]) (RE:Region.ready .any ops (Lst 72 72)=[])
  (h5:Region.noSelect ops=true∧Region.free .any ops (Lst 72 5) 5=true∧(Region.ready .any ops (Lst 72 5)).contains 5=true)
  (p:Pk) (s:Sv) (B:Nat) (w:World) (hp:PkAt w B p s) (hB:B≤w.heap.size) (ok:PkOk p) {Q:Exit→Act→World→Prop} (hQ:∀c a a' w,a'.defers=a.defers→Q (.panic c) a w→Q (.panic c) a' w)
  (a:Act) (W:World) (F:KD a 201 [(0,pkV p s),(1,.pointer (some ⟨w.heap.size,0,none⟩)),(2,.bool false)]) (hS:RS p s w W) (K:∀a W,KD a 201 ((76,.bool (!rc1 p)) :: [(0,pkV p s),(1,.pointer (some ⟨w.heap.size,0,none⟩)),(2,.bool false)])→RS p s w W→Q .normal a W) :
  (Code.region 1 ops true).wp Try.prog Q a W:=by
 have HP:=Lib.hid hp
 have HO:=Lib.hid (on_at hp)
 have OK:=Lib.hid ok
 have c8:=ok.subs
 have c9:=ok.codes
 clear hp ok
 have T67:∀(a:Act) (W:World),KD a 201 ((71,.bool true) :: [(0,pkV p s),(1,.pointer (some ⟨w.heap.size,0,none⟩)),(2,.bool false)])→RS p s w W→rc1 p=false→wpAnyH Try.prog .any ops Q (RS p s w) 5 (Lst 72 67) a W:=by
  intro a W F hS hF
  refine st_skip F 67 72 (RD 67 (by decide) (by decide)) R.r67 (want_y rfl (F.yl R.r66 rfl (.head _)) false rfl) rfl (by decide) rfl hS ?_
  clear F;intro a F
  refine st_skip F 68 73 (RD 68 (by decide) (by decide)) R.r68 (want_y rfl (F.yl R.r66 rfl (.tail _ (.head _))) false rfl) rfl (by decide) rfl hS ?_
  clear F;intro a F
  refine st_skip F 69 74 (RD 69 (by decide) (by decide)) R.r69 (want_y rfl (F.yl R.r66 rfl (.tail _ (.tail _ (.head _)))) false rfl) rfl (by decide) rfl hS ?_
  clear F;intro a F
  refine st_skip F 70 75 (RD 70 (by decide) (by decide)) R.r70 (want_y rfl (F.yl R.r66 rfl (.tail _ (.tail _ (.tail _ (.head _))))) false rfl) rfl (by decide) rfl hS ?_
  clear F;intro a F
  refine st_do F 71 76 (.bool true) (RD 71 (by decide) (by decide)) R.r71 (want_0 rfl) (by simp [execOp,F.ev (.tail _ (.tail _ (.tail _ (.tail _ (.head _))))),BigFrame.eval_const,asBool]) rfl (by decide) rfl hS ?_
  clear F;intro a F
  replace F:=F.base (.head _) (fun x hx=>.tail _ (.tail _ (.tail _ (.tail _ (.tail _ (.tail _ (hx)))))))
  refine wpAnyH_done RE ?_ _
  refine K a W ?_ hS
  rw [hF];exact F
 have T60:∀(a:Act) (W:World),KD a 201 ((64,.bool true) :: [(0,pkV p s),(1,.pointer (some ⟨w.heap.size,0,none⟩)),(2,.bool false)])→RS p s w W→rc1 p=false→wpAnyH Try.prog .any ops Q (RS p s w) 12 (Lst 72 60) a W:=by
  intro a W F hS hF
  refine st_skip F 60 65 (RD 60 (by decide) (by decide)) R.r60 (want_y rfl (F.yl R.r59 rfl (.head _)) false rfl) rfl (by decide) rfl hS ?_
  clear F;intro a F
  refine st_skip F 61 66 (RD 61 (by decide) (by decide)) R.r61 (want_y rfl (F.yl R.r59 rfl (.tail _ (.head _))) false rfl) rfl (by decide) rfl hS ?_
  clear F;intro a F
  refine st_skip F 62 67 (RD 62 (by decide) (by decide)) R.r62 (want_y rfl (F.yl R.r59 rfl (.tail _ (.tail _ (.head _)))) false rfl) rfl (by decide) rfl hS ?_
  clear F;intro a F
  refine st_skip F 63 68 (RD 63 (by decide) (by decide)) R.r63 (want_y rfl (F.yl R.r59 rfl (.tail _ (.tail _ (.tail _ (.head _))))) false rfl) rfl (by decide) rfl hS ?_
  clear F;intro a F
  refine st_skip F 64 69 (RD 64 (by decide) (by decide)) R.r64 (want_y rfl (F.yl R.r59 rfl (.tail _ (.tail _ (.tail _ (.tail _ (.head _)))))) false rfl) rfl (by decide) rfl hS ?_
  clear F;intro a F
  refine st_do F 65 70 (.bool true) (RD 65 (by decide) (by decide)) R.r65 (want_0 rfl) (by simp [execOp,F.ev (.tail _ (.tail _ (.tail _ (.tail _ (.tail _ (.head _)))))),BigFrame.eval_const,asBool]) rfl (by decide) rfl hS ?_
  clear F;intro a F
  refine st_do F 66 71 (.bool true) (RD 66 (by decide) (by decide)) R.r66 (want_0 rfl) (by simp [execOp,F.ev (.head _)]) rfl (by decide) rfl hS ?_
  clear F;intro a F
  replace F:=F.base (.head _) (fun x hx=>.tail _ (.tail _ (.tail _ (.tail _ (.tail _ (.tail _ (.tail _ (.tail _ (hx)))))))))
  exact T67 a W F hS hF
 have T53:∀(a:Act) (W:World),KD a 201 ((57,.bool true) :: [(0,pkV p s),(1,.pointer (some ⟨w.heap.size,0,none⟩)),(2,.bool false)])→RS p s w W→rc1 p=false→wpAnyH Try.prog .any ops Q (RS p s w) 19 (Lst 72 53) a W:=by
  intro a W F hS hF
  refine st_skip F 53 58 (RD 53 (by decide) (by decide)) R.r53 (want_y rfl (F.yl R.r52 rfl (.head _)) false rfl) rfl (by decide) rfl hS ?_
  clear F;intro a F
  refine st_skip F 54 59 (RD 54 (by decide) (by decide)) R.r54 (want_y rfl (F.yl R.r52 rfl (.tail _ (.head _))) false rfl) rfl (by decide) rfl hS ?_
  clear F;intro a F
  refine st_skip F 55 60 (RD 55 (by decide) (by decide)) R.r55 (want_y rfl (F.yl R.r52 rfl (.tail _ (.tail _ (.head _)))) false rfl) rfl (by decide) rfl hS ?_
  clear F;intro a F
  refine st_skip F 56 61 (RD 56 (by decide) (by decide)) R.r56 (want_y rfl (F.yl R.r52 rfl (.tail _ (.tail _ (.tail _ (.head _))))) false rfl) rfl (by decide) rfl hS ?_
  clear F;intro a F
  refine st_skip F 57 62 (RD 57 (by decide) (by decide)) R.r57 (want_y rfl (F.yl R.r52 rfl (.tail _ (.tail _ (.tail _ (.tail _ (.head _)))))) false rfl) rfl (by decide) rfl hS ?_
  clear F;intro a F
  refine st_do F 58 63 (.bool true) (RD 58 (by decide) (by decide)) R.r58 (want_0 rfl) (by simp [execOp,F.ev (.tail _ (.tail _ (.tail _ (.tail _ (.tail _ (.head _)))))),BigFrame.eval_const,asBool]) rfl (by decide) rfl hS ?_
  clear F;intro a F
  refine st_do F 59 64 (.bool true) (RD 59 (by decide) (by decide)) R.r59 (want_0 rfl) (by simp [execOp,F.ev (.head _)]) rfl (by decide) rfl hS ?_
  clear F;intro a F
  replace F:=F.base (.head _) (fun x hx=>.tail _ (.tail _ (.tail _ (.tail _ (.tail _ (.tail _ (.tail _ (.tail _ (hx)))))))))
  exact T60 a W F hS hF
 have T46:∀(a:Act) (W:World),KD a 201 ((50,.bool true) :: [(0,pkV p s),(1,.pointer (some ⟨w.heap.size,0,none⟩)),(2,.bool false)])→RS p s w W→rc1 p=false→wpAnyH Try.prog .any ops Q (RS p s w) 26 (Lst 72 46) a W:=by
  intro a W F hS hF
  refine st_skip F 46 51 (RD 46 (by decide) (by decide)) R.r46 (want_y rfl (F.yl R.r45 rfl (.head _)) false rfl) rfl (by decide) rfl hS ?_
  clear F;intro a F
  refine st_skip F 47 52 (RD 47 (by decide) (by decide)) R.r47 (want_y rfl (F.yl R.r45 rfl (.tail _ (.head _))) false rfl) rfl (by decide) rfl hS ?_
  clear F;intro a F
  refine st_skip F 48 53 (RD 48 (by decide) (by decide)) R.r48 (want_y rfl (F.yl R.r45 rfl (.tail _ (.tail _ (.head _)))) false rfl) rfl (by decide) rfl hS ?_
  clear F;intro a F
  refine st_skip F 49 54 (RD 49 (by decide) (by decide)) R.r49 (want_y rfl (F.yl R.r45 rfl (.tail _ (.tail _ (.tail _ (.head _))))) false rfl) rfl (by decide) rfl hS ?_
  clear F;intro a F
  refine st_skip F 50 55 (RD 50 (by decide) (by decide)) R.r50 (want_y rfl (F.yl R.r45 rfl (.tail _ (.tail _ (.tail _ (.tail _ (.head _)))))) false rfl) rfl (by decide) rfl hS ?_
  clear F;intro a F
  refine st_do F 51 56 (.bool true) (RD 51 (by decide) (by decide)) R.r51 (want_0 rfl) (by simp [execOp,F.ev (.tail _ (.tail _ (.tail _ (.tail _ (.tail _ (.head _)))))),BigFrame.eval_const,asBool]) rfl (by decide) rfl hS ?_
  clear F;intro a F
  refine st_do F 52 57 (.bool true) (RD 52 (by decide) (by decide)) R.r52 (want_0 rfl) (by simp [execOp,F.ev (.head _)]) rfl (by decide) rfl hS ?_
  clear F;intro a F
  replace F:=F.base (.head _) (fun x hx=>.tail _ (.tail _ (.tail _ (.tail _ (.tail _ (.tail _ (.tail _ (.tail _ (hx)))))))))
  exact T53 a W F hS hF
 have T40:∀(a:Act) (W:World),KD a 201 ((44,.bool true) :: [(0,pkV p s),(1,.pointer (some ⟨w.heap.size,0,none⟩)),(2,.bool false)])→RS p s w W→rc1 p=false→wpAnyH Try.prog .any ops Q (RS p s w) 32 (Lst 72 40) a W:=by
  intro a W F hS hF
  refine st_skip F 40 45 (RD 40 (by decide) (by decide)) R.r40 (want_y rfl (F.yl R.r39 rfl (.head _)) false rfl) rfl (by decide) rfl hS ?_
  clear F;intro a F
  refine st_skip F 41 46 (RD 41 (by decide) (by decide)) R.r41 (want_y rfl (F.yl R.r39 rfl (.tail _ (.head _))) false rfl) rfl (by decide) rfl hS ?_
  clear F;intro a F
  refine st_skip F 42 47 (RD 42 (by decide) (by decide)) R.r42 (want_y rfl (F.yl R.r39 rfl (.tail _ (.tail _ (.head _)))) false rfl) rfl (by decide) rfl hS ?_
  clear F;intro a F
  refine st_skip F 43 48 (RD 43 (by decide) (by decide)) R.r43 (want_y rfl (F.yl R.r39 rfl (.tail _ (.tail _ (.tail _ (.head _))))) false rfl) rfl (by decide) rfl hS ?_
  clear F;intro a F
  refine st_do F 44 49 (.bool true) (RD 44 (by decide) (by decide)) R.r44 (want_0 rfl) (by simp [execOp,F.ev (.tail _ (.tail _ (.tail _ (.tail _ (.head _))))),BigFrame.eval_const,asBool]) rfl (by decide) rfl hS ?_
  clear F;intro a F
  refine st_do F 45 50 (.bool true) (RD 45 (by decide) (by decide)) R.r45 (want_0 rfl) (by simp [execOp,F.ev (.head _)]) rfl (by decide) rfl hS ?_
  clear F;intro a F
  replace F:=F.base (.head _) (fun x hx=>.tail _ (.tail _ (.tail _ (.tail _ (.tail _ (.tail _ (.tail _ (hx))))))))
  exact T46 a W F hS hF
 have T34:∀(a:Act) (W:World),KD a 201 ((38,.bool true) :: [(0,pkV p s),(1,.pointer (some ⟨w.heap.size,0,none⟩)),(2,.bool false)])→RS p s w W→rc1 p=false→wpAnyH Try.prog .any ops Q (RS p s w) 38 (Lst 72 34) a W:=by
  intro a W F hS hF
  refine st_skip F 34 39 (RD 34 (by decide) (by decide)) R.r34 (want_y rfl (F.yl R.r33 rfl (.head _)) false rfl) rfl (by decide) rfl hS ?_
  clear F;intro a F
  refine st_skip F 35 40 (RD 35 (by decide) (by decide)) R.r35 (want_y rfl (F.yl R.r33 rfl (.tail _ (.head _))) false rfl) rfl (by decide) rfl hS ?_
  clear F;intro a F
  refine st_skip F 36 41 (RD 36 (by decide) (by decide)) R.r36 (want_y rfl (F.yl R.r33 rfl (.tail _ (.tail _ (.head _)))) false rfl) rfl (by decide) rfl hS ?_
  clear F;intro a F
  refine st_skip F 37 42 (RD 37 (by decide) (by decide)) R.r37 (want_y rfl (F.yl R.r33 rfl (.tail _ (.tail _ (.tail _ (.head _))))) false rfl) rfl (by decide) rfl hS ?_
  clear F;intro a F
  refine st_do F 38 43 (.bool true) (RD 38 (by decide) (by decide)) R.r38 (want_0 rfl) (by simp [execOp,F.ev (.tail _ (.tail _ (.tail _ (.tail _ (.head _))))),BigFrame.eval_const,asBool]) rfl (by decide) rfl hS ?_
  clear F;intro a F
  refine st_do F 39 44 (.bool true) (RD 39 (by decide) (by decide)) R.r39 (want_0 rfl) (by simp [execOp,F.ev (.head _)]) rfl (by decide) rfl hS ?_
  clear F;intro a F
  replace F:=F.base (.head _) (fun x hx=>.tail _ (.tail _ (.tail _ (.tail _ (.tail _ (.tail _ (.tail _ (hx))))))))
  exact T40 a W F hS hF
 have T28:∀(a:Act) (W:World),KD a 201 ((32,.bool true) :: [(0,pkV p s),(1,.pointer (some ⟨w.heap.size,0,none⟩)),(2,.bool false)])→RS p s w W→rc1 p=false→wpAnyH Try.prog .any ops Q (RS p s w) 44 (Lst 72 28) a W:=by
  intro a W F hS hF
  refine st_skip F 28 33 (RD 28 (by decide) (by decide)) R.r28 (want_y rfl (F.yl R.r27 rfl (.head _)) false rfl) rfl (by decide) rfl hS ?_
  clear F;intro a F
  refine st_skip F 29 34 (RD 29 (by decide) (by decide)) R.r29 (want_y rfl (F.yl R.r27 rfl (.tail _ (.head _))) false rfl) rfl (by decide) rfl hS ?_
  clear F;intro a F
  refine st_skip F 30 35 (RD 30 (by decide) (by decide)) R.r30 (want_y rfl (F.yl R.r27 rfl (.tail _ (.tail _ (.head _)))) false rfl) rfl (by decide) rfl hS ?_
  clear F;intro a F
  refine st_skip F 31 36 (RD 31 (by decide) (by decide)) R.r31 (want_y rfl (F.yl R.r27 rfl (.tail _ (.tail _ (.tail _ (.head _))))) false rfl) rfl (by decide) rfl hS ?_
  clear F;intro a F
  refine st_do F 32 37 (.bool true) (RD 32 (by decide) (by decide)) R.r32 (want_0 rfl) (by simp [execOp,F.ev (.tail _ (.tail _ (.tail _ (.tail _ (.head _))))),BigFrame.eval_const,asBool]) rfl (by decide) rfl hS ?_
  clear F;intro a F
  refine st_do F 33 38 (.bool true) (RD 33 (by decide) (by decide)) R.r33 (want_0 rfl) (by simp [execOp,F.ev (.head _)]) rfl (by decide) rfl hS ?_
  clear F;intro a F
  replace F:=F.base (.head _) (fun x hx=>.tail _ (.tail _ (.tail _ (.tail _ (.tail _ (.tail _ (.tail _ (hx))))))))
  exact T34 a W F hS hF
 have T22:∀(a:Act) (W:World),KD a 201 ((26,.bool true) :: [(0,pkV p s),(1,.pointer (some ⟨w.heap.size,0,none⟩)),(2,.bool false)])→RS p s w W→rc1 p=false→wpAnyH Try.prog .any ops Q (RS p s w) 50 (Lst 72 22) a W:=by
  intro a W F hS hF
  refine st_skip F 22 27 (RD 22 (by decide) (by decide)) R.r22 (want_y rfl (F.yl R.r21 rfl (.head _)) false rfl) rfl (by decide) rfl hS ?_
  clear F;intro a F
  refine st_skip F 23 28 (RD 23 (by decide) (by decide)) R.r23 (want_y rfl (F.yl R.r21 rfl (.tail _ (.head _))) false rfl) rfl (by decide) rfl hS ?_
  clear F;intro a F
  refine st_skip F 24 29 (RD 24 (by decide) (by decide)) R.r24 (want_y rfl (F.yl R.r21 rfl (.tail _ (.tail _ (.head _)))) false rfl) rfl (by decide) rfl hS ?_
  clear F;intro a F
  refine st_skip F 25 30 (RD 25 (by decide) (by decide)) R.r25 (want_y rfl (F.yl R.r21 rfl (.tail _ (.tail _ (.tail _ (.head _))))) false rfl) rfl (by decide) rfl hS ?_
  clear F;intro a F
  refine st_do F 26 31 (.bool true) (RD 26 (by decide) (by decide)) R.r26 (want_0 rfl) (by simp [execOp,F.ev (.tail _ (.tail _ (.tail _ (.tail _ (.head _))))),BigFrame.eval_const,asBool]) rfl (by decide) rfl hS ?_
  clear F;intro a F
  refine st_do F 27 32 (.bool true) (RD 27 (by decide) (by decide)) R.r27 (want_0 rfl) (by simp [execOp,F.ev (.head _)]) rfl (by decide) rfl hS ?_
  clear F;intro a F
  replace F:=F.base (.head _) (fun x hx=>.tail _ (.tail _ (.tail _ (.tail _ (.tail _ (.tail _ (.tail _ (hx))))))))
  exact T28 a W F hS hF
 have T12:∀(a:Act) (W:World),KD a 201 ((16,.bool true) :: [(0,pkV p s),(1,.pointer (some ⟨w.heap.size,0,none⟩)),(2,.bool false)])→RS p s w W→rc1 p=false→wpAnyH Try.prog .any ops Q (RS p s w) 60 (Lst 72 12) a W:=by
  intro a W F hS hF
  refine st_skip F 12 17 (RD 12 (by decide) (by decide)) R.r12 (want_y rfl (F.yl R.r11 rfl (.head _)) false rfl) rfl (by decide) rfl hS ?_
  clear F;intro a F
  refine st_skip F 13 18 (RD 13 (by decide) (by decide)) R.r13 (want_y rfl (F.yl R.r11 rfl (.tail _ (.head _))) false rfl) rfl (by decide) rfl hS ?_
  clear F;intro a F
  refine st_skip F 14 19 (RD 14 (by decide) (by decide)) R.r14 (want_y rfl (F.yl R.r11 rfl (.tail _ (.tail _ (.head _)))) false rfl) rfl (by decide) rfl hS ?_
  clear F;intro a F
  refine st_skip F 15 20 (RD 15 (by decide) (by decide)) R.r15 (want_z rfl (F.yn R.r14 rfl (.head _))) rfl (by decide) rfl hS ?_
  clear F;intro a F
  refine st_skip F 16 21 (RD 16 (by decide) (by decide)) R.r16 (want_z rfl (F.yn R.r14 rfl (.tail _ (.head _)))) rfl (by decide) rfl hS ?_
  clear F;intro a F
  refine st_skip F 17 22 (RD 17 (by decide) (by decide)) R.r17 (want_z rfl (F.yn R.r14 rfl (.tail _ (.tail _ (.head _))))) rfl (by decide) rfl hS ?_
  clear F;intro a F
  refine st_skip F 18 23 (RD 18 (by decide) (by decide)) R.r18 (want_z rfl (F.yn R.r14 rfl (.tail _ (.tail _ (.tail _ (.head _)))))) rfl (by decide) rfl hS ?_
  clear F;intro a F
  refine st_skip F 19 24 (RD 19 (by decide) (by decide)) R.r19 (want_y rfl (F.yl R.r11 rfl (.tail _ (.tail _ (.tail _ (.tail _ (.tail _ (.tail _ (.tail _ (.head _))))))))) false rfl) rfl (by decide) rfl hS ?_
  clear F;intro a F
  refine st_do F 20 25 (.bool true) (RD 20 (by decide) (by decide)) R.r20 (want_0 rfl) (by simp [execOp,F.ev (.tail _ (.tail _ (.tail _ (.tail _ (.tail _ (.tail _ (.tail _ (.tail _ (.head _))))))))),BigFrame.eval_const,asBool]) rfl (by decide) rfl hS ?_
  clear F;intro a F
  refine st_do F 21 26 (.bool true) (RD 21 (by decide) (by decide)) R.r21 (want_0 rfl) (by simp [execOp,F.ev (.head _)]) rfl (by decide) rfl hS ?_
  clear F;intro a F
  replace F:=F.base (.head _) (fun x hx=>.tail _ (.tail _ (.tail _ (.tail _ (.tail _ (.tail _ (.tail _ (.tail _ (.tail _ (.tail _ (.tail _ (hx))))))))))))
  exact T22 a W F hS hF
 have T5:∀(a:Act) (W:World),KD a 201 ((9,.bool true) :: [(0,pkV p s),(1,.pointer (some ⟨w.heap.size,0,none⟩)),(2,.bool false)])→RS p s w W→rc1 p=false→wpAnyH Try.prog .any ops Q (RS p s w) 67 (Lst 72 5) a W:=by
  intro a W F hS hF
  refine st_take F 5 10 undef R.r5 h5.1 h5.2.1 h5.2.2 hQ (.inr ⟨(want_y rfl (F.yl R.r4 rfl (.head _)) false rfl),rfl⟩) rfl (by decide) rfl hS ?_
  clear F;intro a F
  refine st_skip F 6 11 (RD 6 (by decide) (by decide)) R.r6 (want_y rfl (F.yl R.r4 rfl (.tail _ (.head _))) false rfl) rfl (by decide) rfl hS ?_
  clear F;intro a F
  refine st_skip F 7 12 (RD 7 (by decide) (by decide)) R.r7 (want_y rfl (F.yl R.r4 rfl (.tail _ (.tail _ (.head _)))) false rfl) rfl (by decide) rfl hS ?_
  clear F;intro a F
  refine st_skip F 8 13 (RD 8 (by decide) (by decide)) R.r8 (want_y rfl (F.yl R.r4 rfl (.tail _ (.tail _ (.tail _ (.head _))))) false rfl) rfl (by decide) rfl hS ?_
  clear F;intro a F
  refine st_skip F 9 14 (RD 9 (by decide) (by decide)) R.r9 (want_y rfl (F.yl R.r4 rfl (.tail _ (.tail _ (.tail _ (.tail _ (.head _)))))) false rfl) rfl (by decide) rfl hS ?_
  clear F;intro a F
  refine st_do F 10 15 (.bool true) (RD 10 (by decide) (by decide)) R.r10 (want_0 rfl) (by simp [execOp,F.ev (.tail _ (.tail _ (.tail _ (.tail _ (.tail _ (.head _)))))),BigFrame.eval_const,asBool]) rfl (by decide) rfl hS ?_
  clear F;intro a F
  refine st_do F 11 16 (.bool true) (RD 11 (by decide) (by decide)) R.r11 (want_0 rfl) (by simp [execOp,F.ev (.head _)]) rfl (by decide) rfl hS ?_
  clear F;intro a F
  replace F:=F.base (.head _) (fun x hx=>.tail _ (.tail _ (.tail _ (.tail _ (.tail _ (.tail _ (.tail _ (.tail _ (hx)))))))))
  exact T12 a W F hS hF
 have P67:∀(a:Act) (W:World),KD a 201 ((71,.bool false) :: [(0,pkV p s),(1,.pointer (some ⟨w.heap.size,0,none⟩)),(2,.bool false)])→RS p s w W→rc1 p=(decide (p.pass.length≤65535) && true)→wpAnyH Try.prog .any ops Q (RS p s w) 5 (Lst 72 67) a W:=by
  intro a W F hS hR
  refine st_do F 67 72 (.pointer (some ⟨w.heap.size,19,none⟩)) (RD 67 (by decide) (by decide)) R.r67 (want_y rfl (F.yl R.r66 rfl (.head _)) true rfl) (by simp [execOp,go_sem,F.raw (.tail _ (.tail _ (.head _)))]) rfl (by decide) rfl hS ?_
  clear F;intro a F
  refine st_do F 68 73 (.slice s.uA p.pass.length s.uC) (RD 68 (by decide) (by decide)) R.r68 (want_y rfl (F.yl R.r66 rfl (.tail _ (.head _))) true rfl) (by simp [execOp,go_sem,F.raw (.head _),row_cells hS.1]) rfl (by decide) rfl hS ?_
  clear F;intro a F
  refine st_do F 69 74 (.int .i64 (p.pass.length:Nat)) (RD 69 (by decide) (by decide)) R.r69 (want_y rfl (F.yl R.r66 rfl (.tail _ (.tail _ (.head _)))) true rfl) (by simp [go_sem,F.raw (.head _)]) rfl (by decide) rfl hS ?_
  clear F;intro a F
  rcases dc:decide (p.pass.length≤65535) with _ | _
  ·rw [dc] at hR
   simp at dc
   refine st_do F 70 75 (.bool true) (RD 70 (by decide) (by decide)) R.r70 (want_y rfl (F.yl R.r66 rfl (.tail _ (.tail _ (.tail _ (.head _))))) true rfl) (by simp [execOp,go_sem,F.raw (.head _)];omega) rfl (by decide) rfl hS ?_
   clear F;intro a F
   refine st_do F 71 76 (.bool true) (RD 71 (by decide) (by decide)) R.r71 (want_0 rfl) (by simp [execOp,F.ev (.tail _ (.tail _ (.tail _ (.tail _ (.head _))))),F.ev (.head _),asBool]) rfl (by decide) rfl hS ?_
   clear F;intro a F
   replace F:=F.base (.head _) (fun x hx=>.tail _ (.tail _ (.tail _ (.tail _ (.tail _ (.tail _ (hx)))))))
   refine wpAnyH_done RE ?_ _
   refine K a W ?_ hS
   rw [show rc1 p=false by rw [hR];rfl];exact F
  ·rw [dc] at hR
   simp at dc
   refine st_do F 70 75 (.bool false) (RD 70 (by decide) (by decide)) R.r70 (want_y rfl (F.yl R.r66 rfl (.tail _ (.tail _ (.tail _ (.head _))))) true rfl) (by simp [execOp,go_sem,F.raw (.head _)];omega) rfl (by decide) rfl hS ?_
   clear F;intro a F
   refine st_do F 71 76 (.bool false) (RD 71 (by decide) (by decide)) R.r71 (want_0 rfl) (by simp [execOp,F.ev (.tail _ (.tail _ (.tail _ (.tail _ (.head _))))),F.ev (.head _),asBool]) rfl (by decide) rfl hS ?_
   clear F;intro a F
   replace F:=F.base (.head _) (fun x hx=>.tail _ (.tail _ (.tail _ (.tail _ (.tail _ (.tail _ (hx)))))))
   refine wpAnyH_done RE ?_ _
   refine K a W ?_ hS
   rw [show rc1 p=true by rw [hR];rfl];exact F
 have P60:∀(a:Act) (W:World),KD a 201 ((64,.bool false) :: [(0,pkV p s),(1,.pointer (some ⟨w.heap.size,0,none⟩)),(2,.bool false)])→RS p s w W→rc1 p=(decide (p.wpay.length≤65535) && (decide (p.pass.length≤65535) && true))→wpAnyH Try.prog .any ops Q (RS p s w) 12 (Lst 72 60) a W:=by
  intro a W F hS hR
  refine st_do F 60 65 (.pointer (some ⟨w.heap.size,12,none⟩)) (RD 60 (by decide) (by decide)) R.r60 (want_y rfl (F.yl R.r59 rfl (.head _)) true rfl) (by simp [execOp,go_sem,F.raw (.tail _ (.tail _ (.head _)))]) rfl (by decide) rfl hS ?_
  clear F;intro a F
  refine st_do F 61 66 (.pointer (some ⟨w.heap.size,13,none⟩)) (RD 61 (by decide) (by decide)) R.r61 (want_y rfl (F.yl R.r59 rfl (.tail _ (.head _))) true rfl) (by simp [execOp,go_sem,F.raw (.head _)]) rfl (by decide) rfl hS ?_
  clear F;intro a F
  refine st_do F 62 67 (.slice s.wA p.wpay.length s.wC) (RD 62 (by decide) (by decide)) R.r62 (want_y rfl (F.yl R.r59 rfl (.tail _ (.tail _ (.head _)))) true rfl) (by simp [execOp,go_sem,F.raw (.head _),row_cells hS.1]) rfl (by decide) rfl hS ?_
  clear F;intro a F
  refine st_do F 63 68 (.int .i64 (p.wpay.length:Nat)) (RD 63 (by decide) (by decide)) R.r63 (want_y rfl (F.yl R.r59 rfl (.tail _ (.tail _ (.tail _ (.head _))))) true rfl) (by simp [go_sem,F.raw (.head _)]) rfl (by decide) rfl hS ?_
  clear F;intro a F
  rcases dc:decide (p.wpay.length≤65535) with _ | _
  ·rw [dc] at hR
   simp at dc
   refine st_do F 64 69 (.bool true) (RD 64 (by decide) (by decide)) R.r64 (want_y rfl (F.yl R.r59 rfl (.tail _ (.tail _ (.tail _ (.tail _ (.head _)))))) true rfl) (by simp [execOp,go_sem,F.raw (.head _)];omega) rfl (by decide) rfl hS ?_
   clear F;intro a F
   refine st_do F 65 70 (.bool true) (RD 65 (by decide) (by decide)) R.r65 (want_0 rfl) (by simp [execOp,F.ev (.tail _ (.tail _ (.tail _ (.tail _ (.tail _ (.head _)))))),F.ev (.head _),asBool]) rfl (by decide) rfl hS ?_
   clear F;intro a F
   refine st_do F 66 71 (.bool true) (RD 66 (by decide) (by decide)) R.r66 (want_0 rfl) (by simp [execOp,F.ev (.head _)]) rfl (by decide) rfl hS ?_
   clear F;intro a F
   replace F:=F.base (.head _) (fun x hx=>.tail _ (.tail _ (.tail _ (.tail _ (.tail _ (.tail _ (.tail _ (.tail _ (hx)))))))))
   exact T67 a W F hS (by rw [hR];rfl)
  ·rw [dc] at hR
   simp at dc
   refine st_do F 64 69 (.bool false) (RD 64 (by decide) (by decide)) R.r64 (want_y rfl (F.yl R.r59 rfl (.tail _ (.tail _ (.tail _ (.tail _ (.head _)))))) true rfl) (by simp [execOp,go_sem,F.raw (.head _)];omega) rfl (by decide) rfl hS ?_
   clear F;intro a F
   refine st_do F 65 70 (.bool false) (RD 65 (by decide) (by decide)) R.r65 (want_0 rfl) (by simp [execOp,F.ev (.tail _ (.tail _ (.tail _ (.tail _ (.tail _ (.head _)))))),F.ev (.head _),asBool]) rfl (by decide) rfl hS ?_
   clear F;intro a F
   refine st_do F 66 71 (.bool false) (RD 66 (by decide) (by decide)) R.r66 (want_0 rfl) (by simp [execOp,F.ev (.head _)]) rfl (by decide) rfl hS ?_
   clear F;intro a F
   replace F:=F.base (.head _) (fun x hx=>.tail _ (.tail _ (.tail _ (.tail _ (.tail _ (.tail _ (.tail _ (.tail _ (hx)))))))))
   exact P67 a W F hS (by rw [hR];rfl)
 have P53:∀(a:Act) (W:World),KD a 201 ((57,.bool false) :: [(0,pkV p s),(1,.pointer (some ⟨w.heap.size,0,none⟩)),(2,.bool false)])→RS p s w W→rc1 p=(inI p.wqos 0 2 && (decide (p.wpay.length≤65535) && (decide (p.pass.length≤65535) && true)))→wpAnyH Try.prog .any ops Q (RS p s w) 19 (Lst 72 53) a W:=by
  intro a W F hS hR
  refine st_do F 53 58 (.pointer (some ⟨w.heap.size,12,none⟩)) (RD 53 (by decide) (by decide)) R.r53 (want_y rfl (F.yl R.r52 rfl (.head _)) true rfl) (by simp [execOp,go_sem,F.raw (.tail _ (.tail _ (.head _)))]) rfl (by decide) rfl hS ?_
  clear F;intro a F
  refine st_do F 54 59 (.pointer (some ⟨w.heap.size,14,none⟩)) (RD 54 (by decide) (by decide)) R.r54 (want_y rfl (F.yl R.r52 rfl (.tail _ (.head _))) true rfl) (by simp [execOp,go_sem,F.raw (.head _)]) rfl (by decide) rfl hS ?_
  clear F;intro a F
  refine st_do F 55 60 (.int .i64 p.wqos) (RD 55 (by decide) (by decide)) R.r55 (want_y rfl (F.yl R.r52 rfl (.tail _ (.tail _ (.head _)))) true rfl) (by simp [execOp,go_sem,F.raw (.head _),row_cells hS.1]) rfl (by decide) rfl hS ?_
  clear F;intro a F
  rcases dc:inI p.wqos 0 2 with _ | _
  ·rw [dc] at hR
   refine st_call F 56 61 (.bool false) (RD 56 (by decide) (by decide)) R.r56 (want_y rfl (F.yl R.r52 rfl (.tail _ (.tail _ (.tail _ (.head _))))) true rfl) (by rfl) (args':=#[.int .i64 p.wqos,.int .i64 0,.int .i64 2]) (by simp [F.ev (.head _),BigFrame.eval_const]) rfl (by decide) rfl ((rin_any (p.wqos) 0 2 _).mono (by rintro e w' ⟨rfl,rfl⟩;exact ⟨by rw [dc],hS⟩)) ?_
   clear F hS;intro a W F hS
   refine st_do F 57 62 (.bool true) (RD 57 (by decide) (by decide)) R.r57 (want_y rfl (F.yl R.r52 rfl (.tail _ (.tail _ (.tail _ (.tail _ (.head _)))))) true rfl) (by simp [execOp,go_sem,F.raw (.head _)]) rfl (by decide) rfl hS ?_
   clear F;intro a F
   refine st_do F 58 63 (.bool true) (RD 58 (by decide) (by decide)) R.r58 (want_0 rfl) (by simp [execOp,F.ev (.tail _ (.tail _ (.tail _ (.tail _ (.tail _ (.head _)))))),F.ev (.head _),asBool]) rfl (by decide) rfl hS ?_
   clear F;intro a F
   refine st_do F 59 64 (.bool true) (RD 59 (by decide) (by decide)) R.r59 (want_0 rfl) (by simp [execOp,F.ev (.head _)]) rfl (by decide) rfl hS ?_
   clear F;intro a F
   replace F:=F.base (.head _) (fun x hx=>.tail _ (.tail _ (.tail _ (.tail _ (.tail _ (.tail _ (.tail _ (.tail _ (hx)))))))))
   exact T60 a W F hS (by rw [hR];rfl)
  ·rw [dc] at hR
   refine st_call F 56 61 (.bool true) (RD 56 (by decide) (by decide)) R.r56 (want_y rfl (F.yl R.r52 rfl (.tail _ (.tail _ (.tail _ (.head _))))) true rfl) (by rfl) (args':=#[.int .i64 p.wqos,.int .i64 0,.int .i64 2]) (by simp [F.ev (.head _),BigFrame.eval_const]) rfl (by decide) rfl ((rin_any (p.wqos) 0 2 _).mono (by rintro e w' ⟨rfl,rfl⟩;exact ⟨by rw [dc],hS⟩)) ?_
   clear F hS;intro a W F hS
   refine st_do F 57 62 (.bool false) (RD 57 (by decide) (by decide)) R.r57 (want_y rfl (F.yl R.r52 rfl (.tail _ (.tail _ (.tail _ (.tail _ (.head _)))))) true rfl) (by simp [execOp,go_sem,F.raw (.head _)]) rfl (by decide) rfl hS ?_
   clear F;intro a F
   refine st_do F 58 63 (.bool false) (RD 58 (by decide) (by decide)) R.r58 (want_0 rfl) (by simp [execOp,F.ev (.tail _ (.tail _ (.tail _ (.tail _ (.tail _ (.head _)))))),F.ev (.head _),asBool]) rfl (by decide) rfl hS ?_
   clear F;intro a F
   refine st_do F 59 64 (.bool false) (RD 59 (by decide) (by decide)) R.r59 (want_0 rfl) (by simp [execOp,F.ev (.head _)]) rfl (by decide) rfl hS ?_
   clear F;intro a F
   replace F:=F.base (.head _) (fun x hx=>.tail _ (.tail _ (.tail _ (.tail _ (.tail _ (.tail _ (.tail _ (.tail _ (hx)))))))))
   exact P60 a W F hS (by rw [hR];rfl)
 have P46:∀(a:Act) (W:World),KD a 201 ((50,.bool false) :: [(0,pkV p s),(1,.pointer (some ⟨w.heap.size,0,none⟩)),(2,.bool false)])→RS p s w W→rc1 p=(rtxt p.wtop && (inI p.wqos 0 2 && (decide (p.wpay.length≤65535) && (decide (p.pass.length≤65535) && true))))→wpAnyH Try.prog .any ops Q (RS p s w) 26 (Lst 72 46) a W:=by
  intro a W F hS hR
  refine st_do F 46 51 (.pointer (some ⟨w.heap.size,12,none⟩)) (RD 46 (by decide) (by decide)) R.r46 (want_y rfl (F.yl R.r45 rfl (.head _)) true rfl) (by simp [execOp,go_sem,F.raw (.tail _ (.tail _ (.head _)))]) rfl (by decide) rfl hS ?_
  clear F;intro a F
  refine st_do F 47 52 (.pointer (some ⟨w.heap.size,12,none⟩)) (RD 47 (by decide) (by decide)) R.r47 (want_y rfl (F.yl R.r45 rfl (.tail _ (.head _))) true rfl) (by simp [execOp,go_sem,F.raw (.head _)]) rfl (by decide) rfl hS ?_
  clear F;intro a F
  refine st_do F 48 53 (.string p.wtop) (RD 48 (by decide) (by decide)) R.r48 (want_y rfl (F.yl R.r45 rfl (.tail _ (.tail _ (.head _)))) true rfl) (by simp [execOp,go_sem,F.raw (.head _),row_cells hS.1]) rfl (by decide) rfl hS ?_
  clear F;intro a F
  rcases dc:rtxt p.wtop with _ | _
  ·rw [dc] at hR
   refine st_call F 49 54 (.bool false) (RD 49 (by decide) (by decide)) R.r49 (want_y rfl (F.yl R.r45 rfl (.tail _ (.tail _ (.tail _ (.head _))))) true rfl) (by rfl) (args':=#[.string p.wtop]) (by simp [F.ev (.head _)]) rfl (by decide) rfl ((rtext_any (p.wtop) _ OK.out.wtop).mono (by rintro e w' ⟨rfl,hb⟩;exact ⟨by rw [dc],⟨heap_below hb hS.1,thn hS.2 hb⟩⟩)) ?_
   clear F hS;intro a W F hS
   refine st_do F 50 55 (.bool true) (RD 50 (by decide) (by decide)) R.r50 (want_y rfl (F.yl R.r45 rfl (.tail _ (.tail _ (.tail _ (.tail _ (.head _)))))) true rfl) (by simp [execOp,go_sem,F.raw (.head _)]) rfl (by decide) rfl hS ?_
   clear F;intro a F
   refine st_do F 51 56 (.bool true) (RD 51 (by decide) (by decide)) R.r51 (want_0 rfl) (by simp [execOp,F.ev (.tail _ (.tail _ (.tail _ (.tail _ (.tail _ (.head _)))))),F.ev (.head _),asBool]) rfl (by decide) rfl hS ?_
   clear F;intro a F
   refine st_do F 52 57 (.bool true) (RD 52 (by decide) (by decide)) R.r52 (want_0 rfl) (by simp [execOp,F.ev (.head _)]) rfl (by decide) rfl hS ?_
   clear F;intro a F
   replace F:=F.base (.head _) (fun x hx=>.tail _ (.tail _ (.tail _ (.tail _ (.tail _ (.tail _ (.tail _ (.tail _ (hx)))))))))
   exact T53 a W F hS (by rw [hR];rfl)
  ·rw [dc] at hR
   refine st_call F 49 54 (.bool true) (RD 49 (by decide) (by decide)) R.r49 (want_y rfl (F.yl R.r45 rfl (.tail _ (.tail _ (.tail _ (.head _))))) true rfl) (by rfl) (args':=#[.string p.wtop]) (by simp [F.ev (.head _)]) rfl (by decide) rfl ((rtext_any (p.wtop) _ OK.out.wtop).mono (by rintro e w' ⟨rfl,hb⟩;exact ⟨by rw [dc],⟨heap_below hb hS.1,thn hS.2 hb⟩⟩)) ?_
   clear F hS;intro a W F hS
   refine st_do F 50 55 (.bool false) (RD 50 (by decide) (by decide)) R.r50 (want_y rfl (F.yl R.r45 rfl (.tail _ (.tail _ (.tail _ (.tail _ (.head _)))))) true rfl) (by simp [execOp,go_sem,F.raw (.head _)]) rfl (by decide) rfl hS ?_
   clear F;intro a F
   refine st_do F 51 56 (.bool false) (RD 51 (by decide) (by decide)) R.r51 (want_0 rfl) (by simp [execOp,F.ev (.tail _ (.tail _ (.tail _ (.tail _ (.tail _ (.head _)))))),F.ev (.head _),asBool]) rfl (by decide) rfl hS ?_
   clear F;intro a F
   refine st_do F 52 57 (.bool false) (RD 52 (by decide) (by decide)) R.r52 (want_0 rfl) (by simp [execOp,F.ev (.head _)]) rfl (by decide) rfl hS ?_
   clear F;intro a F
   replace F:=F.base (.head _) (fun x hx=>.tail _ (.tail _ (.tail _ (.tail _ (.tail _ (.tail _ (.tail _ (.tail _ (hx)))))))))
   exact P53 a W F hS (by rw [hR];rfl)
 have P40:∀(a:Act) (W:World),KD a 201 ((44,.bool false) :: [(0,pkV p s),(1,.pointer (some ⟨w.heap.size,0,none⟩)),(2,.bool false)])→RS p s w W→rc1 p=(rtxt p.user && (rtxt p.wtop && (inI p.wqos 0 2 && (decide (p.wpay.length≤65535) && (decide (p.pass.length≤65535) && true)))))→wpAnyH Try.prog .any ops Q (RS p s w) 32 (Lst 72 40) a W:=by
  intro a W F hS hR
  refine st_do F 40 45 (.pointer (some ⟨w.heap.size,18,none⟩)) (RD 40 (by decide) (by decide)) R.r40 (want_y rfl (F.yl R.r39 rfl (.head _)) true rfl) (by simp [execOp,go_sem,F.raw (.tail _ (.tail _ (.head _)))]) rfl (by decide) rfl hS ?_
  clear F;intro a F
  refine st_do F 41 46 (.string p.user) (RD 41 (by decide) (by decide)) R.r41 (want_y rfl (F.yl R.r39 rfl (.tail _ (.head _))) true rfl) (by simp [execOp,go_sem,F.raw (.head _),row_cells hS.1]) rfl (by decide) rfl hS ?_
  clear F;intro a F
  rcases dc:rtxt p.user with _ | _
  ·rw [dc] at hR
   refine st_call F 42 47 (.bool false) (RD 42 (by decide) (by decide)) R.r42 (want_y rfl (F.yl R.r39 rfl (.tail _ (.tail _ (.head _)))) true rfl) (by rfl) (args':=#[.string p.user]) (by simp [F.ev (.head _)]) rfl (by decide) rfl ((rtext_any (p.user) _ OK.out.user).mono (by rintro e w' ⟨rfl,hb⟩;exact ⟨by rw [dc],⟨heap_below hb hS.1,thn hS.2 hb⟩⟩)) ?_
   clear F hS;intro a W F hS
   refine st_do F 43 48 (.bool true) (RD 43 (by decide) (by decide)) R.r43 (want_y rfl (F.yl R.r39 rfl (.tail _ (.tail _ (.tail _ (.head _))))) true rfl) (by simp [execOp,go_sem,F.raw (.head _)]) rfl (by decide) rfl hS ?_
   clear F;intro a F
   refine st_do F 44 49 (.bool true) (RD 44 (by decide) (by decide)) R.r44 (want_0 rfl) (by simp [execOp,F.ev (.tail _ (.tail _ (.tail _ (.tail _ (.head _))))),F.ev (.head _),asBool]) rfl (by decide) rfl hS ?_
   clear F;intro a F
   refine st_do F 45 50 (.bool true) (RD 45 (by decide) (by decide)) R.r45 (want_0 rfl) (by simp [execOp,F.ev (.head _)]) rfl (by decide) rfl hS ?_
   clear F;intro a F
   replace F:=F.base (.head _) (fun x hx=>.tail _ (.tail _ (.tail _ (.tail _ (.tail _ (.tail _ (.tail _ (hx))))))))
   exact T46 a W F hS (by rw [hR];rfl)
  ·rw [dc] at hR
   refine st_call F 42 47 (.bool true) (RD 42 (by decide) (by decide)) R.r42 (want_y rfl (F.yl R.r39 rfl (.tail _ (.tail _ (.head _)))) true rfl) (by rfl) (args':=#[.string p.user]) (by simp [F.ev (.head _)]) rfl (by decide) rfl ((rtext_any (p.user) _ OK.out.user).mono (by rintro e w' ⟨rfl,hb⟩;exact ⟨by rw [dc],⟨heap_below hb hS.1,thn hS.2 hb⟩⟩)) ?_
   clear F hS;intro a W F hS
   refine st_do F 43 48 (.bool false) (RD 43 (by decide) (by decide)) R.r43 (want_y rfl (F.yl R.r39 rfl (.tail _ (.tail _ (.tail _ (.head _))))) true rfl) (by simp [execOp,go_sem,F.raw (.head _)]) rfl (by decide) rfl hS ?_
   clear F;intro a F
   refine st_do F 44 49 (.bool false) (RD 44 (by decide) (by decide)) R.r44 (want_0 rfl) (by simp [execOp,F.ev (.tail _ (.tail _ (.tail _ (.tail _ (.head _))))),F.ev (.head _),asBool]) rfl (by decide) rfl hS ?_
   clear F;intro a F
   refine st_do F 45 50 (.bool false) (RD 45 (by decide) (by decide)) R.r45 (want_0 rfl) (by simp [execOp,F.ev (.head _)]) rfl (by decide) rfl hS ?_
   clear F;intro a F
   replace F:=F.base (.head _) (fun x hx=>.tail _ (.tail _ (.tail _ (.tail _ (.tail _ (.tail _ (.tail _ (hx))))))))
   exact P46 a W F hS (by rw [hR];rfl)
 have P34:∀(a:Act) (W:World),KD a 201 ((38,.bool false) :: [(0,pkV p s),(1,.pointer (some ⟨w.heap.size,0,none⟩)),(2,.bool false)])→RS p s w W→rc1 p=(rtxt p.cli && (rtxt p.user && (rtxt p.wtop && (inI p.wqos 0 2 && (decide (p.wpay.length≤65535) && (decide (p.pass.length≤65535) && true))))))→wpAnyH Try.prog .any ops Q (RS p s w) 38 (Lst 72 34) a W:=by
  intro a W F hS hR
  refine st_do F 34 39 (.pointer (some ⟨w.heap.size,8,none⟩)) (RD 34 (by decide) (by decide)) R.r34 (want_y rfl (F.yl R.r33 rfl (.head _)) true rfl) (by simp [execOp,go_sem,F.raw (.tail _ (.tail _ (.head _)))]) rfl (by decide) rfl hS ?_
  clear F;intro a F
  refine st_do F 35 40 (.string p.cli) (RD 35 (by decide) (by decide)) R.r35 (want_y rfl (F.yl R.r33 rfl (.tail _ (.head _))) true rfl) (by simp [execOp,go_sem,F.raw (.head _),row_cells hS.1]) rfl (by decide) rfl hS ?_
  clear F;intro a F
  rcases dc:rtxt p.cli with _ | _
  ·rw [dc] at hR
   refine st_call F 36 41 (.bool false) (RD 36 (by decide) (by decide)) R.r36 (want_y rfl (F.yl R.r33 rfl (.tail _ (.tail _ (.head _)))) true rfl) (by rfl) (args':=#[.string p.cli]) (by simp [F.ev (.head _)]) rfl (by decide) rfl ((rtext_any (p.cli) _ OK.out.cli).mono (by rintro e w' ⟨rfl,hb⟩;exact ⟨by rw [dc],⟨heap_below hb hS.1,thn hS.2 hb⟩⟩)) ?_
   clear F hS;intro a W F hS
   refine st_do F 37 42 (.bool true) (RD 37 (by decide) (by decide)) R.r37 (want_y rfl (F.yl R.r33 rfl (.tail _ (.tail _ (.tail _ (.head _))))) true rfl) (by simp [execOp,go_sem,F.raw (.head _)]) rfl (by decide) rfl hS ?_
   clear F;intro a F
   refine st_do F 38 43 (.bool true) (RD 38 (by decide) (by decide)) R.r38 (want_0 rfl) (by simp [execOp,F.ev (.tail _ (.tail _ (.tail _ (.tail _ (.head _))))),F.ev (.head _),asBool]) rfl (by decide) rfl hS ?_
   clear F;intro a F
   refine st_do F 39 44 (.bool true) (RD 39 (by decide) (by decide)) R.r39 (want_0 rfl) (by simp [execOp,F.ev (.head _)]) rfl (by decide) rfl hS ?_
   clear F;intro a F
   replace F:=F.base (.head _) (fun x hx=>.tail _ (.tail _ (.tail _ (.tail _ (.tail _ (.tail _ (.tail _ (hx))))))))
   exact T40 a W F hS (by rw [hR];rfl)
  ·rw [dc] at hR
   refine st_call F 36 41 (.bool true) (RD 36 (by decide) (by decide)) R.r36 (want_y rfl (F.yl R.r33 rfl (.tail _ (.tail _ (.head _)))) true rfl) (by rfl) (args':=#[.string p.cli]) (by simp [F.ev (.head _)]) rfl (by decide) rfl ((rtext_any (p.cli) _ OK.out.cli).mono (by rintro e w' ⟨rfl,hb⟩;exact ⟨by rw [dc],⟨heap_below hb hS.1,thn hS.2 hb⟩⟩)) ?_
   clear F hS;intro a W F hS
   refine st_do F 37 42 (.bool false) (RD 37 (by decide) (by decide)) R.r37 (want_y rfl (F.yl R.r33 rfl (.tail _ (.tail _ (.tail _ (.head _))))) true rfl) (by simp [execOp,go_sem,F.raw (.head _)]) rfl (by decide) rfl hS ?_
   clear F;intro a F
   refine st_do F 38 43 (.bool false) (RD 38 (by decide) (by decide)) R.r38 (want_0 rfl) (by simp [execOp,F.ev (.tail _ (.tail _ (.tail _ (.tail _ (.head _))))),F.ev (.head _),asBool]) rfl (by decide) rfl hS ?_
   clear F;intro a F
   refine st_do F 39 44 (.bool false) (RD 39 (by decide) (by decide)) R.r39 (want_0 rfl) (by simp [execOp,F.ev (.head _)]) rfl (by decide) rfl hS ?_
   clear F;intro a F
   replace F:=F.base (.head _) (fun x hx=>.tail _ (.tail _ (.tail _ (.tail _ (.tail _ (.tail _ (.tail _ (hx))))))))
   exact P40 a W F hS (by rw [hR];rfl)
 have P28:∀(a:Act) (W:World),KD a 201 ((32,.bool false) :: [(0,pkV p s),(1,.pointer (some ⟨w.heap.size,0,none⟩)),(2,.bool false)])→RS p s w W→rc1 p=(rtxt p.top && (rtxt p.cli && (rtxt p.user && (rtxt p.wtop && (inI p.wqos 0 2 && (decide (p.wpay.length≤65535) && (decide (p.pass.length≤65535) && true)))))))→wpAnyH Try.prog .any ops Q (RS p s w) 44 (Lst 72 28) a W:=by
  intro a W F hS hR
  refine st_do F 28 33 (.pointer (some ⟨w.heap.size,5,none⟩)) (RD 28 (by decide) (by decide)) R.r28 (want_y rfl (F.yl R.r27 rfl (.head _)) true rfl) (by simp [execOp,go_sem,F.raw (.tail _ (.tail _ (.head _)))]) rfl (by decide) rfl hS ?_
  clear F;intro a F
  refine st_do F 29 34 (.string p.top) (RD 29 (by decide) (by decide)) R.r29 (want_y rfl (F.yl R.r27 rfl (.tail _ (.head _))) true rfl) (by simp [execOp,go_sem,F.raw (.head _),row_cells hS.1]) rfl (by decide) rfl hS ?_
  clear F;intro a F
  rcases dc:rtxt p.top with _ | _
  ·rw [dc] at hR
   refine st_call F 30 35 (.bool false) (RD 30 (by decide) (by decide)) R.r30 (want_y rfl (F.yl R.r27 rfl (.tail _ (.tail _ (.head _)))) true rfl) (by rfl) (args':=#[.string p.top]) (by simp [F.ev (.head _)]) rfl (by decide) rfl ((rtext_any (p.top) _ OK.out.top).mono (by rintro e w' ⟨rfl,hb⟩;exact ⟨by rw [dc],⟨heap_below hb hS.1,thn hS.2 hb⟩⟩)) ?_
   clear F hS;intro a W F hS
   refine st_do F 31 36 (.bool true) (RD 31 (by decide) (by decide)) R.r31 (want_y rfl (F.yl R.r27 rfl (.tail _ (.tail _ (.tail _ (.head _))))) true rfl) (by simp [execOp,go_sem,F.raw (.head _)]) rfl (by decide) rfl hS ?_
   clear F;intro a F
   refine st_do F 32 37 (.bool true) (RD 32 (by decide) (by decide)) R.r32 (want_0 rfl) (by simp [execOp,F.ev (.tail _ (.tail _ (.tail _ (.tail _ (.head _))))),F.ev (.head _),asBool]) rfl (by decide) rfl hS ?_
   clear F;intro a F
   refine st_do F 33 38 (.bool true) (RD 33 (by decide) (by decide)) R.r33 (want_0 rfl) (by simp [execOp,F.ev (.head _)]) rfl (by decide) rfl hS ?_
   clear F;intro a F
   replace F:=F.base (.head _) (fun x hx=>.tail _ (.tail _ (.tail _ (.tail _ (.tail _ (.tail _ (.tail _ (hx))))))))
   exact T34 a W F hS (by rw [hR];rfl)
  ·rw [dc] at hR
   refine st_call F 30 35 (.bool true) (RD 30 (by decide) (by decide)) R.r30 (want_y rfl (F.yl R.r27 rfl (.tail _ (.tail _ (.head _)))) true rfl) (by rfl) (args':=#[.string p.top]) (by simp [F.ev (.head _)]) rfl (by decide) rfl ((rtext_any (p.top) _ OK.out.top).mono (by rintro e w' ⟨rfl,hb⟩;exact ⟨by rw [dc],⟨heap_below hb hS.1,thn hS.2 hb⟩⟩)) ?_
   clear F hS;intro a W F hS
   refine st_do F 31 36 (.bool false) (RD 31 (by decide) (by decide)) R.r31 (want_y rfl (F.yl R.r27 rfl (.tail _ (.tail _ (.tail _ (.head _))))) true rfl) (by simp [execOp,go_sem,F.raw (.head _)]) rfl (by decide) rfl hS ?_
   clear F;intro a F
   refine st_do F 32 37 (.bool false) (RD 32 (by decide) (by decide)) R.r32 (want_0 rfl) (by simp [execOp,F.ev (.tail _ (.tail _ (.tail _ (.tail _ (.head _))))),F.ev (.head _),asBool]) rfl (by decide) rfl hS ?_
   clear F;intro a F
   refine st_do F 33 38 (.bool false) (RD 33 (by decide) (by decide)) R.r33 (want_0 rfl) (by simp [execOp,F.ev (.head _)]) rfl (by decide) rfl hS ?_
   clear F;intro a F
   replace F:=F.base (.head _) (fun x hx=>.tail _ (.tail _ (.tail _ (.tail _ (.tail _ (.tail _ (.tail _ (hx))))))))
   exact P34 a W F hS (by rw [hR];rfl)
 have P22:∀(a:Act) (W:World),KD a 201 ((26,.bool false) :: [(0,pkV p s),(1,.pointer (some ⟨w.heap.size,0,none⟩)),(2,.bool false)])→RS p s w W→rc1 p=(inI p.qos 0 2 && (rtxt p.top && (rtxt p.cli && (rtxt p.user && (rtxt p.wtop && (inI p.wqos 0 2 && (decide (p.wpay.length≤65535) && (decide (p.pass.length≤65535) && true))))))))→wpAnyH Try.prog .any ops Q (RS p s w) 50 (Lst 72 22) a W:=by
  intro a W F hS hR
  refine st_do F 22 27 (.pointer (some ⟨w.heap.size,3,none⟩)) (RD 22 (by decide) (by decide)) R.r22 (want_y rfl (F.yl R.r21 rfl (.head _)) true rfl) (by simp [execOp,go_sem,F.raw (.tail _ (.tail _ (.head _)))]) rfl (by decide) rfl hS ?_
  clear F;intro a F
  refine st_do F 23 28 (.int .i64 p.qos) (RD 23 (by decide) (by decide)) R.r23 (want_y rfl (F.yl R.r21 rfl (.tail _ (.head _))) true rfl) (by simp [execOp,go_sem,F.raw (.head _),row_cells hS.1]) rfl (by decide) rfl hS ?_
  clear F;intro a F
  rcases dc:inI p.qos 0 2 with _ | _
  ·rw [dc] at hR
   refine st_call F 24 29 (.bool false) (RD 24 (by decide) (by decide)) R.r24 (want_y rfl (F.yl R.r21 rfl (.tail _ (.tail _ (.head _)))) true rfl) (by rfl) (args':=#[.int .i64 p.qos,.int .i64 0,.int .i64 2]) (by simp [F.ev (.head _),BigFrame.eval_const]) rfl (by decide) rfl ((rin_any (p.qos) 0 2 _).mono (by rintro e w' ⟨rfl,rfl⟩;exact ⟨by rw [dc],hS⟩)) ?_
   clear F hS;intro a W F hS
   refine st_do F 25 30 (.bool true) (RD 25 (by decide) (by decide)) R.r25 (want_y rfl (F.yl R.r21 rfl (.tail _ (.tail _ (.tail _ (.head _))))) true rfl) (by simp [execOp,go_sem,F.raw (.head _)]) rfl (by decide) rfl hS ?_
   clear F;intro a F
   refine st_do F 26 31 (.bool true) (RD 26 (by decide) (by decide)) R.r26 (want_0 rfl) (by simp [execOp,F.ev (.tail _ (.tail _ (.tail _ (.tail _ (.head _))))),F.ev (.head _),asBool]) rfl (by decide) rfl hS ?_
   clear F;intro a F
   refine st_do F 27 32 (.bool true) (RD 27 (by decide) (by decide)) R.r27 (want_0 rfl) (by simp [execOp,F.ev (.head _)]) rfl (by decide) rfl hS ?_
   clear F;intro a F
   replace F:=F.base (.head _) (fun x hx=>.tail _ (.tail _ (.tail _ (.tail _ (.tail _ (.tail _ (.tail _ (hx))))))))
   exact T28 a W F hS (by rw [hR];rfl)
  ·rw [dc] at hR
   refine st_call F 24 29 (.bool true) (RD 24 (by decide) (by decide)) R.r24 (want_y rfl (F.yl R.r21 rfl (.tail _ (.tail _ (.head _)))) true rfl) (by rfl) (args':=#[.int .i64 p.qos,.int .i64 0,.int .i64 2]) (by simp [F.ev (.head _),BigFrame.eval_const]) rfl (by decide) rfl ((rin_any (p.qos) 0 2 _).mono (by rintro e w' ⟨rfl,rfl⟩;exact ⟨by rw [dc],hS⟩)) ?_
   clear F hS;intro a W F hS
   refine st_do F 25 30 (.bool false) (RD 25 (by decide) (by decide)) R.r25 (want_y rfl (F.yl R.r21 rfl (.tail _ (.tail _ (.tail _ (.head _))))) true rfl) (by simp [execOp,go_sem,F.raw (.head _)]) rfl (by decide) rfl hS ?_
   clear F;intro a F
   refine st_do F 26 31 (.bool false) (RD 26 (by decide) (by decide)) R.r26 (want_0 rfl) (by simp [execOp,F.ev (.tail _ (.tail _ (.tail _ (.tail _ (.head _))))),F.ev (.head _),asBool]) rfl (by decide) rfl hS ?_
   clear F;intro a F
   refine st_do F 27 32 (.bool false) (RD 27 (by decide) (by decide)) R.r27 (want_0 rfl) (by simp [execOp,F.ev (.head _)]) rfl (by decide) rfl hS ?_
   clear F;intro a F
   replace F:=F.base (.head _) (fun x hx=>.tail _ (.tail _ (.tail _ (.tail _ (.tail _ (.tail _ (.tail _ (hx))))))))
   exact P28 a W F hS (by rw [hR];rfl)
 have P12:∀(a:Act) (W:World),KD a 201 ((16,.bool false) :: [(0,pkV p s),(1,.pointer (some ⟨w.heap.size,0,none⟩)),(2,.bool false)])→RS p s w W→rc1 p=((!numP p || inI p.id 1 65535) && (inI p.qos 0 2 && (rtxt p.top && (rtxt p.cli && (rtxt p.user && (rtxt p.wtop && (inI p.wqos 0 2 && (decide (p.wpay.length≤65535) && (decide (p.pass.length≤65535) && true)))))))))→wpAnyH Try.prog .any ops Q (RS p s w) 60 (Lst 72 12) a W:=by
  intro a W F hS hR
  refine st_do F 12 17 (pkV p s) (RD 12 (by decide) (by decide)) R.r12 (want_y rfl (F.yl R.r11 rfl (.head _)) true rfl) (ld_exec rfl (F.ev (.tail _ (.tail _ (.head _)))) hS.1 rfl) rfl (by decide) rfl hS ?_
  clear F;intro a F
  rcases dn:numP p with _ | _
  ·rw [dn] at hR
   refine st_call F 13 18 (.bool false) (RD 13 (by decide) (by decide)) R.r13 (want_y rfl (F.yl R.r11 rfl (.tail _ (.head _))) true rfl) (by rfl) (args':=#[pkV p s]) (by simp [F.ev (.head _)]) rfl (by decide) rfl ((num_any p s _).mono (by rintro e w' ⟨rfl,hb⟩;exact ⟨by rw [dn],⟨heap_below hb hS.1,thn hS.2 hb⟩⟩)) ?_
   clear F hS;intro a W F hS
   refine st_do F 14 19 (.bool false) (RD 14 (by decide) (by decide)) R.r14 (want_y rfl (F.yl R.r11 rfl (.tail _ (.tail _ (.head _)))) true rfl) (by simp [execOp,F.ev (.head _)]) rfl (by decide) rfl hS ?_
   clear F;intro a F
   refine st_skip F 15 20 (RD 15 (by decide) (by decide)) R.r15 (want_y rfl (F.yl R.r14 rfl (.head _)) false rfl) rfl (by decide) rfl hS ?_
   clear F;intro a F
   refine st_skip F 16 21 (RD 16 (by decide) (by decide)) R.r16 (want_y rfl (F.yl R.r14 rfl (.tail _ (.head _))) false rfl) rfl (by decide) rfl hS ?_
   clear F;intro a F
   refine st_skip F 17 22 (RD 17 (by decide) (by decide)) R.r17 (want_y rfl (F.yl R.r14 rfl (.tail _ (.tail _ (.head _)))) false rfl) rfl (by decide) rfl hS ?_
   clear F;intro a F
   refine st_skip F 18 23 (RD 18 (by decide) (by decide)) R.r18 (want_y rfl (F.yl R.r14 rfl (.tail _ (.tail _ (.tail _ (.head _))))) false rfl) rfl (by decide) rfl hS ?_
   clear F;intro a F
   refine st_do F 19 24 (.bool false) (RD 19 (by decide) (by decide)) R.r19 (want_y rfl (F.yl R.r11 rfl (.tail _ (.tail _ (.tail _ (.tail _ (.tail _ (.tail _ (.tail _ (.head _))))))))) true rfl) (by simp [execOp,F.ev (.tail _ (.tail _ (.tail _ (.tail _ (.head _))))),BigFrame.eval_const,asBool]) rfl (by decide) rfl hS ?_
   clear F;intro a F
   refine st_do F 20 25 (.bool false) (RD 20 (by decide) (by decide)) R.r20 (want_0 rfl) (by simp [execOp,F.ev (.tail _ (.tail _ (.tail _ (.tail _ (.tail _ (.tail _ (.tail _ (.tail _ (.head _))))))))),F.ev (.head _),asBool]) rfl (by decide) rfl hS ?_
   clear F;intro a F
   refine st_do F 21 26 (.bool false) (RD 21 (by decide) (by decide)) R.r21 (want_0 rfl) (by simp [execOp,F.ev (.head _)]) rfl (by decide) rfl hS ?_
   clear F;intro a F
   replace F:=F.base (.head _) (fun x hx=>.tail _ (.tail _ (.tail _ (.tail _ (.tail _ (.tail _ (.tail _ (.tail _ (.tail _ (.tail _ (.tail _ (hx))))))))))))
   exact P22 a W F hS (by rw [hR];rfl)
  ·rw [dn] at hR
   refine st_call F 13 18 (.bool true) (RD 13 (by decide) (by decide)) R.r13 (want_y rfl (F.yl R.r11 rfl (.tail _ (.head _))) true rfl) (by rfl) (args':=#[pkV p s]) (by simp [F.ev (.head _)]) rfl (by decide) rfl ((num_any p s _).mono (by rintro e w' ⟨rfl,hb⟩;exact ⟨by rw [dn],⟨heap_below hb hS.1,thn hS.2 hb⟩⟩)) ?_
   clear F hS;intro a W F hS
   refine st_do F 14 19 (.bool true) (RD 14 (by decide) (by decide)) R.r14 (want_y rfl (F.yl R.r11 rfl (.tail _ (.tail _ (.head _)))) true rfl) (by simp [execOp,F.ev (.head _)]) rfl (by decide) rfl hS ?_
   clear F;intro a F
   refine st_do F 15 20 (.pointer (some ⟨w.heap.size,4,none⟩)) (RD 15 (by decide) (by decide)) R.r15 (want_y rfl (F.yl R.r14 rfl (.head _)) true rfl) (by simp [execOp,go_sem,F.raw (.tail _ (.tail _ (.tail _ (.tail _ (.tail _ (.head _))))))]) rfl (by decide) rfl hS ?_
   clear F;intro a F
   refine st_do F 16 21 (.int .i64 p.id) (RD 16 (by decide) (by decide)) R.r16 (want_y rfl (F.yl R.r14 rfl (.tail _ (.head _))) true rfl) (by simp [execOp,go_sem,F.raw (.head _),row_cells hS.1]) rfl (by decide) rfl hS ?_
   clear F;intro a F
   rcases dc:inI p.id 1 65535 with _ | _
   ·rw [dc] at hR
    refine st_call F 17 22 (.bool false) (RD 17 (by decide) (by decide)) R.r17 (want_y rfl (F.yl R.r14 rfl (.tail _ (.tail _ (.head _)))) true rfl) (by rfl) (args':=#[.int .i64 p.id,.int .i64 1,.int .i64 65535]) (by simp [F.ev (.head _),BigFrame.eval_const]) rfl (by decide) rfl ((rin_any (p.id) 1 65535 _).mono (by rintro e w' ⟨rfl,rfl⟩;exact ⟨by rw [dc],hS⟩)) ?_
    clear F hS;intro a W F hS
    refine st_do F 18 23 (.bool true) (RD 18 (by decide) (by decide)) R.r18 (want_y rfl (F.yl R.r14 rfl (.tail _ (.tail _ (.tail _ (.head _))))) true rfl) (by simp [execOp,go_sem,F.raw (.head _)]) rfl (by decide) rfl hS ?_
    clear F;intro a F
    refine st_do F 19 24 (.bool true) (RD 19 (by decide) (by decide)) R.r19 (want_y rfl (F.yl R.r11 rfl (.tail _ (.tail _ (.tail _ (.tail _ (.tail _ (.tail _ (.tail _ (.head _))))))))) true rfl) (by simp [execOp,F.ev (.tail _ (.tail _ (.tail _ (.tail _ (.head _))))),F.ev (.head _),asBool]) rfl (by decide) rfl hS ?_
    clear F;intro a F
    refine st_do F 20 25 (.bool true) (RD 20 (by decide) (by decide)) R.r20 (want_0 rfl) (by simp [execOp,F.ev (.tail _ (.tail _ (.tail _ (.tail _ (.tail _ (.tail _ (.tail _ (.tail _ (.head _))))))))),F.ev (.head _),asBool]) rfl (by decide) rfl hS ?_
    clear F;intro a F
    refine st_do F 21 26 (.bool true) (RD 21 (by decide) (by decide)) R.r21 (want_0 rfl) (by simp [execOp,F.ev (.head _)]) rfl (by decide) rfl hS ?_
    clear F;intro a F
    replace F:=F.base (.head _) (fun x hx=>.tail _ (.tail _ (.tail _ (.tail _ (.tail _ (.tail _ (.tail _ (.tail _ (.tail _ (.tail _ (.tail _ (hx))))))))))))
    exact T22 a W F hS (by rw [hR];rfl)
   ·rw [dc] at hR
    refine st_call F 17 22 (.bool true) (RD 17 (by decide) (by decide)) R.r17 (want_y rfl (F.yl R.r14 rfl (.tail _ (.tail _ (.head _)))) true rfl) (by rfl) (args':=#[.int .i64 p.id,.int .i64 1,.int .i64 65535]) (by simp [F.ev (.head _),BigFrame.eval_const]) rfl (by decide) rfl ((rin_any (p.id) 1 65535 _).mono (by rintro e w' ⟨rfl,rfl⟩;exact ⟨by rw [dc],hS⟩)) ?_
    clear F hS;intro a W F hS
    refine st_do F 18 23 (.bool false) (RD 18 (by decide) (by decide)) R.r18 (want_y rfl (F.yl R.r14 rfl (.tail _ (.tail _ (.tail _ (.head _))))) true rfl) (by simp [execOp,go_sem,F.raw (.head _)]) rfl (by decide) rfl hS ?_
    clear F;intro a F
    refine st_do F 19 24 (.bool false) (RD 19 (by decide) (by decide)) R.r19 (want_y rfl (F.yl R.r11 rfl (.tail _ (.tail _ (.tail _ (.tail _ (.tail _ (.tail _ (.tail _ (.head _))))))))) true rfl) (by simp [execOp,F.ev (.tail _ (.tail _ (.tail _ (.tail _ (.head _))))),F.ev (.head _),asBool]) rfl (by decide) rfl hS ?_
    clear F;intro a F
    refine st_do F 20 25 (.bool false) (RD 20 (by decide) (by decide)) R.r20 (want_0 rfl) (by simp [execOp,F.ev (.tail _ (.tail _ (.tail _ (.tail _ (.tail _ (.tail _ (.tail _ (.tail _ (.head _))))))))),F.ev (.head _),asBool]) rfl (by decide) rfl hS ?_
    clear F;intro a F
    refine st_do F 21 26 (.bool false) (RD 21 (by decide) (by decide)) R.r21 (want_0 rfl) (by simp [execOp,F.ev (.head _)]) rfl (by decide) rfl hS ?_
    clear F;intro a F
    replace F:=F.base (.head _) (fun x hx=>.tail _ (.tail _ (.tail _ (.tail _ (.tail _ (.tail _ (.tail _ (.tail _ (.tail _ (.tail _ (.tail _ (hx))))))))))))
    exact P22 a W F hS (by rw [hR];rfl)
 have P5:∀(a:Act) (W:World),KD a 201 ((9,.bool false) :: [(0,pkV p s),(1,.pointer (some ⟨w.heap.size,0,none⟩)),(2,.bool false)])→RS p s w W→rc1 p=(decide (p=onP p) && ((!numP p || inI p.id 1 65535) && (inI p.qos 0 2 && (rtxt p.top && (rtxt p.cli && (rtxt p.user && (rtxt p.wtop && (inI p.wqos 0 2 && (decide (p.wpay.length≤65535) && (decide (p.pass.length≤65535) && true))))))))))→wpAnyH Try.prog .any ops Q (RS p s w) 67 (Lst 72 5) a W:=by
  intro a W F hS hR
  refine st_take F 5 10 (pkV p s) R.r5 h5.1 h5.2.1 h5.2.2 hQ (.inl ⟨(want_y rfl (F.yl R.r4 rfl (.head _)) true rfl),fun W hW=>ld_exec rfl (F.ev (.tail _ (.tail _ (.head _)))) hW.1 rfl⟩) rfl (by decide) rfl hS ?_
  clear F;intro a F
  refine st_do F 6 11 (pkV p s) (RD 6 (by decide) (by decide)) R.r6 (want_y rfl (F.yl R.r4 rfl (.tail _ (.head _))) true rfl) (ld_exec rfl (F.ev (.tail _ (.tail _ (.tail _ (.head _))))) hS.1 rfl) rfl (by decide) rfl hS ?_
  clear F;intro a F
  refine st_call F 7 12 (pkV (onP p) (wrS p s)) (RD 7 (by decide) (by decide)) R.r7 (want_y rfl (F.yl R.r4 rfl (.tail _ (.tail _ (.head _)))) true rfl) (by rfl) (args':=#[pkV p s]) (by simp [F.ev (.head _)]) rfl (by decide) rfl ((only_any p s _).mono (by rintro e w' ⟨rfl,hb⟩;exact ⟨rfl,⟨heap_below hb hS.1,thn hS.2 hb⟩⟩)) ?_
  clear F hS;intro a W F hS
  rcases dc:decide (p=onP p) with _ | _
  ·rw [dc] at hR
   refine st_call F 8 13 (.bool false) (RD 8 (by decide) (by decide)) R.r8 (want_y rfl (F.yl R.r4 rfl (.tail _ (.tail _ (.tail _ (.head _))))) true rfl) (by rfl) (args':=#[pkV p s,pkV (onP p) (wrS p s)]) (by simp [F.ev (.tail _ (.tail _ (.head _))),F.ev (.head _)]) rfl (by decide) rfl ((rsame_any p (onP p) s (wrS p s) B _ (HP.out.to hB hS.2) (HO.out.to hB hS.2) (Nat.le_trans hB hS.2.size) c8 c9).mono (by rintro e w' ⟨rfl,hb⟩;exact ⟨by rw [dc],⟨heap_below hb hS.1,thn hS.2 hb⟩⟩)) ?_
   clear F hS;intro a W F hS
   refine st_do F 9 14 (.bool true) (RD 9 (by decide) (by decide)) R.r9 (want_y rfl (F.yl R.r4 rfl (.tail _ (.tail _ (.tail _ (.tail _ (.head _)))))) true rfl) (by simp [execOp,go_sem,F.raw (.head _)]) rfl (by decide) rfl hS ?_
   clear F;intro a F
   refine st_do F 10 15 (.bool true) (RD 10 (by decide) (by decide)) R.r10 (want_0 rfl) (by simp [execOp,F.ev (.tail _ (.tail _ (.tail _ (.tail _ (.tail _ (.head _)))))),F.ev (.head _),asBool]) rfl (by decide) rfl hS ?_
   clear F;intro a F
   refine st_do F 11 16 (.bool true) (RD 11 (by decide) (by decide)) R.r11 (want_0 rfl) (by simp [execOp,F.ev (.head _)]) rfl (by decide) rfl hS ?_
   clear F;intro a F
   replace F:=F.base (.head _) (fun x hx=>.tail _ (.tail _ (.tail _ (.tail _ (.tail _ (.tail _ (.tail _ (.tail _ (hx)))))))))
   exact T12 a W F hS (by rw [hR];rfl)
  ·rw [dc] at hR
   refine st_call F 8 13 (.bool true) (RD 8 (by decide) (by decide)) R.r8 (want_y rfl (F.yl R.r4 rfl (.tail _ (.tail _ (.tail _ (.head _))))) true rfl) (by rfl) (args':=#[pkV p s,pkV (onP p) (wrS p s)]) (by simp [F.ev (.tail _ (.tail _ (.head _))),F.ev (.head _)]) rfl (by decide) rfl ((rsame_any p (onP p) s (wrS p s) B _ (HP.out.to hB hS.2) (HO.out.to hB hS.2) (Nat.le_trans hB hS.2.size) c8 c9).mono (by rintro e w' ⟨rfl,hb⟩;exact ⟨by rw [dc],⟨heap_below hb hS.1,thn hS.2 hb⟩⟩)) ?_
   clear F hS;intro a W F hS
   refine st_do F 9 14 (.bool false) (RD 9 (by decide) (by decide)) R.r9 (want_y rfl (F.yl R.r4 rfl (.tail _ (.tail _ (.tail _ (.tail _ (.head _)))))) true rfl) (by simp [execOp,go_sem,F.raw (.head _)]) rfl (by decide) rfl hS ?_
   clear F;intro a F
   refine st_do F 10 15 (.bool false) (RD 10 (by decide) (by decide)) R.r10 (want_0 rfl) (by simp [execOp,F.ev (.tail _ (.tail _ (.tail _ (.tail _ (.tail _ (.head _)))))),F.ev (.head _),asBool]) rfl (by decide) rfl hS ?_
   clear F;intro a F
   refine st_do F 11 16 (.bool false) (RD 11 (by decide) (by decide)) R.r11 (want_0 rfl) (by simp [execOp,F.ev (.head _)]) rfl (by decide) rfl hS ?_
   clear F;intro a F
   replace F:=F.base (.head _) (fun x hx=>.tail _ (.tail _ (.tail _ (.tail _ (.tail _ (.tail _ (.tail _ (.tail _ (hx)))))))))
   exact P12 a W F hS (by rw [hR];rfl)
 have hR:rc1 p=(inI p.kind 1 14 && (decide (p=onP p) && ((!numP p || inI p.id 1 65535) && (inI p.qos 0 2 && (rtxt p.top && (rtxt p.cli && (rtxt p.user && (rtxt p.wtop && (inI p.wqos 0 2 && (decide (p.wpay.length≤65535) && (decide (p.pass.length≤65535) && true))))))))))):=rfl
 refine wp_region_held_drew (S:=RS p s w) (by rfl) ⟨hS.1,Below.drew hS.2⟩ ?_
 intro hS
 rw [hsz]
 show wpAnyH Try.prog .any ops Q (RS p s w) 72 (Lst 72 0) a W.drew
 generalize W.drew=W at *
 refine st_do F 0 5 (.pointer (some ⟨w.heap.size,0,none⟩)) (RD 0 (by decide) (by decide)) R.r0 (want_0 rfl) (by simp [execOp,go_sem,F.raw (.tail _ (.head _))]) rfl (by decide) rfl hS ?_
 clear F;intro a F
 refine st_do F 1 6 (.int .i64 p.kind) (RD 1 (by decide) (by decide)) R.r1 (want_0 rfl) (by simp [execOp,go_sem,F.raw (.head _),row_cells hS.1]) rfl (by decide) rfl hS ?_
 clear F;intro a F
 rcases dc:inI p.kind 1 14 with _ | _
 ·rw [dc] at hR
  refine st_call F 2 7 (.bool false) (RD 2 (by decide) (by decide)) R.r2 (want_0 rfl) (by rfl) (args':=#[.int .i64 p.kind,.int .i64 1,.int .i64 14]) (by simp [F.ev (.head _),BigFrame.eval_const]) rfl (by decide) rfl ((rin_any (p.kind) 1 14 _).mono (by rintro e w' ⟨rfl,rfl⟩;exact ⟨by rw [dc],hS⟩)) ?_
  clear F hS;intro a W F hS
  refine st_do F 3 8 (.bool true) (RD 3 (by decide) (by decide)) R.r3 (want_0 rfl) (by simp [execOp,go_sem,F.raw (.head _)]) rfl (by decide) rfl hS ?_
  clear F;intro a F
  refine st_do F 4 9 (.bool true) (RD 4 (by decide) (by decide)) R.r4 (want_0 rfl) (by simp [execOp,F.ev (.head _)]) rfl (by decide) rfl hS ?_
  clear F;intro a F
  replace F:=F.base (.head _) (fun x hx=>.tail _ (.tail _ (.tail _ (.tail _ (.tail _ (hx))))))
  exact T5 a W F hS (by rw [hR];rfl)
 ·rw [dc] at hR
  refine st_call F 2 7 (.bool true) (RD 2 (by decide) (by decide)) R.r2 (want_0 rfl) (by rfl) (args':=#[.int .i64 p.kind,.int .i64 1,.int .i64 14]) (by simp [F.ev (.head _),BigFrame.eval_const]) rfl (by decide) rfl ((rin_any (p.kind) 1 14 _).mono (by rintro e w' ⟨rfl,rfl⟩;exact ⟨by rw [dc],hS⟩)) ?_
  clear F hS;intro a W F hS
  refine st_do F 3 8 (.bool false) (RD 3 (by decide) (by decide)) R.r3 (want_0 rfl) (by simp [execOp,go_sem,F.raw (.head _)]) rfl (by decide) rfl hS ?_
  clear F;intro a F
  refine st_do F 4 9 (.bool false) (RD 4 (by decide) (by decide)) R.r4 (want_0 rfl) (by simp [execOp,F.ev (.head _)]) rfl (by decide) rfl hS ?_
  clear F;intro a F
  replace F:=F.base (.head _) (fun x hx=>.tail _ (.tail _ (.tail _ (.tail _ (.tail _ (hx))))))
  exact P5 a W F hS (by rw [hR];rfl)
def trO (o:Oper):Option Tmp×Op×Option (Nat×Bool):=(o.dst,o.op,o.guard)
theorem tr_of {ops:Array Oper}{k:Nat}{d:Option Tmp}{x:Op}{g:Option (Nat×Bool)}(h:(ops[k]?).map trO=some (d,x,g)) :
  ops[k]? = some ⟨d,x,(fun k=>(ops.getD k default).type) k,(fun k=>(ops.getD k default).pos) k,(fun k=>(ops.getD k default).after) k,g⟩:=by
 rcases e:ops[k]? with _ | o
 ·rw [e] at h;cases h
 ·rw [e] at h
  have hd:ops.getD k default=o:=by simp [Array.getD_eq_getD_getElem?,e]
  simp only [Option.map_some,Option.some.injEq,trO,Prod.mk.injEq] at h
  obtain ⟨h1,h2,h3⟩:=h
  subst h1 h2 h3
  simp only [hd]
structure RRT (ops:Array Oper):Prop where
 t0:(ops[0]?).map trO=some (some 5,Op.fieldAddr 28 (Operand.tmp 1) 0,none)
 t1:(ops[1]?).map trO=some (some 6,Op.load 3 (Operand.tmp 5),none)
 t2:(ops[2]?).map trO=some (some 7,Op.call {callee:=Callee.value (Operand.func 44),args:=#[Operand.tmp 6,Operand.const (Value.int IntKind.i64 1),Operand.const (Value.int IntKind.i64 14)],argTypes:=#[3,3,3]},none)
 t3:(ops[3]?).map trO=some (some 8,Op.unOp UnOp.not 4 (Operand.tmp 7),none)
 t4:(ops[4]?).map trO=some (some 9,Op.move (Operand.tmp 8),none)
 t5:(ops[5]?).map trO=some (some 10,Op.load 28 (Operand.tmp 1),some (4,false))
 t6:(ops[6]?).map trO=some (some 11,Op.load 28 (Operand.tmp 1),some (4,false))
 t7:(ops[7]?).map trO=some (some 12,Op.call {callee:=Callee.value (Operand.func 45),args:=#[Operand.tmp 11],argTypes:=#[28]},some (4,false))
 t8:(ops[8]?).map trO=some (some 13,Op.call {callee:=Callee.value (Operand.func 22),args:=#[Operand.tmp 10,Operand.tmp 12],argTypes:=#[28,28]},some (4,false))
 t9:(ops[9]?).map trO=some (some 14,Op.unOp UnOp.not 4 (Operand.tmp 13),some (4,false))
 t10:(ops[10]?).map trO=some (some 15,Op.pick (Operand.tmp 9) (Operand.const (Value.bool true)) (Operand.tmp 14),none)
 t11:(ops[11]?).map trO=some (some 16,Op.move (Operand.tmp 15),none)
 t12:(ops[12]?).map trO=some (some 17,Op.load 28 (Operand.tmp 1),some (11,false))
 t13:(ops[13]?).map trO=some (some 18,Op.call {callee:=Callee.value (Operand.func 46),args:=#[Operand.tmp 17],argTypes:=#[28]},some (11,false))
 t14:(ops[14]?).map trO=some (some 19,Op.move (Operand.tmp 18),some (11,false))
 t15:(ops[15]?).map trO=some (some 20,Op.fieldAddr 28 (Operand.tmp 1) 4,some (14,true))
 t16:(ops[16]?).map trO=some (some 21,Op.load 3 (Operand.tmp 20),some (14,true))
 t17:(ops[17]?).map trO=some (some 22,Op.call {callee:=Callee.value (Operand.func 44),args:=#[Operand.tmp 21,Operand.const (Value.int IntKind.i64 1),Operand.const (Value.int IntKind.i64 65535)],argTypes:=#[3,3,3]},some (14,true))
 t18:(ops[18]?).map trO=some (some 23,Op.unOp UnOp.not 4 (Operand.tmp 22),some (14,true))
 t19:(ops[19]?).map trO=some (some 24,Op.pick (Operand.tmp 19) (Operand.tmp 23) (Operand.const (Value.bool false)),some (11,false))
 t20:(ops[20]?).map trO=some (some 25,Op.pick (Operand.tmp 16) (Operand.const (Value.bool true)) (Operand.tmp 24),none)
 t21:(ops[21]?).map trO=some (some 26,Op.move (Operand.tmp 25),none)
 t22:(ops[22]?).map trO=some (some 27,Op.fieldAddr 28 (Operand.tmp 1) 3,some (21,false))
 t23:(ops[23]?).map trO=some (some 28,Op.load 3 (Operand.tmp 27),some (21,false))
 t24:(ops[24]?).map trO=some (some 29,Op.call {callee:=Callee.value (Operand.func 44),args:=#[Operand.tmp 28,Operand.const (Value.int IntKind.i64 0),Operand.const (Value.int IntKind.i64 2)],argTypes:=#[3,3,3]},some (21,false))
 t25:(ops[25]?).map trO=some (some 30,Op.unOp UnOp.not 4 (Operand.tmp 29),some (21,false))
 t26:(ops[26]?).map trO=some (some 31,Op.pick (Operand.tmp 26) (Operand.const (Value.bool true)) (Operand.tmp 30),none)
 t27:(ops[27]?).map trO=some (some 32,Op.move (Operand.tmp 31),none)
 t28:(ops[28]?).map trO=some (some 33,Op.fieldAddr 28 (Operand.tmp 1) 5,some (27,false))
 t29:(ops[29]?).map trO=some (some 34,Op.load 9 (Operand.tmp 33),some (27,false))
 t30:(ops[30]?).map trO=some (some 35,Op.call {callee:=Callee.value (Operand.func 47),args:=#[Operand.tmp 34],argTypes:=#[9]},some (27,false))
 t31:(ops[31]?).map trO=some (some 36,Op.unOp UnOp.not 4 (Operand.tmp 35),some (27,false))
 t32:(ops[32]?).map trO=some (some 37,Op.pick (Operand.tmp 32) (Operand.const (Value.bool true)) (Operand.tmp 36),none)
 t33:(ops[33]?).map trO=some (some 38,Op.move (Operand.tmp 37),none)
 t34:(ops[34]?).map trO=some (some 39,Op.fieldAddr 28 (Operand.tmp 1) 8,some (33,false))
 t35:(ops[35]?).map trO=some (some 40,Op.load 9 (Operand.tmp 39),some (33,false))
 t36:(ops[36]?).map trO=some (some 41,Op.call {callee:=Callee.value (Operand.func 47),args:=#[Operand.tmp 40],argTypes:=#[9]},some (33,false))
 t37:(ops[37]?).map trO=some (some 42,Op.unOp UnOp.not 4 (Operand.tmp 41),some (33,false))
 t38:(ops[38]?).map trO=some (some 43,Op.pick (Operand.tmp 38) (Operand.const (Value.bool true)) (Operand.tmp 42),none)
 t39:(ops[39]?).map trO=some (some 44,Op.move (Operand.tmp 43),none)
 t40:(ops[40]?).map trO=some (some 45,Op.fieldAddr 28 (Operand.tmp 1) 15,some (39,false))
 t41:(ops[41]?).map trO=some (some 46,Op.load 9 (Operand.tmp 45),some (39,false))
 t42:(ops[42]?).map trO=some (some 47,Op.call {callee:=Callee.value (Operand.func 47),args:=#[Operand.tmp 46],argTypes:=#[9]},some (39,false))
 t43:(ops[43]?).map trO=some (some 48,Op.unOp UnOp.not 4 (Operand.tmp 47),some (39,false))
 t44:(ops[44]?).map trO=some (some 49,Op.pick (Operand.tmp 44) (Operand.const (Value.bool true)) (Operand.tmp 48),none)
 t45:(ops[45]?).map trO=some (some 50,Op.move (Operand.tmp 49),none)
 t46:(ops[46]?).map trO=some (some 51,Op.fieldAddr 28 (Operand.tmp 1) 12,some (45,false))
 t47:(ops[47]?).map trO=some (some 52,Op.fieldAddr 24 (Operand.tmp 51) 0,some (45,false))
 t48:(ops[48]?).map trO=some (some 53,Op.load 9 (Operand.tmp 52),some (45,false))
 t49:(ops[49]?).map trO=some (some 54,Op.call {callee:=Callee.value (Operand.func 47),args:=#[Operand.tmp 53],argTypes:=#[9]},some (45,false))
 t50:(ops[50]?).map trO=some (some 55,Op.unOp UnOp.not 4 (Operand.tmp 54),some (45,false))
 t51:(ops[51]?).map trO=some (some 56,Op.pick (Operand.tmp 50) (Operand.const (Value.bool true)) (Operand.tmp 55),none)
 t52:(ops[52]?).map trO=some (some 57,Op.move (Operand.tmp 56),none)
 t53:(ops[53]?).map trO=some (some 58,Op.fieldAddr 28 (Operand.tmp 1) 12,some (52,false))
 t54:(ops[54]?).map trO=some (some 59,Op.fieldAddr 24 (Operand.tmp 58) 2,some (52,false))
 t55:(ops[55]?).map trO=some (some 60,Op.load 3 (Operand.tmp 59),some (52,false))
 t56:(ops[56]?).map trO=some (some 61,Op.call {callee:=Callee.value (Operand.func 44),args:=#[Operand.tmp 60,Operand.const (Value.int IntKind.i64 0),Operand.const (Value.int IntKind.i64 2)],argTypes:=#[3,3,3]},some (52,false))
 t57:(ops[57]?).map trO=some (some 62,Op.unOp UnOp.not 4 (Operand.tmp 61),some (52,false))
 t58:(ops[58]?).map trO=some (some 63,Op.pick (Operand.tmp 57) (Operand.const (Value.bool true)) (Operand.tmp 62),none)
 t59:(ops[59]?).map trO=some (some 64,Op.move (Operand.tmp 63),none)
 t60:(ops[60]?).map trO=some (some 65,Op.fieldAddr 28 (Operand.tmp 1) 12,some (59,false))
 t61:(ops[61]?).map trO=some (some 66,Op.fieldAddr 24 (Operand.tmp 65) 1,some (59,false))
 t62:(ops[62]?).map trO=some (some 67,Op.load 22 (Operand.tmp 66),some (59,false))
 t63:(ops[63]?).map trO=some (some 68,Op.call {callee:=Callee.builtin Builtin.len,args:=#[Operand.tmp 67],argTypes:=#[22]},some (59,false))
 t64:(ops[64]?).map trO=some (some 69,Op.binOp BinOp.gtr 3 (Operand.tmp 68) (Operand.const (Value.int IntKind.i64 65535)) 3,some (59,false))
 t65:(ops[65]?).map trO=some (some 70,Op.pick (Operand.tmp 64) (Operand.const (Value.bool true)) (Operand.tmp 69),none)
 t66:(ops[66]?).map trO=some (some 71,Op.move (Operand.tmp 70),none)
 t67:(ops[67]?).map trO=some (some 72,Op.fieldAddr 28 (Operand.tmp 1) 16,some (66,false))
 t68:(ops[68]?).map trO=some (some 73,Op.load 22 (Operand.tmp 72),some (66,false))
 t69:(ops[69]?).map trO=some (some 74,Op.call {callee:=Callee.builtin Builtin.len,args:=#[Operand.tmp 73],argTypes:=#[22]},some (66,false))
 t70:(ops[70]?).map trO=some (some 75,Op.binOp BinOp.gtr 3 (Operand.tmp 74) (Operand.const (Value.int IntKind.i64 65535)) 3,some (66,false))
 t71:(ops[71]?).map trO=some (some 76,Op.pick (Operand.tmp 71) (Operand.const (Value.bool true)) (Operand.tmp 75),none)
theorem RRT.ops {ops:Array Oper}(h:RRT ops):RROps ops (fun k=>(ops.getD k default).type) (fun k=>(ops.getD k default).pos) (fun k=>(ops.getD k default).after) :=
 ⟨tr_of h.t0,tr_of h.t1,tr_of h.t2,tr_of h.t3,tr_of h.t4,tr_of h.t5,tr_of h.t6,tr_of h.t7,tr_of h.t8,tr_of h.t9,tr_of h.t10,tr_of h.t11,tr_of h.t12,tr_of h.t13,tr_of h.t14,tr_of h.t15,tr_of h.t16,tr_of h.t17,tr_of h.t18,tr_of h.t19,tr_of h.t20,tr_of h.t21,tr_of h.t22,tr_of h.t23,tr_of h.t24,tr_of h.t25,tr_of h.t26,tr_of h.t27,tr_of h.t28,tr_of h.t29,tr_of h.t30,tr_of h.t31,tr_of h.t32,tr_of h.t33,tr_of h.t34,tr_of h.t35,tr_of h.t36,tr_of h.t37,tr_of h.t38,tr_of h.t39,tr_of h.t40,tr_of h.t41,tr_of h.t42,tr_of h.t43,tr_of h.t44,tr_of h.t45,tr_of h.t46,tr_of h.t47,tr_of h.t48,tr_of h.t49,tr_of h.t50,tr_of h.t51,tr_of h.t52,tr_of h.t53,tr_of h.t54,tr_of h.t55,tr_of h.t56,tr_of h.t57,tr_of h.t58,tr_of h.t59,tr_of h.t60,tr_of h.t61,tr_of h.t62,tr_of h.t63,tr_of h.t64,tr_of h.t65,tr_of h.t66,tr_of h.t67,tr_of h.t68,tr_of h.t69,tr_of h.t70,tr_of h.t71⟩
theorem rd_all {ops:Array Oper}(h:((List.range 72).all fun k=>k==5 || Region.ready .any ops (Lst 72 k)==[k])=true)(k:Nat)(h1:k<72)(h2:k≠5):Region.ready .any ops (Lst 72 k)=[k]:=by
 have:=List.all_eq_true.1 h k (List.mem_range.2 h1)
 simpa [h2] using this
theorem frame_out (a:Act)(n:Nat)(hs:a.tmps.size=n)(hd:a.defers=[]):a={tmps:=((List.range n).map fun i=>a.tmps.getD i undef).toArray,defers:=[]}:=by
 obtain ⟨tm,df⟩:=a
 simp only at hs hd
 subst hd
 congr 1
 subst hs
 apply Array.ext
 ·simp
 ·intro i h1 h2
  simp [h1]
theorem frame_r (a:Act)(p:Pk)(s:Sv)(g0:Nat)(b:Bool)(F:KD a 201 [(76,.bool b),(0,pkV p s),(1,.pointer (some ⟨g0,0,none⟩)),(2,.bool false)]):∃g:Nat→Value,a={tmps:=#[pkV p s,.pointer (some ⟨g0,0,none⟩),.bool false,g 3,g 4,g 5,g 6,g 7,g 8,g 9,g 10,g 11,g 12,g 13,g 14,g 15,g 16,g 17,g 18,g 19,g 20,g 21,g 22,g 23,g 24,g 25,g 26,g 27,g 28,g 29,g 30,g 31,g 32,g 33,g 34,g 35,g 36,g 37,g 38,g 39,g 40,g 41,g 42,g 43,g 44,g 45,g 46,g 47,g 48,g 49,g 50,g 51,g 52,g 53,g 54,g 55,g 56,g 57,g 58,g 59,g 60,g 61,g 62,g 63,g 64,g 65,g 66,g 67,g 68,g 69,g 70,g 71,g 72,g 73,g 74,g 75,.bool b,g 77,g 78,g 79,g 80,g 81,g 82,g 83,g 84,g 85,g 86,g 87,g 88,g 89,g 90,g 91,g 92,g 93,g 94,g 95,g 96,g 97,g 98,g 99,g 100,g 101,g 102,g 103,g 104,g 105,g 106,g 107,g 108,g 109,g 110,g 111,g 112,g 113,g 114,g 115,g 116,g 117,g 118,g 119,g 120,g 121,g 122,g 123,g 124,g 125,g 126,g 127,g 128,g 129,g 130,g 131,g 132,g 133,g 134,g 135,g 136,g 137,g 138,g 139,g 140,g 141,g 142,g 143,g 144,g 145,g 146,g 147,g 148,g 149,g 150,g 151,g 152,g 153,g 154,g 155,g 156,g 157,g 158,g 159,g 160,g 161,g 162,g 163,g 164,g 165,g 166,g 167,g 168,g 169,g 170,g 171,g 172,g 173,g 174,g 175,g 176,g 177,g 178,g 179,g 180,g 181,g 182,g 183,g 184,g 185,g 186,g 187,g 188,g 189,g 190,g 191,g 192,g 193,g 194,g 195,g 196,g 197,g 198,g 199,g 200],defers:=[]}:=by
 obtain ⟨g,hg⟩:∃g:Nat→Value,g=fun i=>a.tmps.getD i undef:=⟨_,rfl⟩
 refine ⟨g,(frame_out a 201 F.1.size F.2).trans ?_⟩
 rw [←hg]
 have k:∀i v,(i,v) ∈ [(76,Value.bool b),(0,pkV p s),(1,.pointer (some ⟨g0,0,none⟩)),(2,.bool false)]→g i=v:=fun i v h=>by
  rw [hg]
  exact F.ev h
 rw [←k 0 _ (.tail _ (.head _)),←k 1 _ (.tail _ (.tail _ (.head _))),←k 2 _ (.tail _ (.tail _ (.tail _ (.head _)))),←k 76 _ (.head _)]
 rfl
def rc2 (p:Pk):Bool:=inI p.level 0 255 && inI p.keep 0 65535 && (!p.hp || p.hu) && inI p.code 0 5 && (!p.pres || p.code==0)
def rcS (p:Pk) (x:ByteArray×Int):Bool:=rtxt x.1 && (inI x.2 0 2 && !(p.kind==10 && x.2 != 0))
def rcC (x:Int):Bool:=inI x 0 2 || x==128
def rc3 (p:Pk):Bool:=p.subs.all (rcS p) && p.codes.all rcC && !((p.kind==8 || p.kind==10) && p.subs.length==0) && !(p.kind==9 && p.codes.length==0)
def rc4 (p:Pk):Bool:=!((p.kind==8 || p.kind==10) && (p.subs.length:Int)==0) && !(p.kind==9 && (p.codes.length:Int)==0)
theorem ref_parts (p:Pk):refRP p=(rc1 p && (rc2 p && (rc3 p && decide (lenP p≤8192)))):=by
 unfold refRP rc1 rc2 rc3
 simp only [Bool.and_assoc,Bool.and_true]
 rfl
end Go.Proofs.Ytnhpacaoobpkhaa
