import Derived.Test.YtnhpacaoobpkhaaGBase
import Derived.Lib.ConvBytes
import Derived.Lib.SmallJoins
import Derived.Laws.AppendOwn
import Derived.Laws.Rows
import Derived.Deep.WholeRow
import Derived.Great.BuildSlice
import Derived.Deep.MidRow
import Derived.BigFrame
import Derived.Deep.RegionHeld3
import Derived.Maps.AppendAt
import Derived.Lib.SliceRun
namespace Go.Proofs.Ytnhpacaoobpkhaa
open Go.RowKit Go.Lib
set_option linter.unusedVariables false
set_option maxRecDepth 100000
set_option maxHeartbeats 2000000
structure Pk where
 kind:Int
 dup:Bool
 ret:Bool
 qos:Int
 id:Int
 top:ByteArray
 pay:List UInt8
 level:Int
 cli:ByteArray
 clean:Bool
 keep:Int
 hw:Bool
 wtop:ByteArray
 wpay:List UInt8
 wqos:Int
 wret:Bool
 hu:Bool
 hp:Bool
 user:ByteArray
 pass:List UInt8
 pres:Bool
 code:Int
 subs:List (ByteArray×Int)
 codes:List Int
deriving DecidableEq
structure Sv where
 pA:Option Addr
 pC:Nat
 wA:Option Addr
 wC:Nat
 uA:Option Addr
 uC:Nat
 sA:Option Addr
 sC:Nat
 cA:Option Addr
 cC:Nat
def pkC (p:Pk) (s:Sv):Array Value :=
 #[.int .i64 p.kind,.bool p.dup,.bool p.ret,.int .i64 p.qos,.int .i64 p.id,.string p.top,.slice s.pA p.pay.length s.pC,.int .i64 p.level,.string p.cli,.bool p.clean,.int .i64 p.keep,.bool p.hw,.string p.wtop,.slice s.wA p.wpay.length s.wC,.int .i64 p.wqos,.bool p.wret,.bool p.hu,.bool p.hp,.string p.user,.slice s.uA p.pass.length s.uC,.bool p.pres,.int .i64 p.code,.slice s.sA p.subs.length s.sC,.slice s.cA p.codes.length s.cC]
@[reducible] def pkV (p:Pk) (s:Sv):Value:=.agg (pkC p s)
@[simp,go_sem] theorem pkC_0 (p:Pk) (s:Sv):(pkC p s)[0]? = some (.int .i64 p.kind):=rfl
@[simp,go_sem] theorem pkC_1 (p:Pk) (s:Sv):(pkC p s)[1]? = some (.bool p.dup):=rfl
@[simp,go_sem] theorem pkC_2 (p:Pk) (s:Sv):(pkC p s)[2]? = some (.bool p.ret):=rfl
@[simp,go_sem] theorem pkC_3 (p:Pk) (s:Sv):(pkC p s)[3]? = some (.int .i64 p.qos):=rfl
@[simp,go_sem] theorem pkC_4 (p:Pk) (s:Sv):(pkC p s)[4]? = some (.int .i64 p.id):=rfl
@[simp,go_sem] theorem pkC_5 (p:Pk) (s:Sv):(pkC p s)[5]? = some (.string p.top):=rfl
@[simp,go_sem] theorem pkC_6 (p:Pk) (s:Sv):(pkC p s)[6]? = some (.slice s.pA p.pay.length s.pC):=rfl
@[simp,go_sem] theorem pkC_7 (p:Pk) (s:Sv):(pkC p s)[7]? = some (.int .i64 p.level):=rfl
@[simp,go_sem] theorem pkC_8 (p:Pk) (s:Sv):(pkC p s)[8]? = some (.string p.cli):=rfl
@[simp,go_sem] theorem pkC_9 (p:Pk) (s:Sv):(pkC p s)[9]? = some (.bool p.clean):=rfl
@[simp,go_sem] theorem pkC_10 (p:Pk) (s:Sv):(pkC p s)[10]? = some (.int .i64 p.keep):=rfl
@[simp,go_sem] theorem pkC_11 (p:Pk) (s:Sv):(pkC p s)[11]? = some (.bool p.hw):=rfl
@[simp,go_sem] theorem pkC_12 (p:Pk) (s:Sv):(pkC p s)[12]? = some (.string p.wtop):=rfl
@[simp,go_sem] theorem pkC_13 (p:Pk) (s:Sv):(pkC p s)[13]? = some (.slice s.wA p.wpay.length s.wC):=rfl
@[simp,go_sem] theorem pkC_14 (p:Pk) (s:Sv):(pkC p s)[14]? = some (.int .i64 p.wqos):=rfl
@[simp,go_sem] theorem pkC_15 (p:Pk) (s:Sv):(pkC p s)[15]? = some (.bool p.wret):=rfl
@[simp,go_sem] theorem pkC_16 (p:Pk) (s:Sv):(pkC p s)[16]? = some (.bool p.hu):=rfl
@[simp,go_sem] theorem pkC_17 (p:Pk) (s:Sv):(pkC p s)[17]? = some (.bool p.hp):=rfl
@[simp,go_sem] theorem pkC_18 (p:Pk) (s:Sv):(pkC p s)[18]? = some (.string p.user):=rfl
@[simp,go_sem] theorem pkC_19 (p:Pk) (s:Sv):(pkC p s)[19]? = some (.slice s.uA p.pass.length s.uC):=rfl
@[simp,go_sem] theorem pkC_20 (p:Pk) (s:Sv):(pkC p s)[20]? = some (.bool p.pres):=rfl
@[simp,go_sem] theorem pkC_21 (p:Pk) (s:Sv):(pkC p s)[21]? = some (.int .i64 p.code):=rfl
@[simp,go_sem] theorem pkC_22 (p:Pk) (s:Sv):(pkC p s)[22]? = some (.slice s.sA p.subs.length s.sC):=rfl
@[simp,go_sem] theorem pkC_23 (p:Pk) (s:Sv):(pkC p s)[23]? = some (.slice s.cA p.codes.length s.cC):=rfl
@[simp,go_sem] theorem pkC_size (p:Pk) (s:Sv):(pkC p s).size=24:=rfl
theorem add_block (a:Addr)(n:Nat):(a.add n).block=a.block:=by unfold Addr.add;split <;> rfl
theorem pk_sz:(Try.prog.info? 28).map (·.size)=some 24:=by kernel_rfl
theorem heap_keep {w:World}{o o':Obj}{g:Nat}(h:w.heap[g]? = some o):(w.alloc o').heap[g]? = some o:=by
 have hl:g<w.heap.size:=(Array.getElem?_eq_some_iff.1 h).1
 show (w.heap.push o')[g]? = some o
 rw [Array.getElem?_push,if_neg (by omega),h]
theorem heap_below {w w':World}{o:Obj}{g:Nat}(hb:Below w.heap.size w w')(h:w.heap[g]? = some o):w'.heap[g]? = some o:=by
 rw [hb.block g (Array.getElem?_eq_some_iff.1 h).1,h]
theorem dwN {B:Nat}{a w:World}(h:Below B a w)(n:Nat):Below B a (w.drewN n):=h.trans ⟨rfl,rfl,rfl,Nat.le_refl _,fun _ _=>rfl⟩
theorem bcell {W w1:World}(hb:Below W.heap.size W w1):(∀b o,b<W.heap.size→w1.cell? ⟨b,o,none⟩=W.cell? ⟨b,o,none⟩)∧(∀b o,b<W.heap.size→w1.frozen? ⟨b,o,none⟩=W.frozen? ⟨b,o,none⟩) :=
 ⟨fun b o h=>hb.cell (p:=⟨b,o,none⟩) h,fun b o h=>hb.frozen (p:=⟨b,o,none⟩) h⟩
theorem add_next (a:Addr)(n:Nat):a.add (n+1)={block:=(a.add n).block,off:=(a.add n).off+1}:=by
 unfold Addr.add
 cases n with
 | zero=>rfl
 | succ n=>rfl
@[reducible] def wlV (p:Pk) (s:Sv):Value:=.agg #[.string p.wtop,.slice s.wA p.wpay.length s.wC,.int .i64 p.wqos,.bool p.wret]
theorem wl_sz:(Try.prog.info? 24).map (·.size)=some 4:=by kernel_rfl
theorem wl_range {w:World}{g:Nat}{fr:Nat×Nat}{t:TypeId}(p:Pk)(s:Sv)(hg:w.heap[g]? = some (.cells (pkC p s) t fr)) :
  w.rangeAt g 12 [.string p.wtop,.slice s.wA p.wpay.length s.wC,.int .i64 p.wqos,.bool p.wret]:=by
 intro j v h
 rw [cell_of_row w g _ _ _ _ hg]
 match j,h with
 | 0,h=>exact h
 | 1,h=>exact h
 | 2,h=>exact h
 | 3,h=>exact h
theorem ld_pk {ops:Array Oper} {rest:List Oper} {Q:Exit→Act→World→Prop} {a:Act} {w:World} {d:Option Tmp} {x:Operand} {ty:TypeId} {ps:String} {af:Array Edge} {gd:Option (Nat×Bool)}
  (g:Nat) (hx:a.eval x=.pointer (some ⟨g,0,none⟩)) (hw:Region.wanted ⟨d,.load 28 x,ty,ps,af,gd⟩ (yielded ops a.tmps)=true)
  (cs:Array Value) (t:TypeId) (fr:Nat×Nat) (hg:w.heap[g]? = some (.cells cs t fr)) (hi:cs.size=24)
  (h:wpList Try.prog ops Q rest (a.put d (.agg cs)) w):wpList Try.prog ops Q (⟨d,.load 28 x,ty,ps,af,gd⟩ :: rest) a w :=
 BigFrame.wpList_want hw fun _ hK=>wp_load_row 28 _ rfl g hx _ _ _ _ hg Try.underlying28 rfl (by rw [hi];exact pk_sz) (hK _ _ h)
theorem ld_wl {ops:Array Oper} {rest:List Oper} {Q:Exit→Act→World→Prop} {a:Act} {w:World} {d:Option Tmp} {x:Operand} {ty:TypeId} {ps:String} {af:Array Edge} {gd:Option (Nat×Bool)}
  (g:Nat) (p:Pk) (s:Sv) (hx:a.eval x=.pointer (some ⟨g,12,none⟩)) (hw:Region.wanted ⟨d,.load 24 x,ty,ps,af,gd⟩ (yielded ops a.tmps)=true)
  (t:TypeId) (fr:Nat×Nat) (hg:w.heap[g]? = some (.cells (pkC p s) t fr))
  (h:wpList Try.prog ops Q rest (a.put d (wlV p s)) w):wpList Try.prog ops Q (⟨d,.load 24 x,ty,ps,af,gd⟩ :: rest) a w :=
 BigFrame.wpList_want hw fun _ hK=>wp_load_mid 24 _ rfl g 12 hx _ _ (wl_range p s hg) Try.underlying24 rfl wl_sz (hK _ _ h)
def SubsAt (w:World) (B:Nat) (v:Value) (l:List (ByteArray×Int)):Prop :=
 ∃(A:Option Addr) (c:Nat),v=.slice A l.length c∧l.length≤c∧c≤maxLen∧(A=none→l=[])∧(∀ad,A=some ad→l≠[]→ad.block<B)∧∀ad,A=some ad→∀(j:Nat) (x:ByteArray×Int),l[j]? = some x→w.cell? (ad.add (j*2))=some (.string x.1)∧w.cell? (ad.add (j*2+1))=some (.int .i64 x.2)
def IntsAt (w:World) (B:Nat) (v:Value) (l:List Int):Prop :=
 ∃(A:Option Addr) (c:Nat),v=.slice A l.length c∧l.length≤c∧c≤maxLen∧(A=none→l=[])∧(∀ad,A=some ad→l≠[]→ad.block<B)∧∀ad,A=some ad→∀(j:Nat) (x:Int),l[j]? = some x→w.cell? (ad.add j)=some (.int .i64 x)
theorem SubsAt.below {w w':World}{B:Nat}{v:Value}{l:List (ByteArray×Int)}(h:SubsAt w B v l)(hb:Below B w w'):SubsAt w' B v l:=by
 obtain ⟨A,c,hv,hc,hm,hn,hB,hx⟩:=h
 refine ⟨A,c,hv,hc,hm,hn,hB,fun ad had j x hj=>?_⟩
 have hne:l≠[]:=by intro e;rw [e] at hj;simp at hj
 rw [hb.cell (p:=ad.add (j*2)) (by rw [add_block];exact hB ad had hne),hb.cell (p:=ad.add (j*2+1)) (by rw [add_block];exact hB ad had hne)]
 exact hx ad had j x hj
theorem SubsAt.more {w:World}{B B':Nat}{v:Value}{l:List (ByteArray×Int)}(h:SubsAt w B v l)(hB:B≤B'):SubsAt w B' v l:=by
 obtain ⟨A,c,hv,hc,hm,hn,hb,hx⟩:=h
 exact ⟨A,c,hv,hc,hm,hn,fun ad had hne=>Nat.lt_of_lt_of_le (hb ad had hne) hB,hx⟩
theorem SubsAt.on {w w':World}{v:Value}{l:List (ByteArray×Int)}(h:SubsAt w w.heap.size v l)(hb:Below w.heap.size w w'):SubsAt w' w'.heap.size v l:=(h.below hb).more hb.size
theorem SubsAt.at_ {w:World}{B:Nat}{A:Option Addr}{n c:Nat}{l:List (ByteArray×Int)}(h:SubsAt w B (.slice A n c) l)(k:Nat)(hk:k<l.length) :
  ∃ad,A=some ad∧k<c∧w.cell? (ad.add (k*2))=some (.string l[k].1)∧w.cell? {block:=(ad.add (k*2)).block,off:=(ad.add (k*2)).off+1}=some (.int .i64 l[k].2):=by
 simp only [←add_next]
 obtain ⟨A',c',hv,hc,hm,hn,hb,hx⟩:=h
 injection hv with e1 e2 e3
 subst e1;subst e3
 cases A with
 | none=>have:=hn rfl;subst this;exact absurd hk (by simp)
 | some ad=>exact ⟨ad,rfl,by omega,hx ad rfl k l[k] (List.getElem?_eq_getElem hk)⟩
theorem IntsAt.below {w w':World}{B:Nat}{v:Value}{l:List Int}(h:IntsAt w B v l)(hb:Below B w w'):IntsAt w' B v l:=by
 obtain ⟨A,c,hv,hc,hm,hn,hB,hx⟩:=h
 refine ⟨A,c,hv,hc,hm,hn,hB,fun ad had j x hj=>?_⟩
 have hne:l≠[]:=by intro e;rw [e] at hj;simp at hj
 rw [hb.cell (p:=ad.add j) (by rw [add_block];exact hB ad had hne)]
 exact hx ad had j x hj
theorem IntsAt.more {w:World}{B B':Nat}{v:Value}{l:List Int}(h:IntsAt w B v l)(hB:B≤B'):IntsAt w B' v l:=by
 obtain ⟨A,c,hv,hc,hm,hn,hb,hx⟩:=h
 exact ⟨A,c,hv,hc,hm,hn,fun ad had hne=>Nat.lt_of_lt_of_le (hb ad had hne) hB,hx⟩
theorem IntsAt.on {w w':World}{v:Value}{l:List Int}(h:IntsAt w w.heap.size v l)(hb:Below w.heap.size w w'):IntsAt w' w'.heap.size v l:=(h.below hb).more hb.size
theorem IntsAt.at_ {w:World}{B:Nat}{A:Option Addr}{n c:Nat}{l:List Int}(h:IntsAt w B (.slice A n c) l)(k:Nat)(hk:k<l.length) :
  ∃ad,A=some ad∧k<c∧w.cell? (ad.add k)=some (.int .i64 l[k]):=by
 obtain ⟨A',c',hv,hc,hm,hn,hb,hx⟩:=h
 injection hv with e1 e2 e3
 subst e1;subst e3
 cases A with
 | none=>have:=hn rfl;subst this;exact absurd hk (by simp)
 | some ad=>exact ⟨ad,rfl,by omega,hx ad rfl k l[k] (List.getElem?_eq_getElem hk)⟩
structure PkAt (w:World) (B:Nat) (p:Pk) (s:Sv):Prop where
 pay:BytesAt w B (.slice s.pA p.pay.length s.pC) p.pay
 wpay:BytesAt w B (.slice s.wA p.wpay.length s.wC) p.wpay
 pass:BytesAt w B (.slice s.uA p.pass.length s.uC) p.pass
 subs:SubsAt w B (.slice s.sA p.subs.length s.sC) p.subs
 codes:IntsAt w B (.slice s.cA p.codes.length s.cC) p.codes
theorem PkAt.below {w w':World}{B:Nat}{p:Pk}{s:Sv}(h:PkAt w B p s)(hb:Below B w w'):PkAt w' B p s:=⟨h.pay.below hb,h.wpay.below hb,h.pass.below hb,h.subs.below hb,h.codes.below hb⟩
theorem PkAt.more {w:World}{B B':Nat}{p:Pk}{s:Sv}(h:PkAt w B p s)(hb:B≤B'):PkAt w B' p s:=⟨h.pay.more hb,h.wpay.more hb,h.pass.more hb,h.subs.more hb,h.codes.more hb⟩
theorem PkAt.on {w w':World}{p:Pk}{s:Sv}(h:PkAt w w.heap.size p s)(hb:Below w.heap.size w w'):PkAt w' w'.heap.size p s:=(h.below hb).more hb.size
theorem BytesAt.to {w w':World}{B:Nat}{v:Value}{l:List UInt8}(h:BytesAt w B v l)(hB:B≤w.heap.size)(hb:Below w.heap.size w w'):BytesAt w' B v l:=h.below (hb.mono hB)
theorem SubsAt.to {w w':World}{B:Nat}{v:Value}{l:List (ByteArray×Int)}(h:SubsAt w B v l)(hB:B≤w.heap.size)(hb:Below w.heap.size w w'):SubsAt w' B v l:=h.below (hb.mono hB)
theorem IntsAt.to {w w':World}{B:Nat}{v:Value}{l:List Int}(h:IntsAt w B v l)(hB:B≤w.heap.size)(hb:Below w.heap.size w w'):IntsAt w' B v l:=h.below (hb.mono hB)
theorem PkAt.to {w w':World}{B:Nat}{p:Pk}{s:Sv}(h:PkAt w B p s)(hB:B≤w.heap.size)(hb:Below w.heap.size w w'):PkAt w' B p s:=h.below (hb.mono hB)
def i64In (n:Int):Prop:=-9223372036854775808≤n∧n≤9223372036854775807
structure PkOk (p:Pk):Prop where
 kind:i64In p.kind
 qos:i64In p.qos
 id:i64In p.id
 level:i64In p.level
 keep:i64In p.keep
 wqos:i64In p.wqos
 code:i64In p.code
 top:p.top.size≤1000000
 pay:p.pay.length≤1000000
 cli:p.cli.size≤1000000
 wtop:p.wtop.size≤1000000
 wpay:p.wpay.length≤1000000
 user:p.user.size≤1000000
 pass:p.pass.length≤1000000
 subs:p.subs.length≤1000000
 codes:p.codes.length≤1000000
 sub:∀x ∈ p.subs,x.1.size≤1000000∧i64In x.2
 cod:∀x ∈ p.codes,i64In x
def inI (n a b:Int):Bool:=decide (a≤n) && decide (n≤b)
def txt (s:ByteArray):Bool:=decide (chkL s.data.toList<0)
theorem within_any (n a b:Int)(w:World) :
  Calls Try.prog 75 #[.int .i64 n,.int .i64 a,.int .i64 b] w fun e w'=>e=.returned (.bool (inI n a b))∧w=w':=by
 go_enter Try.func75,Try.ntmps75
 go_wp2
 all_goals (go_ret;exact ⟨ret_bool (by unfold inI;simp;try omega),rfl⟩)
theorem isQos_any (n:Int)(w:World) :
  Calls Try.prog 98 #[.int .i64 n] w fun e w'=>e=.returned (.bool (inI n 0 2))∧w=w':=by
 go_enter Try.func98,Try.ntmps98
 go_wp2_with (go_at_call 75;refine (within_any _ _ _ _).mono ?_;rintro e w' ⟨rfl,rfl⟩)
 go_ret
 exact ⟨rfl,rfl⟩
theorem isId_any (n:Int)(w:World) :
  Calls Try.prog 77 #[.int .i64 n] w fun e w'=>e=.returned (.bool (inI n 1 65535))∧w=w':=by
 go_enter Try.func77,Try.ntmps77
 go_wp2_with (go_at_call 75;refine (within_any _ _ _ _).mono ?_;rintro e w' ⟨rfl,rfl⟩)
 go_ret
 exact ⟨rfl,rfl⟩
theorem conv_str (s:ByteArray)(w:World)(hs:s.size≤1000000) :
  ∃(C:Nat) (W:World),(convert 9 22 (.string s)).run Try.prog w=.ok (.slice (some ⟨w.heap.size,0,none⟩) s.size C) W∧BytesAt W W.heap.size (.slice (some ⟨w.heap.size,0,none⟩) s.size C) s.data.toList∧Below w.heap.size w W:=by
 refine ⟨_,_,Go.Lib.run_convert_string_bytes w 9 22 5 s Try.underlying9 Try.underlying22 Try.underlying5,?_,Go.Joins.below_bytesWorld _ _ _ _ (Nat.le_refl _)⟩
 refine ⟨_,_,by rw [size_list],by rw [size_list];exact grownCap_ge _ _ _ _,grownCap_le_maxLen _ _ _ _ (by unfold maxLen;omega),by simp,fun ad had _=>?_,fun ad had j x hj=>?_⟩
 ·injection had with had;subst had
  rw [bytesWorld_size];exact Nat.lt_succ_self _
 ·injection had with had;subst had
  have hlt:j<s.size:=by rw [←size_list];exact (List.getElem?_eq_some_iff.1 hj).1
  rw [show (Addr.add ⟨w.heap.size,0,none⟩ j)=⟨w.heap.size,j,none⟩ by simp [Addr.add];exact fun h=>h.symm,bytesWorld_cell _ _ _ _ hlt,List.getD_eq_getElem?_getD,hj]
  rfl
theorem isText_any (s:ByteArray)(w:World)(hs:s.size≤1000000) :
  Calls Try.prog 97 #[.string s] w fun e w'=>e=.returned (.bool (txt s))∧Below w.heap.size w w':=by
 obtain ⟨C,W,hcv,hB,hb⟩:=conv_str s w hs
 go_enter Try.func97,Try.ntmps97
 go_wp2_with (go_at_call 105;refine (check_any _ _ _ hB (by rw [size_list];omega)).mono ?_;rintro e w' ⟨rfl,hb2⟩)
 all_goals (go_ret;exact ⟨ret_bool (by unfold txt;simp;try omega),thn hb hb2⟩)
theorem put_ne {a:Act}{d i:Nat}{v:Value}(h:d≠i):(a.put (some d) v).tmps[i]? = a.tmps[i]? := by
 simp [Act.put,h]
theorem put_eq {a:Act}{d:Nat}{v:Value}(h:d<a.tmps.size):(a.put (some d) v).tmps[d]? = some v:=by
 simp [Act.put,h]
theorem put_size {a:Act} {d:Nat} {v:Value}:(a.put (some d) v).tmps.size=a.tmps.size:=by simp [Act.put]
theorem ev_tmp {a:Act}{i:Nat}{v:Value}(h:a.tmps[i]? = some v):a.eval (.tmp i)=v:=by
 show a.tmps.getD i undef=v
 simp [Array.getD_eq_getD_getElem?,h]
theorem ev_raw {a:Act}{i:Nat}{v:Value}(h:a.eval (.tmp i)=v):a.tmps[i]?.getD undef=v:=by
 have h':a.tmps.getD i undef=v:=h
 simpa using h'
theorem yl_of {ops:Array Oper}{a:Act}{j d:Nat}{b:Bool}(hd:(ops[j]?).bind (·.dst)=some d)(h:a.tmps[d]? = some (.bool b)):yielded ops a.tmps j=some b:=by
 simp [yielded,hd,h]
theorem wl_do {ops:Array Oper}{Q:Exit→Act→World→Prop}{a:Act}{w w':World}{rest:List Oper}{o:Oper}{v:Value}(hw:Region.wanted o (yielded ops a.tmps)=true)(hx:(execOp a.eval o).run Try.prog w=.ok (.value v) w')(h:wpList Try.prog ops Q rest (a.put o.dst v) w'):wpList Try.prog ops Q (o :: rest) a w :=
 BigFrame.wpList_want hw fun K hK=>by
  unfold Oper.wp
  rw [hx]
  exact hK _ _ h
theorem wl_skip {ops:Array Oper}{Q:Exit→Act→World→Prop}{a:Act}{w:World}{rest:List Oper}{o:Oper}(hw:Region.wanted o (yielded ops a.tmps)=false)(h:wpList Try.prog ops Q rest (a.put o.dst undef) w):wpList Try.prog ops Q (o :: rest) a w:=by
 unfold wpList
 rw [if_neg (by rw [hw];simp)]
 exact h
structure Fr (a:Act) (n p1 p2:Nat) (u1 u2:Value) (i:Nat) (b:Bool):Prop where
 size:a.tmps.size=n
 h1:a.tmps[p1]? = some u1
 h2:a.tmps[p2]? = some u2
 acc:a.tmps[i]? = some (.bool b)
 defers:a.defers=[]
theorem want_g {d:Option Tmp}{op:Op}{ty:TypeId}{ps:String}{af:Array Edge}{g:Nat}{x b:Bool}{ys:Nat→Option Bool}(h:ys g=some b):Region.wanted ⟨d,op,ty,ps,af,some (g,x)⟩ ys=(b==x):=by
 simp [Region.wanted,h]
theorem want_n {d:Option Tmp} {op:Op} {ty:TypeId} {ps:String} {af:Array Edge} {ys:Nat→Option Bool}:Region.wanted ⟨d,op,ty,ps,af,none⟩ ys=true:=by
 simp [Region.wanted]
theorem eq_step {ops:Array Oper} {Q:Exit→Act→World→Prop} {a:Act} {w:World} {rest:List Oper} {T0 T:TypeId} {f:Nat} {ty1 ty2 ty3 ty4 ty5 ty6 ty7:TypeId} {q1 q2 q3 q4 q5 q6 q7:String} {e1 e2 e3 e4 e5 e6 e7:Array Edge} {TB:TypeId}
  (n p1 p2 k g m:Nat) (op7:Op) (u1 u2:Value) (b x:Bool) (hF:Fr a n p1 p2 u1 u2 (k - 1) b) (hm:m<n) (hm1:m≠p1) (hm2:m≠p2) (h1:p1<k - 1) (h2:p2<k - 1) (hk:k+5<n) (hg:(ops[g]?).bind (·.dst)=some (k - 1))
  (y1 y2 v1 v2:Value)
  (E1:∀a:Act,a.eval (.tmp p1)=u1→(execOp a.eval ⟨some k,.fieldAddr T0 (.tmp p1) f,ty1,q1,e1,some (g,true)⟩).run Try.prog w=.ok (.value y1) w)
  (E2:∀a:Act,a.eval (.tmp k)=y1→(execOp a.eval ⟨some (k+1),.load T (.tmp k),ty2,q2,e2,some (g,true)⟩).run Try.prog w=.ok (.value v1) w)
  (E3:∀a:Act,a.eval (.tmp p2)=u2→(execOp a.eval ⟨some (k+2),.fieldAddr T0 (.tmp p2) f,ty3,q3,e3,some (g,true)⟩).run Try.prog w=.ok (.value y2) w)
  (E4:∀a:Act,a.eval (.tmp (k+2))=y2→(execOp a.eval ⟨some (k+3),.load T (.tmp (k+2)),ty4,q4,e4,some (g,true)⟩).run Try.prog w=.ok (.value v2) w)
  (E5:∀a:Act,a.eval (.tmp (k+1))=v1→a.eval (.tmp (k+3))=v2→(execOp a.eval ⟨some (k+4),.binOp .eql T (.tmp (k+1)) (.tmp (k+3)) TB,ty5,q5,e5,some (g,true)⟩).run Try.prog w=.ok (.value (.bool x)) w)
  (E7:∀(a:Act) (v:Value),a.eval (.tmp (k+5))=v→(execOp a.eval ⟨some m,op7,ty7,q7,e7,none⟩).run Try.prog w=.ok (.value v) w)
  (K:∀a',Fr a' n p1 p2 u1 u2 m (b && x)→wpList Try.prog ops Q rest a' w) :
  wpList Try.prog ops Q (⟨some k,.fieldAddr T0 (.tmp p1) f,ty1,q1,e1,some (g,true)⟩ ::
   ⟨some (k+1),.load T (.tmp k),ty2,q2,e2,some (g,true)⟩ ::
   ⟨some (k+2),.fieldAddr T0 (.tmp p2) f,ty3,q3,e3,some (g,true)⟩ ::
   ⟨some (k+3),.load T (.tmp (k+2)),ty4,q4,e4,some (g,true)⟩ ::
   ⟨some (k+4),.binOp .eql T (.tmp (k+1)) (.tmp (k+3)) TB,ty5,q5,e5,some (g,true)⟩ ::
   ⟨some (k+5),.pick (.tmp (k - 1)) (.tmp (k+4)) (.const (.bool false)),ty6,q6,e6,none⟩ ::
   ⟨some m,op7,ty7,q7,e7,none⟩ :: rest) a w:=by
 obtain ⟨hs,a1,a2,a3,a4⟩:=hF
 have Y:∀a:Act,a.tmps[k - 1]? = some (.bool b)→yielded ops a.tmps g=some b:=fun a h=>yl_of hg h
 cases b with
 | true =>
  refine wl_do (by rw [want_g (Y a a3)];rfl) (E1 a (ev_tmp a1)) ?_
  have s1:(a.put (some k) y1).tmps.size=n:=by rw [put_size];exact hs
  have b1:=(put_ne (a:=a) (v:=y1) (by omega:k≠p1)).trans a1
  have b2:=(put_ne (a:=a) (v:=y1) (by omega:k≠p2)).trans a2
  have b3:=(put_ne (a:=a) (v:=y1) (by omega:k≠k - 1)).trans a3
  have b4:=put_eq (a:=a) (v:=y1) (by omega:k<a.tmps.size)
  have b5:(a.put (some k) y1).defers=[]:=a4
  generalize a.put (some k) y1=c at *
  clear a1 a2 a3 a4 hs
  refine wl_do (by rw [want_g (Y c b3)];rfl) (E2 c (ev_tmp b4)) ?_
  have s2:(c.put (some (k+1)) v1).tmps.size=n:=by rw [put_size];exact s1
  have c1:=(put_ne (a:=c) (v:=v1) (by omega:k+1≠p1)).trans b1
  have c2:=(put_ne (a:=c) (v:=v1) (by omega:k+1≠p2)).trans b2
  have c3:=(put_ne (a:=c) (v:=v1) (by omega:k+1≠k - 1)).trans b3
  have c4:=put_eq (a:=c) (v:=v1) (by omega:k+1<c.tmps.size)
  have c5:(c.put (some (k+1)) v1).defers=[]:=b5
  generalize c.put (some (k+1)) v1=d at *
  clear b1 b2 b3 b4 b5 s1
  refine wl_do (by rw [want_g (Y d c3)];rfl) (E3 d (ev_tmp c2)) ?_
  have s3:(d.put (some (k+2)) y2).tmps.size=n:=by rw [put_size];exact s2
  have d1:=(put_ne (a:=d) (v:=y2) (by omega:k+2≠p1)).trans c1
  have d2:=(put_ne (a:=d) (v:=y2) (by omega:k+2≠p2)).trans c2
  have d3:=(put_ne (a:=d) (v:=y2) (by omega:k+2≠k - 1)).trans c3
  have d4:=(put_ne (a:=d) (v:=y2) (by omega:k+2≠k+1)).trans c4
  have d6:=put_eq (a:=d) (v:=y2) (by omega:k+2<d.tmps.size)
  have d5:(d.put (some (k+2)) y2).defers=[]:=c5
  generalize d.put (some (k+2)) y2=e at *
  clear c1 c2 c3 c4 c5 s2
  refine wl_do (by rw [want_g (Y e d3)];rfl) (E4 e (ev_tmp d6)) ?_
  have s4:(e.put (some (k+3)) v2).tmps.size=n:=by rw [put_size];exact s3
  have e1:=(put_ne (a:=e) (v:=v2) (by omega:k+3≠p1)).trans d1
  have e2:=(put_ne (a:=e) (v:=v2) (by omega:k+3≠p2)).trans d2
  have e3:=(put_ne (a:=e) (v:=v2) (by omega:k+3≠k - 1)).trans d3
  have e4:=(put_ne (a:=e) (v:=v2) (by omega:k+3≠k+1)).trans d4
  have e6:=put_eq (a:=e) (v:=v2) (by omega:k+3<e.tmps.size)
  have e5:(e.put (some (k+3)) v2).defers=[]:=d5
  generalize e.put (some (k+3)) v2=f at *
  clear d1 d2 d3 d4 d5 d6 s3
  refine wl_do (by rw [want_g (Y f e3)];rfl) (E5 f (ev_tmp e4) (ev_tmp e6)) ?_
  have s5:(f.put (some (k+4)) (.bool x)).tmps.size=n:=by rw [put_size];exact s4
  have f1:=(put_ne (a:=f) (v:=.bool x) (by omega:k+4≠p1)).trans e1
  have f2:=(put_ne (a:=f) (v:=.bool x) (by omega:k+4≠p2)).trans e2
  have f3:=(put_ne (a:=f) (v:=.bool x) (by omega:k+4≠k - 1)).trans e3
  have f4:=put_eq (a:=f) (v:=.bool x) (by omega:k+4<f.tmps.size)
  have f5:(f.put (some (k+4)) (.bool x)).defers=[]:=e5
  generalize f.put (some (k+4)) (.bool x)=h at *
  clear e1 e2 e3 e4 e5 e6 s4
  refine wl_do want_n (w':=w) (v:=.bool x) (by simp [execOp,ev_tmp f3,ev_tmp f4,asBool]) ?_
  have s6:(h.put (some (k+5)) (.bool x)).tmps.size=n:=by rw [put_size];exact s5
  have g1:=(put_ne (a:=h) (v:=.bool x) (by omega:k+5≠p1)).trans f1
  have g2:=(put_ne (a:=h) (v:=.bool x) (by omega:k+5≠p2)).trans f2
  have g4:=put_eq (a:=h) (v:=.bool x) (by omega:k+5<h.tmps.size)
  have g5:(h.put (some (k+5)) (.bool x)).defers=[]:=f5
  generalize h.put (some (k+5)) (.bool x)=z at *
  refine wl_do want_n (w':=w) (v:=.bool x) (E7 z _ (ev_tmp g4)) ?_
  refine K _ ⟨by rw [put_size];exact s6,(put_ne (by omega)).trans g1,(put_ne (by omega)).trans g2,?_,g5⟩
  rw [Bool.true_and]
  exact put_eq (by omega)
 | false =>
  have S:∀{d:Nat} {a:Act},k≤d→d<n→(a.tmps.size=n∧a.tmps[p1]? = some u1∧a.tmps[p2]? = some u2∧a.tmps[k - 1]? = some (.bool false)∧a.defers=[])→((a.put (some d) undef).tmps.size=n∧(a.put (some d) undef).tmps[p1]? = some u1∧(a.put (some d) undef).tmps[p2]? = some u2∧(a.put (some d) undef).tmps[k - 1]? = some (.bool false)∧(a.put (some d) undef).defers=[]):=fun hd hn ⟨x1,x2,x3,x4,x5⟩ =>
   ⟨by rw [put_size];exact x1,(put_ne (by omega)).trans x2,(put_ne (by omega)).trans x3,(put_ne (by omega)).trans x4,x5⟩
  have A:a.tmps.size=n∧a.tmps[p1]? = some u1∧a.tmps[p2]? = some u2∧a.tmps[k - 1]? = some (.bool false)∧a.defers=[]:=⟨hs,a1,a2,a3,a4⟩
  clear a1 a2 a3 a4 hs
  refine wl_skip (by rw [want_g (Y _ A.2.2.2.1)];rfl) ?_
  replace A:=S (d:=k) (by omega) (by omega) A
  generalize a.put _ undef=c at *
  refine wl_skip (by rw [want_g (Y _ A.2.2.2.1)];rfl) ?_
  replace A:=S (d:=k+1) (by omega) (by omega) A
  generalize c.put _ undef=d at *
  refine wl_skip (by rw [want_g (Y _ A.2.2.2.1)];rfl) ?_
  replace A:=S (d:=k+2) (by omega) (by omega) A
  generalize d.put _ undef=e at *
  refine wl_skip (by rw [want_g (Y _ A.2.2.2.1)];rfl) ?_
  replace A:=S (d:=k+3) (by omega) (by omega) A
  generalize e.put _ undef=f at *
  refine wl_skip (by rw [want_g (Y _ A.2.2.2.1)];rfl) ?_
  replace A:=S (d:=k+4) (by omega) (by omega) A
  generalize f.put _ undef=h at *
  refine wl_do want_n (w':=w) (v:=.bool false) (by simp [execOp,ev_tmp A.2.2.2.1,asBool,BigFrame.eval_const]) ?_
  have g0:(h.put (some (k+5)) (.bool false)).tmps.size=n:=by rw [put_size];exact A.1
  have g1:=(put_ne (a:=h) (v:=.bool false) (by omega:k+5≠p1)).trans A.2.1
  have g2:=(put_ne (a:=h) (v:=.bool false) (by omega:k+5≠p2)).trans A.2.2.1
  have g4:=put_eq (a:=h) (v:=.bool false) (by omega:k+5<h.tmps.size)
  have g5:(h.put (some (k+5)) (.bool false)).defers=[]:=A.2.2.2.2
  generalize h.put (some (k+5)) (.bool false)=z at *
  refine wl_do want_n (w':=w) (v:=.bool false) (E7 z _ (ev_tmp g4)) ?_
  refine K _ ⟨by rw [put_size];exact g0,(put_ne (by omega)).trans g1,(put_ne (by omega)).trans g2,?_,g5⟩
  rw [Bool.false_and]
  exact put_eq (by omega)
theorem eq_start {ops:Array Oper} {Q:Exit→Act→World→Prop} {a:Act} {w:World} {rest:List Oper} {T0 T:TypeId} {f:Nat} {ty1 ty2 ty3 ty4 ty5 ty7:TypeId} {q1 q2 q3 q4 q5 q7:String} {e1 e2 e3 e4 e5 e7:Array Edge} {TB:TypeId}
  (n p1 p2 k:Nat) (u1 u2:Value) (x:Bool) (hs:a.tmps.size=n) (a1:a.tmps[p1]? = some u1) (a2:a.tmps[p2]? = some u2) (a4:a.defers=[]) (h1:p1<k) (h2:p2<k) (hk:k+5<n)
  (y1 y2 v1 v2:Value)
  (E1:∀a:Act,a.eval (.tmp p1)=u1→(execOp a.eval ⟨some k,.fieldAddr T0 (.tmp p1) f,ty1,q1,e1,none⟩).run Try.prog w=.ok (.value y1) w)
  (E2:∀a:Act,a.eval (.tmp k)=y1→(execOp a.eval ⟨some (k+1),.load T (.tmp k),ty2,q2,e2,none⟩).run Try.prog w=.ok (.value v1) w)
  (E3:∀a:Act,a.eval (.tmp p2)=u2→(execOp a.eval ⟨some (k+2),.fieldAddr T0 (.tmp p2) f,ty3,q3,e3,none⟩).run Try.prog w=.ok (.value y2) w)
  (E4:∀a:Act,a.eval (.tmp (k+2))=y2→(execOp a.eval ⟨some (k+3),.load T (.tmp (k+2)),ty4,q4,e4,none⟩).run Try.prog w=.ok (.value v2) w)
  (E5:∀a:Act,a.eval (.tmp (k+1))=v1→a.eval (.tmp (k+3))=v2→(execOp a.eval ⟨some (k+4),.binOp .eql T (.tmp (k+1)) (.tmp (k+3)) TB,ty5,q5,e5,none⟩).run Try.prog w=.ok (.value (.bool x)) w)
  (K:∀a',Fr a' n p1 p2 u1 u2 (k+5) x→wpList Try.prog ops Q rest a' w) :
  wpList Try.prog ops Q (⟨some k,.fieldAddr T0 (.tmp p1) f,ty1,q1,e1,none⟩ ::
   ⟨some (k+1),.load T (.tmp k),ty2,q2,e2,none⟩ ::
   ⟨some (k+2),.fieldAddr T0 (.tmp p2) f,ty3,q3,e3,none⟩ ::
   ⟨some (k+3),.load T (.tmp (k+2)),ty4,q4,e4,none⟩ ::
   ⟨some (k+4),.binOp .eql T (.tmp (k+1)) (.tmp (k+3)) TB,ty5,q5,e5,none⟩ ::
   ⟨some (k+5),.move (.tmp (k+4)),ty7,q7,e7,none⟩ :: rest) a w:=by
 refine wl_do want_n (E1 a (ev_tmp a1)) ?_
 have s1:(a.put (some k) y1).tmps.size=n:=by rw [put_size];exact hs
 have b1:=(put_ne (a:=a) (v:=y1) (by omega:k≠p1)).trans a1
 have b2:=(put_ne (a:=a) (v:=y1) (by omega:k≠p2)).trans a2
 have b4:=put_eq (a:=a) (v:=y1) (by omega:k<a.tmps.size)
 have b5:(a.put (some k) y1).defers=[]:=a4
 generalize a.put (some k) y1=c at *
 clear a1 a2 a4 hs
 refine wl_do want_n (E2 c (ev_tmp b4)) ?_
 have s2:(c.put (some (k+1)) v1).tmps.size=n:=by rw [put_size];exact s1
 have c1:=(put_ne (a:=c) (v:=v1) (by omega:k+1≠p1)).trans b1
 have c2:=(put_ne (a:=c) (v:=v1) (by omega:k+1≠p2)).trans b2
 have c4:=put_eq (a:=c) (v:=v1) (by omega:k+1<c.tmps.size)
 have c5:(c.put (some (k+1)) v1).defers=[]:=b5
 generalize c.put (some (k+1)) v1=d at *
 clear b1 b2 b4 b5 s1
 refine wl_do want_n (E3 d (ev_tmp c2)) ?_
 have s3:(d.put (some (k+2)) y2).tmps.size=n:=by rw [put_size];exact s2
 have d1:=(put_ne (a:=d) (v:=y2) (by omega:k+2≠p1)).trans c1
 have d2:=(put_ne (a:=d) (v:=y2) (by omega:k+2≠p2)).trans c2
 have d4:=(put_ne (a:=d) (v:=y2) (by omega:k+2≠k+1)).trans c4
 have d6:=put_eq (a:=d) (v:=y2) (by omega:k+2<d.tmps.size)
 have d5:(d.put (some (k+2)) y2).defers=[]:=c5
 generalize d.put (some (k+2)) y2=e at *
 clear c1 c2 c4 c5 s2
 refine wl_do want_n (E4 e (ev_tmp d6)) ?_
 have s4:(e.put (some (k+3)) v2).tmps.size=n:=by rw [put_size];exact s3
 have e1:=(put_ne (a:=e) (v:=v2) (by omega:k+3≠p1)).trans d1
 have e2:=(put_ne (a:=e) (v:=v2) (by omega:k+3≠p2)).trans d2
 have e4:=(put_ne (a:=e) (v:=v2) (by omega:k+3≠k+1)).trans d4
 have e6:=put_eq (a:=e) (v:=v2) (by omega:k+3<e.tmps.size)
 have e5:(e.put (some (k+3)) v2).defers=[]:=d5
 generalize e.put (some (k+3)) v2=f at *
 clear d1 d2 d4 d5 d6 s3
 refine wl_do want_n (E5 f (ev_tmp e4) (ev_tmp e6)) ?_
 have s5:(f.put (some (k+4)) (.bool x)).tmps.size=n:=by rw [put_size];exact s4
 have f1:=(put_ne (a:=f) (v:=.bool x) (by omega:k+4≠p1)).trans e1
 have f2:=(put_ne (a:=f) (v:=.bool x) (by omega:k+4≠p2)).trans e2
 have f4:=put_eq (a:=f) (v:=.bool x) (by omega:k+4<f.tmps.size)
 have f5:(f.put (some (k+4)) (.bool x)).defers=[]:=e5
 generalize f.put (some (k+4)) (.bool x)=h at *
 clear e1 e2 e4 e5 e6 s4
 refine wl_do want_n (w':=w) (v:=.bool x) (by simp [execOp,ev_tmp f4]) ?_
 exact K _ ⟨by rw [put_size];exact s5,(put_ne (by omega)).trans f1,(put_ne (by omega)).trans f2,put_eq (by omega),f5⟩
structure KS (a:Act) (n:Nat) (L:List (Nat×Value)):Prop where
 size:a.tmps.size=n
 known:∀x ∈ L,a.tmps[x.1]? = some x.2
theorem KS.put {a:Act}{n d:Nat}{v:Value}{L:List (Nat×Value)}(F:KS a n L)(hd:d<n)(hne:∀x ∈ L,d≠x.1):KS (a.put (some d) v) n ((d,v) :: L) :=
 ⟨by rw [put_size];exact F.size,fun x hx=>by
  rcases List.mem_cons.1 hx with rfl | hx
  ·exact put_eq (by rw [F.size];exact hd)
  ·rw [put_ne (hne x hx)];exact F.known x hx⟩
theorem KS.keep {a:Act}{n d:Nat}{v:Value}{L:List (Nat×Value)}(F:KS a n L)(hne:∀x ∈ L,d≠x.1):KS (a.put (some d) v) n L :=
 ⟨by rw [put_size];exact F.size,fun x hx=>by rw [put_ne (hne x hx)];exact F.known x hx⟩
theorem KS.ev {a:Act}{n i:Nat}{v:Value}{L:List (Nat×Value)}(F:KS a n L)(h:(i,v) ∈ L):a.eval (.tmp i)=v:=ev_tmp (F.known _ h)
theorem KS.raw {a:Act}{n i:Nat}{v:Value}{L:List (Nat×Value)}(F:KS a n L)(h:(i,v) ∈ L):a.tmps[i]?.getD undef=v:=ev_raw (F.ev h)
theorem KS.yl {ops:Array Oper}{a:Act}{n g i:Nat}{b:Bool}{L:List (Nat×Value)}(F:KS a n L)(hd:(ops[g]?).bind (·.dst)=some i)(h:(i,.bool b) ∈ L):yielded ops a.tmps g=some b:=yl_of hd (F.known _ h)
theorem KS.two {a:Act}{n i j:Nat}{u v:Value}{L:List (Nat×Value)}(F:KS a n L)(h1:(i,u) ∈ L)(h2:(j,v) ∈ L):KS a n [(i,u),(j,v)]:=⟨F.size,fun x hx=>by
 rcases List.mem_cons.1 hx with rfl | hx
 ·exact F.known _ h1
 ·rcases List.mem_cons.1 hx with rfl | hx
  ·exact F.known _ h2
  ·cases hx⟩
theorem KS.yn {ops:Array Oper}{a:Act}{n g i:Nat}{L:List (Nat×Value)}(F:KS a n L)(hd:(ops[g]?).bind (·.dst)=some i)(h:(i,undef) ∈ L):yielded ops a.tmps g=none:=by
 have h':a.tmps[i]? = some undef:=F.known _ h
 simp [yielded,hd,h',undef]
theorem want_u {d:Option Tmp}{op:Op}{ty:TypeId}{ps:String}{af:Array Edge}{g:Nat}{x:Bool}{ys:Nat→Option Bool}(h:ys g=none):Region.wanted ⟨d,op,ty,ps,af,some (g,x)⟩ ys=false:=by
 simp [Region.wanted,h]
theorem KS.cut {a:Act}{n:Nat}{L L':List (Nat×Value)}(F:KS a n L)(h:∀x ∈ L',x ∈ L):KS a n L':=⟨F.size,fun x hx=>F.known x (h x hx)⟩
def Lst (m:Nat):Nat→Array Bool
 | 0=>Array.replicate m false
 | k+1=>(Lst m k).setIfInBounds k true
def KD (a:Act) (n:Nat) (L:List (Nat×Value)):Prop:=KS a n L∧a.defers=[]
theorem KD.put {a:Act}{n d:Nat}{v:Value}{L:List (Nat×Value)}(F:KD a n L)(hd:d<n)(hne:∀x ∈ L,d≠x.1):KD (a.put (some d) v) n ((d,v) :: L):=⟨F.1.put hd hne,F.2⟩
theorem KD.ev {a:Act}{n i:Nat}{v:Value}{L:List (Nat×Value)}(F:KD a n L)(h:(i,v) ∈ L):a.eval (.tmp i)=v:=F.1.ev h
theorem KD.raw {a:Act}{n i:Nat}{v:Value}{L:List (Nat×Value)}(F:KD a n L)(h:(i,v) ∈ L):a.tmps[i]?.getD undef=v:=F.1.raw h
theorem KD.cut {a:Act}{n:Nat}{L L':List (Nat×Value)}(F:KD a n L)(h:∀x ∈ L',x ∈ L):KD a n L':=⟨F.1.cut h,F.2⟩
theorem KD.yl {ops:Array Oper}{a:Act}{n g i:Nat}{b:Bool}{L:List (Nat×Value)}{o:Oper}(F:KD a n L)(ho:ops[g]? = some o)(hd:o.dst=some i)(h:(i,.bool b) ∈ L):yielded ops a.tmps g=some b:=F.1.yl (by rw [ho];exact hd) h
theorem KD.yn {ops:Array Oper}{a:Act}{n g i:Nat}{L:List (Nat×Value)}{o:Oper}(F:KD a n L)(ho:ops[g]? = some o)(hd:o.dst=some i)(h:(i,undef) ∈ L):yielded ops a.tmps g=none:=F.1.yn (by rw [ho];exact hd) h
theorem want_y {o:Oper}{g:Nat}{x b:Bool}{ys:Nat→Option Bool}(hg:o.guard=some (g,x))(h:ys g=some b)(r:Bool)(hr:(b==x)=r):Region.wanted o ys=r:=by
 obtain ⟨d,op,ty,ps,af,gd⟩:=o
 simp only at hg
 subst hg
 rw [want_g h,hr]
theorem want_z {o:Oper}{g:Nat}{x:Bool}{ys:Nat→Option Bool}(hg:o.guard=some (g,x))(h:ys g=none):Region.wanted o ys=false:=by
 obtain ⟨d,op,ty,ps,af,gd⟩:=o
 simp only at hg
 subst hg
 exact want_u h
theorem want_0 {o:Oper}{ys:Nat→Option Bool}(hg:o.guard=none):Region.wanted o ys=true:=by
 obtain ⟨d,op,ty,ps,af,gd⟩:=o
 simp only at hg
 subst hg
 exact want_n
theorem fresh_of {d:Nat}{L:List (Nat×Value)}(h:(L.all fun x=>x.1 != d)=true):∀x ∈ L,d≠x.1:=fun x hx=>by
 have:=List.all_eq_true.1 h x hx
 simp at this
 exact fun e=>this e.symm
variable {m:Nat} {ops:Array Oper} {Q:Exit→Act→World→Prop} {S:World→Prop} {fuel n:Nat} {a:Act} {w w':World} {o:Oper} {L:List (Nat×Value)}
theorem st_do (F:KD a n L) (k d:Nat) (v:Value) (hr:Region.ready .any ops (Lst m k)=[k]) (ho:ops[k]? = some o) (hw:Region.wanted o (yielded ops a.tmps)=true)
  (hx:(execOp a.eval o).run Try.prog w=.ok (.value v) w) (hdst:o.dst=some d) (hd:d<n) (hne:(L.all fun x=>x.1 != d)=true) (hS:S w)
  (h:∀a',KD a' n ((d,v) :: L)→wpAnyH Try.prog .any ops Q S fuel (Lst m (k+1)) a' w):wpAnyH Try.prog .any ops Q S (fuel+1) (Lst m k) a w :=
 wpAnyH_ready hr (by simp) (AllReadyH.cons ho (fun K' hK=>by
  rw [if_pos hw]
  unfold Oper.wp
  rw [hx]
  refine hK.out _ _ hS (fun _=>?_)
  rw [hdst]
  exact h _ (F.put hd (fresh_of hne))) AllReadyH.nil)
theorem st_skip (F:KD a n L) (k d:Nat) (hr:Region.ready .any ops (Lst m k)=[k]) (ho:ops[k]? = some o) (hw:Region.wanted o (yielded ops a.tmps)=false) (hdst:o.dst=some d) (hd:d<n) (hne:(L.all fun x=>x.1 != d)=true) (hS:S w)
  (h:∀a',KD a' n ((d,undef) :: L)→wpAnyH Try.prog .any ops Q S fuel (Lst m (k+1)) a' w):wpAnyH Try.prog .any ops Q S (fuel+1) (Lst m k) a w :=
 wpAnyH_ready hr (by simp) (AllReadyH.cons ho (fun K' hK=>by
  rw [if_neg (by rw [hw];simp)]
  refine hK.out _ _ hS (fun _=>?_)
  rw [hdst]
  exact h _ (F.put hd (fresh_of hne))) AllReadyH.nil)
theorem st_call {f:FuncId} {args args':Array Value} (F:KD a n L) (k d:Nat) (v:Value) (hr:Region.ready .any ops (Lst m k)=[k]) (ho:ops[k]? = some o) (hw:Region.wanted o (yielded ops a.tmps)=true)
  (hx:(execOp a.eval o).run Try.prog w=.ok (.enter f args) w) (ha:args=args') (hdst:o.dst=some d) (hd:d<n) (hne:(L.all fun x=>x.1 != d)=true)
  (hc:Calls Try.prog f args' w fun e w'=>e=.returned v∧S w')
  (h:∀a' w',KD a' n ((d,v) :: L)→S w'→wpAnyH Try.prog .any ops Q S fuel (Lst m (k+1)) a' w'):wpAnyH Try.prog .any ops Q S (fuel+1) (Lst m k) a w :=
 wpAnyH_ready hr (by simp) (AllReadyH.cons ho (fun K' hK=>by
  rw [if_pos hw]
  unfold Oper.wp
  rw [hx]
  subst ha
  refine hc.mono ?_
  rintro e w' ⟨rfl,hS⟩
  refine hK.out _ _ hS (fun _=>?_)
  rw [hdst]
  exact h _ _ (F.put hd (fresh_of hne)) hS) AllReadyH.nil)
theorem st_take (F:KD a n L) (k d:Nat) (v:Value) (ho:ops[k]? = some o) (hs:Region.noSelect ops=true) (hf:Region.free .any ops (Lst m k) k=true) (hr:(Region.ready .any ops (Lst m k)).contains k=true)
  (hQ:∀c a a' w,a'.defers=a.defers→Q (.panic c) a w→Q (.panic c) a' w) (hy:YieldsIf Try.prog ops S o v a) (hdst:o.dst=some d) (hd:d<n) (hne:(L.all fun x=>x.1 != d)=true) (hS:S w)
  (h:∀a',KD a' n ((d,v) :: L)→wpAnyH Try.prog .any ops Q S fuel (Lst m (k+1)) a' w):wpAnyH Try.prog .any ops Q S (fuel+1) (Lst m k) a w:=by
 refine wpAnyH_take ho hs hf hr (fun c a w hq=>hQ _ _ _ _ (by rw [hdst];rfl) hq) hy hS ?_
 rw [hdst]
 exact h _ (F.put hd (fresh_of hne))
def RowPost (E:TypeId) (size:Nat) (w:World) (n:Nat) (xs:List Value) (e:Ending) (w':World):Prop :=
 ∃(A:Option Addr) (c:Nat),e=.returned (.slice A n c)∧w'.ownsRow w.heap.size E size (.slice A n c) n xs∧Below w.heap.size w w'
structure CellsAt (w:World) (size:Nat) (A:Option Addr) (n:Nat) (xs:List Value):Prop where
 len:xs.length=n*size
 nil:A=none→n=0
 cells:∀ad,A=some ad→∀j u,xs[j]? = some u→w.cell? (ad.add j)=some u
 one:∀u ∈ xs,u.oneCell'=true
theorem own_empty (w:World)(E:TypeId)(size:Nat):(w.alloc (.cells #[] E)).ownsRow w.heap.size E size (.slice (some ⟨w.heap.size,0,none⟩) 0 0) 0 [] :=
 ⟨by simp,.inr ⟨w.heap.size,0,#[],rfl,Nat.le_refl _,heap_alloc_last _ _,Nat.le_refl _,by simp,by simp,by simp⟩⟩
theorem CellsAt.alloc {w:World}{size n:Nat}{A:Option Addr}{xs:List Value}(h:CellsAt w size A n xs)(o:Obj):CellsAt (w.alloc o) size A n xs :=
 ⟨h.len,h.nil,fun ad had j u hj=>by
  have:=h.cells ad had j u hj
  rw [((Below.refl w.heap.size w).alloc (Nat.le_refl _) o).cell (p:=ad.add j) (World.block_lt_of_cell? _ _ this)];exact this,h.one⟩
theorem Try.infoU8:(Try.prog.info? 5).map (fun i=>(i.zero,i.size,i.bytes))=some (some (.int .u8 0),1,1):=by kernel_rfl
theorem cloneU8 (A:Option Addr)(c n:Nat)(xs:List Value)(w:World)(h:CellsAt w 1 A n xs)(hn:n≤1000000000)(hz:A=none→c=0) :
  Calls Try.prog 104 #[.slice A n c] w (RowPost 5 1 w n xs):=by
 have qT:∀(w:World) (a:Option Addr) (n c n' c':Nat),(binOp .eql 22 (.slice a n c) (.slice none n' c')).run Try.prog w=.ok (.bool a.isNone) w:=fun w a n c n' c'=>Lib.run_eql_slice_nil w _ _ a n c n' c' Try.underlying22
 cases A with
 | none =>
  have e:=h.nil rfl;subst e
  have e:=hz rfl;subst e
  have e:xs=[]:=List.eq_nil_of_length_eq_zero (by simp [h.len])
  subst e
  clear h
  go_enter Try.func104,Try.ntmps104
  go_wp2
  go_ret
  exact ⟨none,0,rfl,World.ownsRow_nil _ _ _ _,Below.refl _ _⟩
 | some ad =>
  have H:=Lib.hid (h.alloc (.cells #[] 5))
  have hx:=h.len
  clear h
  obtain ⟨i0,hi,hz0,hz1,hz2⟩:=info_parts Try.infoU8
  go_enter Try.func104,Try.ntmps104
  go_wp2_with (at_builtin;go_must (refine wpList_append_own_at _ rfl _ _ 22 rfl w.heap.size 5 i0 _ 1 1 Try.underlying22 hi hz0 hz1 hz2 rfl (by decide) _ 0 [] (by rfl) (own_empty w 5 1) ad n c xs (by rfl) (by rw [hx]) (H.out.cells ad rfl) H.out.one (by unfold maxLen;omega) (by omega) (by simp) ?_))
  intro v' w' h2 h3 h4 h5
  rcases h2.2 with ⟨e,_⟩ | ⟨g',cap',cur',hv',_⟩
  ·exact absurd e h4
  subst hv'
  go_wp2_with fail
  go_ret
  exact ⟨_,_,rfl,h2,((Below.refl _ _).alloc (Nat.le_refl _) _).grown h3 (by simp) (by intro k hk;simp [Value.ownBlock] at hk;omega)⟩
theorem clone_bytes (A:Option Addr)(c n:Nat)(l:List UInt8)(B:Nat)(w:World)(h:BytesAt w B (.slice A n c) l)(hl:l.length=n)(hn:n≤1000000000)(hz:A=none→c=0) :
  Calls Try.prog 104 #[.slice A n c] w (RowPost 5 1 w n (Lib.byteCells l)):=by
 refine cloneU8 A c n _ w ⟨?_,?_,?_,?_⟩ hn hz
 ·simp [Lib.byteCells,hl]
 ·intro e
  obtain ⟨A',c',hv,_,_,h3,_⟩:=h
  injection hv with v1 v2 v3
  rw [h3 (v1.symm.trans e)] at hl
  simpa using hl.symm
 ·intro ad had j u hu
  obtain ⟨A',c',hv,_,_,_,_,hx⟩:=h
  injection hv with v1 v2 v3
  unfold Lib.byteCells at hu
  rw [List.getElem?_map] at hu
  rcases hj:l[j]? with _ | x
  ·rw [hj] at hu;simp at hu
  ·rw [hj] at hu
   have hu':Value.int .u8 (x.toNat:Int)=u:=by simpa using hu
   rw [←hu']
   exact hx ad (v1.symm.trans had) j x hj
 ·intro u hu
  simp [Lib.byteCells] at hu
  obtain ⟨x,_,rfl⟩:=hu
  rfl
def subCells (l:List (ByteArray×Int)):List Value:=l.flatMap fun x=>[.string x.1,.int .i64 x.2]
def intCells (l:List Int):List Value:=l.map fun x=>.int .i64 x
theorem subCells_len (l:List (ByteArray×Int)):(subCells l).length=l.length*2:=by
 unfold subCells
 induction l with
 | nil=>rfl
 | cons x l ih=>simp only [List.flatMap_cons,List.length_append,List.length_cons,List.length_nil,ih];omega
theorem subCells_at (l:List (ByteArray×Int)):∀(k:Nat) (x:ByteArray×Int),l[k]? = some x→(subCells l)[k*2]? = some (.string x.1)∧(subCells l)[k*2+1]? = some (.int .i64 x.2):=by
 unfold subCells
 induction l with
 | nil=>intro k x h;simp at h
 | cons y l ih =>
  intro k x h
  cases k with
  | zero=>simp at h;subst h;simp
  | succ k =>
   have:=ih k x (by simpa using h)
   rw [List.flatMap_cons,show (k+1)*2=k*2+2 by omega,show k*2+2+1=(k*2+1)+2 by omega]
   simpa using this
theorem subCells_cell (l:List (ByteArray×Int))(j:Nat)(u:Value)(h:(subCells l)[j]? = some u):∃(k:Nat) (x:ByteArray×Int),l[k]? = some x∧((j=k*2∧u=.string x.1)∨(j=k*2+1∧u=.int .i64 x.2)):=by
 have hj:j<l.length*2:=by rw [←subCells_len];exact (List.getElem?_eq_some_iff.1 h).1
 have hk:j / 2<l.length:=by omega
 obtain ⟨e1,e2⟩:=subCells_at l (j / 2) l[j / 2] (List.getElem?_eq_getElem hk)
 refine ⟨j / 2,l[j / 2],List.getElem?_eq_getElem hk,?_⟩
 rcases Nat.mod_two_eq_zero_or_one j with m | m
 ·left
  have e:j=j / 2*2:=by omega
  rw [←e] at e1
  exact ⟨e,by rw [h] at e1;exact Option.some.inj e1⟩
 ·right
  have e:j=j / 2*2+1:=by omega
  rw [←e] at e2
  exact ⟨e,by rw [h] at e2;exact Option.some.inj e2⟩
theorem BytesAt.cellsAt {w:World}{B n c:Nat}{A:Option Addr}{l:List UInt8}(h:BytesAt w B (.slice A n c) l):CellsAt w 1 A n (Lib.byteCells l):=by
 obtain ⟨A',c',hv,hc,hm,hn,hB,hx⟩:=h
 injection hv with e1 e2 e3
 subst e1;subst e2;subst e3
 refine ⟨by rw [Lib.byteCells_length];omega,fun e=>by rw [hn e];rfl,fun ad had j u hj=>?_,fun u hu=>?_⟩
 ·rw [Lib.byteCells,List.getElem?_map] at hj
  obtain ⟨q,hq,rfl⟩:=Option.map_eq_some_iff.1 hj
  exact hx ad had j q hq
 ·rw [Lib.byteCells,List.mem_map] at hu
  obtain ⟨q,_,rfl⟩:=hu
  rfl
theorem IntsAt.cellsAt {w:World}{B n c:Nat}{A:Option Addr}{l:List Int}(h:IntsAt w B (.slice A n c) l):CellsAt w 1 A n (intCells l):=by
 obtain ⟨A',c',hv,hc,hm,hn,hB,hx⟩:=h
 injection hv with e1 e2 e3
 subst e1;subst e2;subst e3
 refine ⟨by simp [intCells],fun e=>by rw [hn e];rfl,fun ad had j u hj=>?_,fun u hu=>?_⟩
 ·rw [intCells,List.getElem?_map] at hj
  obtain ⟨q,hq,rfl⟩:=Option.map_eq_some_iff.1 hj
  exact hx ad had j q hq
 ·rw [intCells,List.mem_map] at hu
  obtain ⟨q,_,rfl⟩:=hu
  rfl
theorem SubsAt.cellsAt {w:World}{B n c:Nat}{A:Option Addr}{l:List (ByteArray×Int)}(h:SubsAt w B (.slice A n c) l):CellsAt w 2 A n (subCells l):=by
 obtain ⟨A',c',hv,hc,hm,hn,hB,hx⟩:=h
 injection hv with e1 e2 e3
 subst e1;subst e2;subst e3
 refine ⟨by rw [subCells_len],fun e=>by rw [hn e];rfl,fun ad had j u hj=>?_,fun u hu=>?_⟩
 ·obtain ⟨k,x,hk,h⟩:=subCells_cell l j u hj
  rcases h with ⟨rfl,rfl⟩ | ⟨rfl,rfl⟩
  ·exact (hx ad had k x hk).1
  ·exact (hx ad had k x hk).2
 ·rw [subCells,List.mem_flatMap] at hu
  obtain ⟨x,_,hu⟩:=hu
  simp at hu
  rcases hu with rfl | rfl <;> rfl
theorem ownsSubs {w:World}{base:Nat}{v:Value}{l:List (ByteArray×Int)}(h:w.ownsRow base 70 2 v l.length (subCells l)):SubsAt w w.heap.size v l:=by
 rcases h.2 with ⟨rfl,h0⟩ | ⟨g,cap,cur,rfl,_,hg,hc,hm,_,_⟩
 ·have:l=[]:=List.eq_nil_of_length_eq_zero h0
  subst this
  exact ⟨none,0,rfl,by simp,by decide,fun _=>rfl,by simp,by simp⟩
 ·refine ⟨_,cap,rfl,hc,hm,by simp,fun ad had _=>?_,fun ad had j x hj=>?_⟩
  ·injection had with had;subst had
   exact (h.lt g rfl).2
  ·injection had with had;subst had
   obtain ⟨e1,e2⟩:=subCells_at l j x hj
   exact ⟨h.cells rfl _ _ e1,h.cells rfl _ _ e2⟩
theorem tkH {P:Program} {ops:Array Oper} {Q:Exit→Act→World→Prop} {md:Region.Mode} {S:World→Prop} {fuel:Nat} {listed:Array Bool} {a:Act} {w:World} (i:Nat) (v:Value) {oi:Oper} (hS:S w) (h:wpAnyH P md ops Q S fuel (listed.setIfInBounds i true) (a.put oi.dst v) w)
  (hi:ops[i]? = some oi:=by rfl) (hs:Region.noSelect ops=true:=by kernel_rfl) (hf:Region.free md ops listed i=true:=by kernel_rfl) (hr:(Region.ready md ops listed).contains i=true:=by kernel_rfl) (hQ:∀c a w,Q (.panic c) (a.put oi.dst v) w→Q (.panic c) a w:=by exact fun _ _ _ h=>h)
  (hy:YieldsIf P ops S oi v a:=by exact .inl ⟨by rfl,fun W _=>by simp [execOp,go_sem]⟩):wpAnyH P md ops Q S (fuel+1) listed a w:=wpAnyH_take hi hs hf hr hQ hy hS h
end Go.Proofs.Ytnhpacaoobpkhaa
