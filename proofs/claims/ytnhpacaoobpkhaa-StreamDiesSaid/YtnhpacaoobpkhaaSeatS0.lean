import Derived.Test.YtnhpacaoobpkhaaSeat
import Derived.Deep.RegionHeld3
namespace Go.Proofs.Ytnhpacaoobpkhaa
open Go.RowKit Go.Lib
set_option linter.unusedVariables false
set_option maxRecDepth 100000
set_option maxHeartbeats 2000000
theorem own_belowS {w w':World}{base n size:Nat}{E:TypeId}{v:Value}{xs:List Value}(h:w.ownsRow base E size v n xs)(hb:Below w.heap.size w w'):w'.ownsRow base E size v n xs:=by
 refine ⟨h.1,?_⟩
 rcases h.2 with q | ⟨g,cap,cur,h1,h2,h3,h4⟩
 ·exact .inl q
 ·exact .inr ⟨g,cap,cur,h1,h2,heap_below hb h3,h4⟩
theorem own_setRow {w:World}{base n size g:Nat}{E:TypeId}{v:Value}{xs:List Value}{cs:Array Value}(h:w.ownsRow base E size v n xs)(hg:g<base):(w.setRow g cs).ownsRow base E size v n xs:=by
 refine ⟨h.1,?_⟩
 rcases h.2 with q | ⟨g',cap,cur,h1,h2,h3,h4⟩
 ·exact .inl q
 ·refine .inr ⟨g',cap,cur,h1,h2,?_,h4⟩
  unfold World.setRow
  rw [Array.getElem?_modify,if_neg (by omega)]
  exact h3
def pk0C:Array Value:=pkC pk0 sv0
theorem own_setCell_ne {w:World}{base n size:Nat}{E:TypeId}{v u:Value}{xs:List Value}{a:Addr}(h:w.ownsRow base E size v n xs)(hne:v.ownBlock≠some a.block):(w.setCell a u).ownsRow base E size v n xs:=by
 refine ⟨h.1,?_⟩
 rcases h.2 with q | ⟨g,cap,cur,h1,h2,h3,h4⟩
 ·exact .inl q
 ·refine .inr ⟨g,cap,cur,h1,h2,?_,h4⟩
  rw [heap_setCell_other _ _ _ _ (by intro e;apply hne;rw [h1,←e];rfl)]
  exact h3
theorem ap_sub_run {w:World}{ty:TypeId}(base:Nat)(A:Option Addr)(C:Nat)(L:List (ByteArray×Int))(gn:Nat)(f:ByteArray)(q:Int)(hown:w.ownsRow base 70 2 (.slice A L.length C) L.length (subCells L))(hnew:w.heap[gn]? = some (.cells #[.string f,.int .i64 q] 70 (0,0)))(hl:L.length≤1000)(hb:base≤w.heap.size) :
  ∃(A':Option Addr) (C':Nat) (w':World),(Builtin.append_ #[25,25] ty #[.slice A L.length C,.slice (some ⟨gn,0,none⟩) 1 1]).run Try.prog w=.ok (.slice A' (L.length+1) C') w'∧w'.ownsRow base 70 2 (.slice A' (L.length+1) C') (L.length+1) (subCells (L++[(f,q)]))∧w.grownBy w' (Value.slice A L.length C).ownBlock∧((Value.slice A' (L.length+1) C').ownBlock=(Value.slice A L.length C).ownBlock∨(Value.slice A' (L.length+1) C').ownBlock=some w.heap.size):=by
 obtain ⟨i0,hi,hz0,hz1,hz2⟩:=info_parts Try.infoSub
 obtain ⟨v',w',hr,h2,h3,_,h5⟩:=run_append_own_at (P:=Try.prog) (w:=w) base 25 ty 70 i0 _ 2 24 Try.underlying25 hi hz0 hz1 hz2 rfl (by decide) _ L.length (subCells L) hown ⟨gn,0,none⟩ 1 1 [.string f,.int .i64 q] rfl (fun j u hj=>by
  rw [show ((⟨gn,0,none⟩:Addr).add j)=⟨gn,j,none⟩ by unfold Addr.add;split <;> simp_all,cell_of_row _ gn j _ _ _ hnew]
  simpa using hj) (fun u hu=>by simp at hu;rcases hu with rfl | rfl <;> rfl) (by unfold maxLen;omega) (by omega) hb
 rcases h2.2 with ⟨_,e⟩ | ⟨g',cap',cur',hv',_⟩
 ·omega
 subst hv'
 exact ⟨_,_,w',hr,by rw [subCells_snoc];exact h2,h3,h5⟩
theorem ap_sub_wp {a:Act} {w:World} {K:Act→World→Prop} {Q:Exit→Act→World→Prop} {d:Tmp} {x y:Operand} {ty:TypeId} {ps:String} {af:Array Edge}
  (base:Nat) (A:Option Addr) (C:Nat) (L:List (ByteArray×Int)) (gn:Nat) (f:ByteArray) (q:Int) (hx:a.eval x=.slice A L.length C) (hy:a.eval y=.slice (some ⟨gn,0,none⟩) 1 1) (hown:w.ownsRow base 70 2 (.slice A L.length C) L.length (subCells L)) (hnew:w.heap[gn]? = some (.cells #[.string f,.int .i64 q] 70 (0,0))) (hl:L.length≤1000) (hb:base≤w.heap.size)
  (h:∀(A':Option Addr) (C':Nat) (w':World),w'.ownsRow base 70 2 (.slice A' (L.length+1) C') (L.length+1) (subCells (L++[(f,q)]))→w.grownBy w' (Value.slice A L.length C).ownBlock→((Value.slice A' (L.length+1) C').ownBlock=(Value.slice A L.length C).ownBlock∨(Value.slice A' (L.length+1) C').ownBlock=some w.heap.size)→K (a.put (some d) (.slice A' (L.length+1) C')) w') :
  Oper.wp Try.prog ⟨some d,.call ⟨.builtin .append,#[x,y],#[25,25]⟩,ty,ps,af,none⟩ a w K Q:=by
 obtain ⟨A',C',w',hr,h2,h3,h4⟩:=ap_sub_run (ty:=ty) base A C L gn f q hown hnew hl hb
 unfold Oper.wp execOp
 simp only [resolve,invoke,builtin,Sem.run_bind,Sem.run_pure,Result.andThen_ok,List.map_toArray,List.map_cons,List.map_nil,hx,hy,hr]
 exact h _ _ _ h2 h3 h4
theorem ap_sub {ops:Array Oper} {rest:List Oper} {a:Act} {w:World} {Q:Exit→Act→World→Prop} {d:Tmp} {x y:Operand} {ty:TypeId} {ps:String} {af:Array Edge}
  (base:Nat) (A:Option Addr) (C:Nat) (L:List (ByteArray×Int)) (gn:Nat) (f:ByteArray) (q:Int) (hx:a.eval x=.slice A L.length C) (hy:a.eval y=.slice (some ⟨gn,0,none⟩) 1 1) (hown:w.ownsRow base 70 2 (.slice A L.length C) L.length (subCells L)) (hnew:w.heap[gn]? = some (.cells #[.string f,.int .i64 q] 70 (0,0))) (hl:L.length≤1000) (hb:base≤w.heap.size)
  (h:∀(A':Option Addr) (C':Nat) (w':World),w'.ownsRow base 70 2 (.slice A' (L.length+1) C') (L.length+1) (subCells (L++[(f,q)]))→w.grownBy w' (Value.slice A L.length C).ownBlock→((Value.slice A' (L.length+1) C').ownBlock=(Value.slice A L.length C).ownBlock∨(Value.slice A' (L.length+1) C').ownBlock=some w.heap.size)→wpList Try.prog ops Q rest (a.put (some d) (.slice A' (L.length+1) C')) w') :
  wpList Try.prog ops Q (⟨some d,.call ⟨.builtin .append,#[x,y],#[25,25]⟩,ty,ps,af,none⟩ :: rest) a w :=
 wpList_plain rfl fun K hK=>ap_sub_wp base A C L gn f q hx hy hown hnew hl hb fun A' C' w' h2 h3 h4=>hK _ _ (h A' C' w' h2 h3 h4)
def sbP (i:Int) (L:List (ByteArray×Int)):Pk:={pk0 with kind:=8,id:=i,subs:=L}
def sbS (A:Option Addr) (C:Nat):Sv:={sv0 with sA:=A,sC:=C}
def sbC (i:Int) (A:Option Addr) (n C:Nat):Array Value:=#[.int .i64 8,.bool false,.bool false,.int .i64 0,.int .i64 i,.string ByteArray.empty,.slice none 0 0,.int .i64 0,.string ByteArray.empty,.bool false,.int .i64 0,.bool false,.string ByteArray.empty,.slice none 0 0,.int .i64 0,.bool false,.bool false,.bool false,.string ByteArray.empty,.slice none 0 0,.bool false,.int .i64 0,.slice A n C,.slice none 0 0]
@[simp,go_sem] theorem sbC_22 (i:Int) (A:Option Addr) (n C:Nat):(sbC i A n C)[22]? = some (.slice A n C):=rfl
theorem sbC_set (i:Int)(A A':Option Addr)(n n' C C':Nat):(sbC i A n C).setIfInBounds 22 (.slice A' n' C')=sbC i A' n' C':=rfl
structure SbSt (w:World) (g1:Nat) (i:Int) (L:List (ByteArray×Int)) (A:Option Addr) (C:Nat) (W:World):Prop where
 res:W.heap[w.heap.size]? = some (.cells pk0C 28 (0,0))
 row:W.heap[g1]? = some (.cells (sbC i A L.length C) 28 (0,0))
 own:W.ownsRow (w.heap.size+1) 70 2 (.slice A L.length C) L.length (subCells L)
 ne:(Value.slice A L.length C).ownBlock≠some g1
 bel:Below w.heap.size w W
 lt:w.heap.size<g1
theorem SbSt.call {w W W':World}{g1:Nat}{i:Int}{L:List (ByteArray×Int)}{A:Option Addr}{C:Nat}(h:SbSt w g1 i L A C W)(hb:Below W.heap.size W W'):SbSt w g1 i L A C W' :=
 ⟨heap_below hb h.res,heap_below hb h.row,own_belowS h.own hb,h.ne,h.bel.trans (hb.mono h.bel.size),h.lt⟩
theorem SbSt.grow {w W W':World}{g1:Nat}{i:Int}{L:List (ByteArray×Int)}{A:Option Addr}{C:Nat}(h:SbSt w g1 i L A C W)(hg:W.grownBy W' (Value.slice A L.length C).ownBlock) :
  W'.heap[w.heap.size]? = some (.cells pk0C 28 (0,0))∧W'.heap[g1]? = some (.cells (sbC i A L.length C) 28 (0,0))∧Below w.heap.size w W':=by
 have l0:w.heap.size<W.heap.size:=(Array.getElem?_eq_some_iff.1 h.res).1
 have l1:g1<W.heap.size:=(Array.getElem?_eq_some_iff.1 h.row).1
 refine ⟨?_,?_,h.bel.grown hg h.bel.size fun k hk=>by have:=(h.own.lt k hk).1;omega⟩
 ·rw [hg.block _ l0 (fun e=>by have:=(h.own.lt _ e.symm).1;omega)];exact h.res
 ·rw [hg.block _ l1 (fun e=>h.ne e.symm)];exact h.row
theorem SbSt.step {w W W':World} {g1:Nat} {i:Int} {L:List (ByteArray×Int)} {A A':Option Addr} {C C':Nat} (f:ByteArray) (q:Int) (h:SbSt w g1 i L A C W) (hg:W.grownBy W' (Value.slice A L.length C).ownBlock)
  (ho:W'.ownsRow (w.heap.size+1) 70 2 (.slice A' (L.length+1) C') (L.length+1) (subCells (L++[(f,q)]))) (hb:(Value.slice A' (L.length+1) C').ownBlock=(Value.slice A L.length C).ownBlock∨(Value.slice A' (L.length+1) C').ownBlock=some W.heap.size) :
  SbSt w g1 i (L++[(f,q)]) A' C' (W'.setCell ⟨g1,22,none⟩ (.slice A' (L.length+1) C')):=by
 have l1:g1<W.heap.size:=(Array.getElem?_eq_some_iff.1 h.row).1
 obtain ⟨h1,h2,h3⟩:=h.grow hg
 have hl:(L++[(f,q)]).length=L.length+1:=by simp
 have ne':(Value.slice A' (L.length+1) C').ownBlock≠some g1:=by
  rcases hb with e | e
  ·rw [e];exact h.ne
  ·rw [e];intro q;injection q with q;omega
 refine ⟨?_,?_,?_,?_,?_,h.lt⟩
 ·rw [heap_setCell_other _ _ _ _ (by show w.heap.size≠g1;have:=h.lt;omega)];exact h1
 ·rw [hl,←sbC_set i A A' L.length (L.length+1) C C'];exact heap_setCell_same _ _ 22 _ _ _ h2
 ·rw [hl];exact own_setCell_ne ho ne'
 ·rw [hl];exact ne'
 ·exact h3.setCell (by show w.heap.size≤g1;have:=h.lt;omega) _
theorem i64_of_id {i:Int}(h:1≤i∧i≤65535):i64In i:=by unfold i64In;omega
theorem i64_of_q {i:Int}(h:0≤i∧i≤2):i64In i:=by unfold i64In;omega
theorem slen_small:∀L:List (ByteArray×Int),(∀x ∈ L,Tx4 x.1)→slenP L≤6*L.length
 | [],_=>by simp [slenP]
 | x :: r,h=>by
  have ih:=slen_small r (fun y hy=>h y (List.mem_cons_of_mem _ hy))
  have hx:=(h x (by simp)).1
  unfold slenP at ih ⊢
  rw [List.map_cons,List.sum_cons,List.length_cons]
  omega
theorem subs_right (k m i:Int)(L:List (ByteArray×Int))(hk:(k=8∧m=2)∨(k=10∧m=0))(hi:1≤i∧i≤65535)(hL:∀x ∈ L,Tx4 x.1∧0≤x.2∧x.2≤m)(hl:L.length≤3∧0<L.length):rightP {pk0 with kind:=k,id:=i,subs:=L}=true:=by
 have hs:=slen_small L (fun x hx=>(hL x hx).1)
 have hi':inI i 1 65535=true:=inI_of hi.1 hi.2
 have hf:sfitsP m L=true:=by
  unfold sfitsP
  rw [List.all_eq_true]
  intro x hx
  obtain ⟨a,b,c⟩:=hL x hx
  rw [a.2,inI_of b c];rfl
 rcases hk with ⟨rfl,rfl⟩ | ⟨rfl,rfl⟩
 ·refine right_of rfl (show (2+slenP L+(L.length:Int))≤8192 by have:=hl.1;omega) ?_
  show (inI i 1 65535 && (sfitsP 2 L && decide (0<L.length)))=true
  rw [hi',hf,decide_eq_true hl.2];rfl
 ·refine right_of rfl (show (2+slenP L)≤8192 by have:=hl.1;omega) ?_
  show (inI i 1 65535 && (sfitsP 0 L && decide (0<L.length)))=true
  rw [hi',hf,decide_eq_true hl.2];rfl
theorem SbSt.fin {w W:World}{g1:Nat}{i:Int}{L:List (ByteArray×Int)}{A:Option Addr}{C:Nat}(h:SbSt w g1 i L A C W)(hi1:1≤i∧i≤65535)(hL:∀x ∈ L,Tx4 x.1∧0≤x.2∧x.2≤2)(hl:L.length≤3∧0<L.length)(e:Ending)(he:e=.returned (pkV (sbP i L) (sbS A C))) :
  SeatPost w e (W.setRow w.heap.size (sbC i A L.length C)):=by
 have ho:=own_setRow (cs:=sbC i A L.length C) h.own (Nat.lt_succ_self _)
 have z:∀n:Nat,n≤60→n≤1000000:=fun n h=>by omega
 refine ⟨_,_,he,⟨(pk0_at _ _).pay,(pk0_at _ _).wpay,(pk0_at _ _).pass,ownsSubs ho,(pk0_at _ _).codes⟩,⟨fun _=>rfl,fun _=>rfl,fun _=>rfl⟩,?_,below_setRow h.bel (Nat.le_refl _) _⟩
 have hi:i64In i:=i64_of_id hi1
 refine ⟨?_,subs_right 8 2 i L (.inl ⟨rfl,rfl⟩) hi1 hL hl⟩
 exact ⟨(show i64In 8 from i64_small (by omega) (by omega)),i64_0,hi,i64_0,i64_0,i64_0,i64_0,pk0_ok.top,pk0_ok.pay,pk0_ok.cli,pk0_ok.wtop,pk0_ok.wpay,pk0_ok.user,pk0_ok.pass,z _ (show L.length≤60 by have:=hl.1;omega),pk0_ok.codes,fun x hx=>⟨z _ (by have:=(hL x hx).1.1;omega),i64_of_q (hL x hx).2⟩,pk0_ok.cod⟩
def unP (i:Int) (L:List (ByteArray×Int)):Pk:={pk0 with kind:=10,id:=i,subs:=L}
theorem one_small {t:ByteArray}(h:Tx4 t):∀x ∈ [(t,(0:Int))],Tx4 x.1∧0≤x.2∧x.2≤0:=by
 intro x hx;simp at hx;subst hx;exact ⟨h,Int.le_refl _,Int.le_refl _⟩
theorem two_small {t t2:ByteArray}(h:Tx4 t)(h2:Tx4 t2):∀x ∈ [(t,(0:Int)),(t2,(0:Int))],Tx4 x.1∧0≤x.2∧x.2≤0:=by
 intro x hx;simp at hx
 rcases hx with rfl | rfl
 ·exact ⟨h,Int.le_refl _,Int.le_refl _⟩
 ·exact ⟨h2,Int.le_refl _,Int.le_refl _⟩
theorem unP_ok (i:Int)(L:List (ByteArray×Int))(hi1:1≤i∧i≤65535)(hL:∀x ∈ L,Tx4 x.1∧0≤x.2∧x.2≤0)(hl:L.length≤3∧0<L.length):GoodPk (unP i L):=by
 have z:∀n:Nat,n≤60→n≤1000000:=fun n h=>by omega
 have hi:i64In i:=i64_of_id hi1
 refine ⟨?_,subs_right 10 0 i L (.inr ⟨rfl,rfl⟩) hi1 hL hl⟩
 exact ⟨(show i64In 10 from i64_small (by omega) (by omega)),i64_0,hi,i64_0,i64_0,i64_0,i64_0,pk0_ok.top,pk0_ok.pay,pk0_ok.cli,pk0_ok.wtop,pk0_ok.wpay,pk0_ok.user,pk0_ok.pass,z _ (show L.length≤60 by have:=hl.1;omega),pk0_ok.codes,fun x hx=>⟨z _ (by have:=(hL x hx).1.1;omega),i64_of_q ⟨(hL x hx).2.1,by have:=(hL x hx).2.2;omega⟩⟩,pk0_ok.cod⟩
theorem seatP_uns0 (k a b c:Int)(A:Option Addr)(n cx:Nat)(l:List UInt8)(w:World)(k0:0≤k)(k1:k≤255)(a0:0≤a)(a1:a≤255)(b0:0≤b)(b1:b≤255)(c0:0≤c)(c1:c≤255)(hx:BytesAt w w.heap.size (.slice A n cx) l)(hn:n=l.length)(hl:l.length≤60)(hnil:A=none→cx=0)(h:k%15=7)(h2:c%2=0) :
  Calls Try.prog 15 #[.int .u8 k,.int .u8 a,.int .u8 b,.int .u8 c,.slice A n cx] w (SeatPost w):=by
 clear hx hl hnil
 go_enter Try.func15,Try.ntmps15
 go_wp2_with fail
 refine (Filter_any _ _ a0 a1).mono ?_
 rintro e w1 ⟨t,rfl,ht,hbt⟩
 have r0:=heap_below hbt (heap_alloc_new w _)
 have b1':Below w.heap.size w w1:=by (repeat (first | assumption | exact Below.refl _ _ | exact (Below.refl _ _).alloc (Nat.le_refl _) _ | (refine thn ?_ (by assumption)) | (refine alB ?_ _) | (refine dwN ?_ _) | (refine Below.drew ?_)))
 clear hbt
 go_wp2_with fail
 refine (Filter_any _ _ c0 c1).mono ?_
 rintro e w2 ⟨t2,rfl,ht2,hbt⟩
 have r1:=heap_below hbt r0
 have b2':Below w.heap.size w w2:=by (repeat (first | assumption | exact Below.refl _ _ | exact (Below.refl _ _).alloc (Nat.le_refl _) _ | (refine thn ?_ (by assumption)) | (refine alB ?_ _) | (refine dwN ?_ _) | (refine Below.drew ?_)))
 have g2:w.heap.size<w2.heap.size:=(Array.getElem?_eq_some_iff.1 r1).1
 have R1:=Lib.hid r1
 clear hbt r0 b1' r1
 go_wp2_with ((with_reducible show wpList _ _ _ (⟨_,.store 28 (.tmp 10) _,_,_,_,_⟩ :: _) _ _);refine stRs w.heap.size _ (pkC (unP (b%7+1) [(t,0)]) (sbS (some ⟨w2.heap.size,0,none⟩) 2)) (by rfl) (by rfl) (heap_keep R1.out) (by rfl) (by rfl) pk_sz (pk_one _ _) ?_)
 have ho:(w2.alloc (.cells #[.string t,.int .i64 0,.string t2,.int .i64 0] 70)).ownsRow (w.heap.size+1) 70 2 (.slice (some ⟨w2.heap.size,0,none⟩) 1 2) 1 (subCells [(t,0)]):=⟨rfl,.inr ⟨w2.heap.size,2,_,rfl,g2,heap_alloc_new _ _,by decide,by decide,rfl,rfl⟩⟩
 have ho2:=own_setRow (cs:=pkC (unP (b%7+1) [(t,0)]) (sbS (some ⟨w2.heap.size,0,none⟩) 2)) ho (Nat.lt_succ_self _)
 exact bodyPost_ret (v:=.agg (pkC (unP (b%7+1) [(t,0)]) (sbS (some ⟨w2.heap.size,0,none⟩) 2))) (results_cell_row (by rfl) _ _ w.heap.size 28 _ (0,0) _ (by rfl) (setRow_heap _ _ _ _ _ _ (heap_keep R1.out)) Try.underlying28 (by rfl) (by exact pk_sz)) (by rfl) ⟨_,_,rfl,⟨(pk0_at _ _).pay,(pk0_at _ _).wpay,(pk0_at _ _).pass,ownsSubs (l:=[(t,0)]) ho2,(pk0_at _ _).codes⟩,⟨fun _=>rfl,fun _=>rfl,fun _=>rfl⟩,unP_ok _ _ (by omega) (one_small ht) (by simp),below_setRow (alB b2' _) (Nat.le_refl _) _⟩
theorem seatP_uns1 (k a b c:Int)(A:Option Addr)(n cx:Nat)(l:List UInt8)(w:World)(k0:0≤k)(k1:k≤255)(a0:0≤a)(a1:a≤255)(b0:0≤b)(b1:b≤255)(c0:0≤c)(c1:c≤255)(hx:BytesAt w w.heap.size (.slice A n cx) l)(hn:n=l.length)(hl:l.length≤60)(hnil:A=none→cx=0)(h:k%15=7)(h2:c%2=1) :
  Calls Try.prog 15 #[.int .u8 k,.int .u8 a,.int .u8 b,.int .u8 c,.slice A n cx] w (SeatPost w):=by
 clear hx hl hnil
 go_enter Try.func15,Try.ntmps15
 go_wp2_with fail
 refine (Filter_any _ _ a0 a1).mono ?_
 rintro e w1 ⟨t,rfl,ht,hbt⟩
 have r0:=heap_below hbt (heap_alloc_new w _)
 have b1':Below w.heap.size w w1:=by (repeat (first | assumption | exact Below.refl _ _ | exact (Below.refl _ _).alloc (Nat.le_refl _) _ | (refine thn ?_ (by assumption)) | (refine alB ?_ _) | (refine dwN ?_ _) | (refine Below.drew ?_)))
 clear hbt
 go_wp2_with fail
 refine (Filter_any _ _ c0 c1).mono ?_
 rintro e w2 ⟨t2,rfl,ht2,hbt⟩
 have r1:=heap_below hbt r0
 have b2':Below w.heap.size w w2:=by (repeat (first | assumption | exact Below.refl _ _ | exact (Below.refl _ _).alloc (Nat.le_refl _) _ | (refine thn ?_ (by assumption)) | (refine alB ?_ _) | (refine dwN ?_ _) | (refine Below.drew ?_)))
 have g2:w.heap.size<w2.heap.size:=(Array.getElem?_eq_some_iff.1 r1).1
 have R1:=Lib.hid r1
 clear hbt r0 b1' r1
 go_wp2_with ((with_reducible show wpList _ _ _ (⟨_,.store 28 (.tmp 10) _,_,_,_,_⟩ :: _) _ _);refine stRs w.heap.size _ (pkC (unP (b%7+1) [(t,0),(t2,0)]) (sbS (some ⟨w2.heap.size,0,none⟩) 2)) (by rfl) (by rfl) (heap_keep R1.out) (by rfl) (by rfl) pk_sz (pk_one _ _) ?_)
 have ho:(w2.alloc (.cells #[.string t,.int .i64 0,.string t2,.int .i64 0] 70)).ownsRow (w.heap.size+1) 70 2 (.slice (some ⟨w2.heap.size,0,none⟩) 2 2) 2 (subCells [(t,0),(t2,0)]):=⟨rfl,.inr ⟨w2.heap.size,2,_,rfl,g2,heap_alloc_new _ _,by decide,by decide,rfl,rfl⟩⟩
 have ho2:=own_setRow (cs:=pkC (unP (b%7+1) [(t,0),(t2,0)]) (sbS (some ⟨w2.heap.size,0,none⟩) 2)) ho (Nat.lt_succ_self _)
 exact bodyPost_ret (v:=.agg (pkC (unP (b%7+1) [(t,0),(t2,0)]) (sbS (some ⟨w2.heap.size,0,none⟩) 2))) (results_cell_row (by rfl) _ _ w.heap.size 28 _ (0,0) _ (by rfl) (setRow_heap _ _ _ _ _ _ (heap_keep R1.out)) Try.underlying28 (by rfl) (by exact pk_sz)) (by rfl) ⟨_,_,rfl,⟨(pk0_at _ _).pay,(pk0_at _ _).wpay,(pk0_at _ _).pass,ownsSubs (l:=[(t,0),(t2,0)]) ho2,(pk0_at _ _).codes⟩,⟨fun _=>rfl,fun _=>rfl,fun _=>rfl⟩,unP_ok _ _ (by omega) (two_small ht ht2) (by simp),below_setRow (alB b2' _) (Nat.le_refl _) _⟩
end Go.Proofs.Ytnhpacaoobpkhaa
