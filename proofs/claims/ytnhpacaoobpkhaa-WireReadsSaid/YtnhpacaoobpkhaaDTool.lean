import Derived.Test.YtnhpacaoobpkhaaDEnc
import Derived.Test.YtnhpacaoobpkhaaGParse
namespace Go.Proofs.Ytnhpacaoobpkhaa
open Go.RowKit Go.Lib
set_option linter.unusedSimpArgs false
set_option linter.unusedVariables false
theorem nil_bytes (W:World)(B:Nat):BytesAt W B (.slice none 0 0) []:=⟨none,0,rfl,by simp,by decide,fun _=>rfl,by simp,by simp⟩
def NewB (w:World) (base:Nat) (A:Option Addr) (n c:Nat) (l:List UInt8):Prop :=
 BytesAt w w.heap.size (.slice A n c) l∧(A=none→c=0)∧∀ad,A=some ad→base≤ad.block
theorem NewB.nil (w:World)(base:Nat):NewB w base none 0 0 []:=⟨nil_bytes _ _,fun _=>rfl,by simp⟩
theorem NewB.to {w w':World}{base n c:Nat}{A:Option Addr}{l:List UInt8}(h:NewB w base A n c l)(hs:w.heap.size≤w'.heap.size)(hk:∀g,base≤g→g<w.heap.size→w'.heap[g]? = w.heap[g]?):NewB w' base A n c l:=by
 obtain ⟨⟨A',c',hv,hc,hm,hn,hB,hx⟩,h2,h3⟩:=h
 injection hv with v1 v2 v3
 subst v1 v2 v3
 refine ⟨⟨A,c,rfl,hc,hm,hn,fun ad had hne=>Nat.lt_of_lt_of_le (hB ad had hne) hs,fun ad had j x hj=>?_⟩,h2,h3⟩
 have hne:l≠[]:=by intro e;rw [e] at hj;simp at hj
 rw [←hx ad had j x hj]
 have hb:=add_block ad j
 have q:=hk (ad.add j).block (by rw [hb];exact h3 ad had) (by rw [hb];exact hB ad had hne)
 unfold World.cell?
 rw [q]
theorem NewB.rd {w w':World}{base n c r:Nat}{A:Option Addr}{l:List UInt8}(h:NewB w base A n c l)(t:RdTo r w w')(hr:r<base):NewB w' base A n c l :=
 h.to t.below.size fun g h1 h2=>t.above g (by omega) h2
theorem NewB.put {w:World}{base n c b:Nat}{A:Option Addr}{l:List UInt8}(h:NewB w base A n c l)(hb:b<base)(i:Nat)(u:Value):NewB (w.setCell ⟨b,i,none⟩ u) base A n c l :=
 h.to ((Below.refl 0 w).setCell (p:=⟨b,i,none⟩) (Nat.zero_le _) u).size fun g h1 h2=>Below.heap_setCell _ _ _ _ (by show g≠b;omega)
theorem NewB.setRow {w:World}{base n c b:Nat}{A:Option Addr}{l:List UInt8}(h:NewB w base A n c l)(hb:b<base)(cs:Array Value):NewB (w.setRow b cs) base A n c l :=
 h.to (by rw [setRow_size];exact Nat.le_refl _) fun g h1 h2=>by
  simp only [World.setRow]
  rw [Array.getElem?_modify,if_neg (by omega)]
theorem NewB.below {w w':World}{base n c:Nat}{A:Option Addr}{l:List UInt8}(h:NewB w base A n c l)(t:Below w.heap.size w w'):NewB w' base A n c l :=
 h.to t.size fun g _ h2=>t.block g h2
structure DRows (W:World) (B g:Nat) (p:Pk) (s:Sv):Prop where
 pay:BytesAt W B (.slice s.pA p.pay.length s.pC) p.pay
 payn:s.pA=none→s.pC=0
 wpay:NewB W (g+2) s.wA p.wpay.length s.wC p.wpay
 pass:NewB W (g+2) s.uA p.pass.length s.uC p.pass
 subs:W.ownsRow (g+2) 70 2 (.slice s.sA p.subs.length s.sC) p.subs.length (subCells p.subs)
 codes:W.ownsRow (g+2) 3 1 (.slice s.cA p.codes.length s.cC) p.codes.length (intCells p.codes)
theorem DRows.call {w' W:World}{B r g:Nat}{p:Pk}{s:Sv}(h:DRows W B g p s)(t:RdTo r W w')(hB:B≤r)(hr:r<g):DRows w' B g p s :=
 ⟨h.pay.below (t.below.mono hB),h.payn,h.wpay.rd t (by omega),h.pass.rd t (by omega),own_rd h.subs t (by omega),own_rd h.codes t (by omega)⟩
theorem DRows.set {W:World}{B g:Nat}{p:Pk}{s:Sv}(h:DRows W B g p s)(b:Nat)(hb:B≤b)(hg:b<g+2)(i:Nat)(v:Value):DRows (W.setCell ⟨b,i,none⟩ v) B g p s :=
 ⟨h.pay.below ((Below.refl B W).setCell (p:=⟨b,i,none⟩) hb v),h.payn,h.wpay.put hg i v,h.pass.put hg i v,own_put h.subs hg i v,own_put h.codes hg i v⟩
theorem DRows.setRow {W:World}{B g:Nat}{p:Pk}{s:Sv}(h:DRows W B g p s)(b:Nat)(hb:B≤b)(hg:b<g+2)(cs:Array Value):DRows (W.setRow b cs) B g p s :=
 ⟨h.pay.below (below_setRow (Below.refl B W) hb _),h.payn,h.wpay.setRow hg _,h.pass.setRow hg _,own_set h.subs hg _,own_set h.codes hg _⟩
theorem DRows.none_ (W:World)(B g:Nat)(p:Pk)(h1:p.pay=[])(h2:p.wpay=[])(h3:p.pass=[])(h4:p.subs=[])(h5:p.codes=[]):DRows W B g p sv0:=by
 refine ⟨?_,fun _=>rfl,?_,?_,?_,?_⟩
 ·rw [h1];exact nil_bytes W B
 ·rw [h2];exact NewB.nil _ _
 ·rw [h3];exact NewB.nil _ _
 ·rw [h4];exact World.ownsRow_nil _ _ _ _
 ·rw [h5];exact World.ownsRow_nil _ _ _ _
theorem DRows.at_ {W:World}{B g:Nat}{p:Pk}{s:Sv}(h:DRows W B g p s)(hB:B≤W.heap.size):PkAt W W.heap.size p s∧NilOk s :=
 ⟨⟨h.pay.more hB,h.wpay.1,h.pass.1,ownsSubs h.subs,ownsInts h.codes⟩,⟨h.payn,h.wpay.2.1,h.pass.2.1⟩⟩
structure DSt (w:World) (B r g:Nat) (p:Pk) (s:Sv) (S:PS) (W:World):Prop where
 hB:B≤r
 lt:r<g
 hg:g=w.heap.size
 row:W.heap[g+1]? = some (.cells (pkC p s) 28)
 res:W.heap[g]? = some (.cells (pkC pk0 sv0) 28)
 part:PtS W B r S
 to:RdTo r w W
 rows:DRows W B g p s
theorem DSt.size {w W:World}{B r g:Nat}{p:Pk}{s:Sv}{S:PS}(h:DSt w B r g p s S W):g+1<W.heap.size:=(Array.getElem?_eq_some_iff.1 h.row).1
theorem DSt.start (w:World)(B r:Nat)(p:Pk)(S:PS)(h:PtS w B r S)(h1:p.pay=[])(h2:p.wpay=[])(h3:p.pass=[])(h4:p.subs=[])(h5:p.codes=[]):DSt w B r w.heap.size p sv0 S ((w.alloc (.cells (pkC pk0 sv0) 28)).alloc (.cells (pkC p sv0) 28)):=by
 have hb:Below w.heap.size w ((w.alloc (.cells (pkC pk0 sv0) 28)).alloc (.cells (pkC p sv0) 28)):=((Below.refl _ _).alloc (Nat.le_refl _) _).alloc (by simp) _
 refine ⟨h.low,h.lt,rfl,heap_last2 _ _ _,heap_keep (heap_alloc_last _ _),h.more hb,RdTo.more hb h.lt,DRows.none_ _ _ _ _ h1 h2 h3 h4 h5⟩
theorem DSt.call {w W w':World}{B r g:Nat}{p:Pk}{s:Sv}{S S':PS}(h:DSt w B r g p s S W)(h1:PtS w' B r S')(t:RdTo r W w'):DSt w B r g p s S' w':=by
 have hs:=h.size
 have hlt:=h.lt
 exact ⟨h.hB,h.lt,h.hg,(t.above _ (by omega) hs).trans h.row,(t.above _ (by omega) (by omega)).trans h.res,h1,h.to.trans t,h.rows.call t h.hB h.lt⟩
theorem DSt.put {w W:World}{B r g:Nat}{p p':Pk}{s s':Sv}{S:PS}(h:DSt w B r g p s S W)(i:Nat)(v:Value)(e:(pkC p s).setIfInBounds i v=pkC p' s')(hf:DRows W B g p s→DRows W B g p' s'):DSt w B r g p' s' S (W.setCell ⟨g+1,i,none⟩ v):=by
 have hlt:=h.lt
 have hB:=h.hB
 have hg:=h.hg
 have hr:=hf h.rows
 have t:RdTo r w (W.setCell ⟨g+1,i,none⟩ v):=⟨h.to.below.setCell (p:=⟨g+1,i,none⟩) (by show r≤g+1;omega) v,fun b h1 h2=>(Below.heap_setCell W ⟨g+1,i,none⟩ v b (by show b≠g+1;omega)).trans (h.to.above b h1 h2)⟩
 exact ⟨h.hB,h.lt,h.hg,put_row i v h.row e,(Below.heap_setCell W ⟨g+1,i,none⟩ v g (by show g≠g+1;omega)).trans h.res,h.part.keep ((Below.refl _ W).setCell (p:=⟨g+1,i,none⟩) (by show r+1≤g+1;omega) v),t,hr.set (g+1) (by omega) (by omega) i v⟩
theorem DSt.drew {w W:World}{B r g:Nat}{p:Pk}{s:Sv}{S:PS}(h:DSt w B r g p s S W)(n:Nat):DSt w B r g p s S (W.drewN n) :=
 ⟨h.hB,h.lt,h.hg,h.row,h.res,by obtain ⟨ad,c,b,k,q,e⟩:=h.part;exact ⟨ad,c,b,k,q.drew n,e⟩,h.to.trans (RdTo.drew r W n),⟨h.rows.pay,h.rows.payn,h.rows.wpay,h.rows.pass,h.rows.subs,h.rows.codes⟩⟩
def DParPost (w:World) (B r:Nat) (q:Pk) (S:PS) (e:Ending) (w':World):Prop :=
 ∃s,e=.returned (pkV q s)∧DRows w' B w.heap.size q s∧PtS w' B r S∧RdTo r w w'
theorem DSt.done {w W:World}{B r g:Nat}{p:Pk}{s:Sv}{S:PS}(h:DSt w B r g p s S W)(cs:Array Value):DParPost w B r p S (.returned (pkV p s)) (W.setRow g cs):=by
 have hlt:=h.lt
 have hB:=h.hB
 have hg:=h.hg
 have hs:=h.size
 have hr:=h.rows.setRow g (by omega) (by omega) cs
 rw [hg] at hr ⊢
 rw [hg] at hlt
 refine ⟨s,rfl,hr,h.part.keep (below_setRow (Below.refl _ W) (by omega) _),⟨below_setRow h.to.below (by omega) _,fun b h1 h2=>?_⟩⟩
 simp only [World.setRow]
 rw [Array.getElem?_modify,if_neg (by omega)]
 exact h.to.above b h1 h2
theorem DRows.below {W W':World}{B g:Nat}{p:Pk}{s:Sv}(h:DRows W B g p s)(t:Below W.heap.size W W')(hB:B≤W.heap.size):DRows W' B g p s :=
 ⟨h.pay.below (t.mono hB),h.payn,h.wpay.below t,h.pass.below t,own_to h.subs fun g _ hg=>t.block g hg,own_to h.codes fun g _ hg=>t.block g hg⟩
theorem DSt.below {w W W':World}{B r g:Nat}{p:Pk}{s:Sv}{S:PS}(h:DSt w B r g p s S W)(t:Below W.heap.size W W'):DSt w B r g p s S W':=by
 have hlt:=h.lt
 have hB:=h.hB
 have hg:=h.hg
 have hs:=h.size
 exact ⟨h.hB,h.lt,h.hg,(t.block _ hs).trans h.row,(t.block _ (by omega)).trans h.res,h.part.more t,h.to.trans (RdTo.more t (by omega)),h.rows.below t (by omega)⟩
theorem DSt.wrong {w W:World}{B r g:Nat}{p:Pk}{s:Sv}{S:PS}(h:DSt w B r g p s S W):DSt w B r g p s (S.1,true) (W.setCell ⟨r,2,none⟩ (.bool true)):=by
 refine h.call ?_ (RdTo.setk r 2 W _)
 obtain ⟨ad,c,b,k,q,e⟩:=h.part
 exact ⟨ad,c,b,k,q.wrong,e⟩
theorem conv_new (l:List UInt8)(n base:Nat)(hn:l.length=n)(w:World)(hs:l.length≤1000000)(hb:base≤w.heap.size) :
  ∃(C:Nat) (W:World),(convert 9 22 (.string (bytesOfL l))).run Try.prog w=.ok (.slice (some ⟨w.heap.size,0,none⟩) n C) W∧NewB W base (some ⟨w.heap.size,0,none⟩) n C l∧Below w.heap.size w W:=by
 obtain ⟨C,W,h1,h2,h3⟩:=conv_str (bytesOfL l) w (by rw [bytesOfL_size];exact hs)
 rw [bytesOfL_size,hn] at h1 h2
 have e:(bytesOfL l).data.toList=l:=by unfold bytesOfL;simp
 rw [e] at h2
 exact ⟨C,W,h1,⟨h2,(by intro q;cases q),fun ad h=>by injection h with h;subst h;exact hb⟩,h3⟩
def docP (c:Int):Pk:={pk0 with kind:=c / 16}
theorem docP_k (c:Int):(docP c).kind=c / 16:=rfl
theorem DSt.cells {w W:World}{B r g:Nat}{p:Pk}{s:Sv}{S:PS}(h:DSt w B r g p s S W):∀k,W.cell? ⟨g+1,k,none⟩=(pkC p s)[k]? := row_cells h.row
theorem DSt.frz {w W:World}{B r g:Nat}{p:Pk}{s:Sv}{S:PS}(h:DSt w B r g p s S W):∀k,W.frozen? ⟨g+1,k,none⟩=false:=fun k=>frozen_of_row W (g+1) k _ _ h.row
theorem con_bits:∀y:Fin 256,(bits .and .i64 (y.val:Int) 2 != 0)=((y.val:Int) / 2%2==1)∧(bits .and .i64 (y.val:Int) 4 != 0)=((y.val:Int) / 4%2==1)∧(bits .and .i64 (y.val:Int) 128 != 0)=((y.val:Int) / 128%2==1)∧(bits .and .i64 (y.val:Int) 64 != 0)=((y.val:Int) / 64%2==1)∧(bits .and .i64 (y.val:Int) 32 != 0)=((y.val:Int) / 32%2==1)∧bits .and .i64 ((y.val:Int) / 8) 3=(y.val:Int) / 8%4:=by decide +kernel
theorem mq_iff (s:ByteArray):(s=mqtt)↔s.toList=[77,81,84,84]:=by
 have h:eqS s mqtt=true↔s=mqtt:=eqS_iff
 have e:mqtt.toList=[77,81,84,84]:=by decide +kernel
 unfold eqS at h
 rw [e,beq_iff_eq] at h
 exact h.symm
theorem PtS.le {w:World}{B r:Nat}{s:PS}(h:PtS w B r s):s.1.length≤1000000:=by
 obtain ⟨ad,c,b,k,q,e⟩:=h
 have:=q.small
 rw [←e,List.length_drop];omega
theorem PtS.frz {w:World}{B r:Nat}{s:PS}(h:PtS w B r s):∀i,w.frozen? ⟨r,i,none⟩=false:=by
 obtain ⟨ad,c,b,k,q,e⟩:=h
 exact q.cells.2.2.2
theorem PtS.cell2 {w:World}{B r:Nat}{s:PS}(h:PtS w B r s):w.cell? ⟨r,2,none⟩=some (.bool s.2):=by
 obtain ⟨ad,c,b,k,q,e⟩:=h
 exact q.cells.2.2.1
theorem lp_le {S S':PS}{X:List UInt8}(e:lpD S=(X,S'))(h:S.1.length≤1000000):S'.1.length≤1000000:=by have q:=(lpD_sz S).2.2;rw [e] at q;exact Nat.le_trans q h
theorem lp_sz {S S':PS}{X:List UInt8}(e:lpD S=(X,S'))(h:S.1.length≤1000000):X.length≤1000000:=by have q:=(lpD_sz S).2.1;rw [e] at q;exact Nat.le_trans q h
theorem nm_le {k:Nat}{S S':PS}{x:Int}(e:nmD k S=(x,S'))(h:S.1.length≤1000000):S'.1.length≤1000000:=by have q:=nmD_le k S;rw [e] at q;exact Nat.le_trans q h
theorem lump_e (B r:Nat){S S':PS}{X:List UInt8}(e:lpD S=(X,S'))(w:World)(h:PtS w B r S) :
  Calls Try.prog 90 #[.pointer (some ⟨r,0,none⟩)] w fun e w'=>e=.returned (.string (bytesOfL X))∧PtS w' B r S'∧RdTo r w w':=by
 have q:=lump_d B r S w h
 rw [e] at q
 exact q
theorem number_e (B r k:Nat)(hk:k≤2){S S':PS}{x:Int}(e:nmD k S=(x,S'))(w:World)(h:PtS w B r S) :
  Calls Try.prog 91 #[.pointer (some ⟨r,0,none⟩),.int .i64 k] w fun e w'=>e=.returned (.int .i64 x)∧PtS w' B r S'∧RdTo r w w':=by
 have q:=number_d B r k S w h hk
 rw [e] at q
 exact q
def conT (hw hu hp:Bool) (S:PS):List UInt8×PS :=
 let a5:List UInt8×PS:=if hw then lpD S else ([],S)
 let a6:List UInt8×PS:=if hw then lpD a5.2 else ([],a5.2)
 let a7:List UInt8×PS:=if hu then lpD a6.2 else ([],a6.2)
 if hp then lpD a7.2 else ([],a7.2)
def leftD (r:Nat) (w:World):Nat:=match w.cell? ⟨r,0,none⟩,w.cell? ⟨r,1,none⟩,w.cell? ⟨r,2,none⟩ with | some (.slice _ n _),some (.int _ k),some (.bool false)=>n - k.toNat | _,_,_=>0
theorem leftD_at {w:World}{B r:Nat}{s:PS}(h:PtS w B r s):leftD r w=if s.2 then 0 else s.1.length:=by
 obtain ⟨ad,c,b,k,q,e⟩:=h
 obtain ⟨c0,c1,c2,_⟩:=q.cells
 unfold leftD
 rw [c0,c1,c2]
 cases hs:s.2
 ·simp only [Bool.false_eq_true,if_false]
  rw [←e,List.length_drop,Int.toNat_natCast]
 ·rfl
theorem RdTo.setAbove {r b i:Nat}{w w':World}(h:RdTo r w w')(hr:r<w.heap.size)(hb:w.heap.size≤b)(v:Value):RdTo r w (w'.setCell ⟨b,i,none⟩ v) :=
 ⟨h.below.setCell (p:=⟨b,i,none⟩) (by show r≤b;omega) v,fun g h1 h2=>(Below.heap_setCell w' ⟨b,i,none⟩ v g (by show g≠b;omega)).trans (h.above g h1 h2)⟩
theorem aps_wp {ops:Array Oper} {rest:List Oper} {a:Act} {w:World} {Q:Exit→Act→World→Prop} {d:Tmp} {x y:Operand} {ty:TypeId} {ps:String} {af:Array Edge}
  (base:Nat) (A:Option Addr) (C:Nat) (L:List (ByteArray×Int)) (gn:Nat) (f:ByteArray) (q:Int) (hx:a.eval x=.slice A L.length C) (hy:a.eval y=.slice (some ⟨gn,0,none⟩) 1 1) (hown:w.ownsRow base 70 2 (.slice A L.length C) L.length (subCells L)) (hnew:w.heap[gn]? = some (.cells #[.string f,.int .i64 q] 70 (0,0))) (hl:L.length≤1000000) (hb:base≤w.heap.size)
  (h:∀(A':Option Addr) (C':Nat) (w':World),w'.ownsRow base 70 2 (.slice A' (L.length+1) C') (L.length+1) (subCells (L++[(f,q)]))→Below base w w'→wpList Try.prog ops Q rest (a.put (some d) (.slice A' (L.length+1) C')) w') :
  wpList Try.prog ops Q (⟨some d,.call ⟨.builtin .append,#[x,y],#[25,25]⟩,ty,ps,af,none⟩ :: rest) a w:=by
 obtain ⟨i0,hi,hz0,hz1,hz2⟩:=info_parts Try.infoSub
 obtain ⟨v',w',hr,h2,h3,_,h5⟩:=run_append_own_at (P:=Try.prog) (w:=w) base 25 ty 70 i0 _ 2 24 Try.underlying25 hi hz0 hz1 hz2 rfl (by decide) _ L.length (subCells L) hown ⟨gn,0,none⟩ 1 1 [.string f,.int .i64 q] rfl (fun j u hj=>by
  rw [show ((⟨gn,0,none⟩:Addr).add j)=⟨gn,j,none⟩ by unfold Addr.add;split <;> simp_all,cell_of_row _ gn j _ _ _ hnew]
  simpa using hj) (fun u hu=>by simp at hu;rcases hu with rfl | rfl <;> rfl) (by unfold maxLen;omega) (by omega) hb
 rcases h2.2 with ⟨_,e⟩ | ⟨g',cap',cur',hv',_⟩
 ·omega
 subst hv'
 refine wpList_plain rfl fun K hK=>?_
 unfold Oper.wp execOp
 simp only [resolve,invoke,builtin,Sem.run_bind,Sem.run_pure,Result.andThen_ok,List.map_toArray,List.map_cons,List.map_nil,hx,hy,hr]
 exact hK _ _ (h _ _ _ (by rw [subCells_snoc];exact h2) ((Below.refl base w).grown h3 hb (fun g hg=>(hown.lt g hg).1)))
theorem api_wp {a:Act} {w:World} {K:Act→World→Prop} {Q:Exit→Act→World→Prop} {d:Tmp} {x y:Operand} {ty:TypeId} {ps:String} {af:Array Edge}
  (base:Nat) (A:Option Addr) (C:Nat) (L:List Int) (gn:Nat) (q:Int) (hx:a.eval x=.slice A L.length C) (hy:a.eval y=.slice (some ⟨gn,0,none⟩) 1 1) (hown:w.ownsRow base 3 1 (.slice A L.length C) L.length (intCells L)) (hnew:w.heap[gn]? = some (.cells #[.int .i64 q] 3 (0,0))) (hl:L.length≤1000000) (hb:base≤w.heap.size)
  (h:∀(A':Option Addr) (C':Nat) (w':World),w'.ownsRow base 3 1 (.slice A' (L.length+1) C') (L.length+1) (intCells (L++[q]))→Below base w w'→K (a.put (some d) (.slice A' (L.length+1) C')) w') :
  Oper.wp Try.prog ⟨some d,.call ⟨.builtin .append,#[x,y],#[26,26]⟩,ty,ps,af,none⟩ a w K Q:=by
 obtain ⟨i0,hi,hz0,hz1,hz2⟩:=info_parts Try.infoInt
 obtain ⟨v',w',hr,h2,h3,_,h5⟩:=run_append_own_at (P:=Try.prog) (w:=w) base 26 ty 3 i0 _ 1 8 Try.underlying26 hi hz0 hz1 hz2 rfl (by decide) _ L.length (intCells L) hown ⟨gn,0,none⟩ 1 1 [.int .i64 q] rfl (fun j u hj=>by
  rw [show ((⟨gn,0,none⟩:Addr).add j)=⟨gn,j,none⟩ by unfold Addr.add;split <;> simp_all,cell_of_row _ gn j _ _ _ hnew]
  simpa using hj) (fun u hu=>by simp at hu;subst hu;rfl) (by unfold maxLen;omega) (by omega) hb
 rcases h2.2 with ⟨_,e⟩ | ⟨g',cap',cur',hv',_⟩
 ·omega
 subst hv'
 unfold Oper.wp execOp
 simp only [resolve,invoke,builtin,Sem.run_bind,Sem.run_pure,Result.andThen_ok,List.map_toArray,List.map_cons,List.map_nil,hx,hy,hr]
 exact h _ _ _ (by rw [show intCells (L++[q])=intCells L++[.int .i64 q] by simp [intCells]];exact h2) ((Below.refl base w).grown h3 hb (fun g hg=>(hown.lt g hg).1))
def sbD (P:Pk) (i:Int) (L:List (ByteArray×Int)):Pk:={P with id:=i,subs:=L}
def svD (A:Option Addr) (C:Nat):Sv:={sv0 with sA:=A,sC:=C}
def cdD (P:Pk) (i:Int) (L:List Int):Pk:={P with id:=i,codes:=L}
def svE (A:Option Addr) (C:Nat):Sv:={sv0 with cA:=A,cC:=C}
theorem DSt.to_ {w W W':World}{B r g:Nat}{p:Pk}{s:Sv}{S:PS}(h:DSt w B r g p s S W)(hb:Below (g+2) W W'):g=w.heap.size∧B≤r∧r<g∧W'.heap[g+1]? = some (.cells (pkC p s) 28)∧W'.heap[g]? = some (.cells (pkC pk0 sv0) 28)∧PtS W' B r S∧RdTo r w W':=by
 have hlt:=h.lt
 have hB:=h.hB
 have hg:=h.hg
 exact ⟨hg,hB,hlt,(hb.block _ (by omega)).trans h.row,(hb.block _ (by omega)).trans h.res,h.part.keep (hb.mono (by omega)),⟨h.to.below.trans (hb.mono (by omega)),fun b h1 h2=>(hb.block b (by omega)).trans (h.to.above b h1 h2)⟩⟩
theorem DSt.stored {w W:World}{B r g i:Nat}{p p':Pk}{s s':Sv}{S:PS}{v:Value}(h:g=w.heap.size∧B≤r∧r<g∧W.heap[g+1]? = some (.cells (pkC p s) 28)∧W.heap[g]? = some (.cells (pkC pk0 sv0) 28)∧PtS W B r S∧RdTo r w W)(e:(pkC p s).setIfInBounds i v=pkC p' s')(hr:DRows W B g p' s'):DSt w B r g p' s' S (W.setCell ⟨g+1,i,none⟩ v):=by
 obtain ⟨hg,hB,hlt,h1,h2,h3,h4⟩:=h
 refine ⟨hB,hlt,hg,put_row i v h1 e,(Below.heap_setCell W ⟨g+1,i,none⟩ v g (by show g≠g+1;omega)).trans h2,h3.keep ((Below.refl _ W).setCell (p:=⟨g+1,i,none⟩) (by show r+1≤g+1;omega) v),h4.setAbove (by omega) (by omega) v,hr.set (g+1) (by omega) (by omega) i v⟩
theorem DSt.pushS {w W W':World} {B r g:Nat} {P:Pk} {i:Int} {L:List (ByteArray×Int)} {A A':Option Addr} {C C':Nat} {S:PS} {x:ByteArray×Int} (h:DSt w B r g (sbD P i L) (svD A C) S W) (hb:Below (g+2) W W') (hP:P.pay=[]∧P.wpay=[]∧P.pass=[]∧P.codes=[])
  (ho:W'.ownsRow (g+2) 70 2 (.slice A' (L.length+1) C') (L.length+1) (subCells (L++[x]))):DSt w B r g (sbD P i (L++[x])) (svD A' C') S (W'.setCell ⟨g+1,22,none⟩ (.slice A' (L.length+1) C')):=by
 have e:L.length+1=(L++[x]).length:=by simp
 refine DSt.stored (h.to_ hb) ?_ ⟨?_,fun _=>rfl,?_,?_,?_,?_⟩
 ·rw [e];rfl
 ·show BytesAt W' B (.slice none P.pay.length 0) P.pay
  rw [hP.1];exact nil_bytes _ _
 ·show NewB W' (g+2) none P.wpay.length 0 P.wpay
  rw [hP.2.1];exact NewB.nil _ _
 ·show NewB W' (g+2) none P.pass.length 0 P.pass
  rw [hP.2.2.1];exact NewB.nil _ _
 ·show W'.ownsRow (g+2) 70 2 (.slice A' (L++[x]).length C') (L++[x]).length (subCells (L++[x]))
  rw [←e];exact ho
 ·show W'.ownsRow (g+2) 3 1 (.slice none P.codes.length 0) P.codes.length (intCells P.codes)
  rw [hP.2.2.2];exact World.ownsRow_nil _ _ _ _
theorem DSt.pushC {w W W':World} {B r g:Nat} {P:Pk} {i:Int} {L:List Int} {A A':Option Addr} {C C':Nat} {S:PS} {x:Int} (h:DSt w B r g (cdD P i L) (svE A C) S W) (hb:Below (g+2) W W') (hP:P.pay=[]∧P.wpay=[]∧P.pass=[]∧P.subs=[])
  (ho:W'.ownsRow (g+2) 3 1 (.slice A' (L.length+1) C') (L.length+1) (intCells (L++[x]))):DSt w B r g (cdD P i (L++[x])) (svE A' C') S (W'.setCell ⟨g+1,23,none⟩ (.slice A' (L.length+1) C')):=by
 have e:L.length+1=(L++[x]).length:=by simp
 refine DSt.stored (h.to_ hb) ?_ ⟨?_,fun _=>rfl,?_,?_,?_,?_⟩
 ·rw [e];rfl
 ·show BytesAt W' B (.slice none P.pay.length 0) P.pay
  rw [hP.1];exact nil_bytes _ _
 ·show NewB W' (g+2) none P.wpay.length 0 P.wpay
  rw [hP.2.1];exact NewB.nil _ _
 ·show NewB W' (g+2) none P.pass.length 0 P.pass
  rw [hP.2.2.1];exact NewB.nil _ _
 ·show W'.ownsRow (g+2) 70 2 (.slice none P.subs.length 0) P.subs.length (subCells P.subs)
  rw [hP.2.2.2];exact World.ownsRow_nil _ _ _ _
 ·show W'.ownsRow (g+2) 3 1 (.slice A' (L++[x]).length C') (L++[x]).length (intCells (L++[x]))
  rw [←e];exact ho
end Go.Proofs.Ytnhpacaoobpkhaa
