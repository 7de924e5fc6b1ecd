import Derived.Test.YtnhpacaoobpkhaaGPub
import Derived.BigQuiet
import Derived.Deep.QuietTactic
import Derived.Test.YtnhpacaoobpkhaaGConn
namespace Go.Proofs.Ytnhpacaoobpkhaa
open Go.RowKit Go.Lib
set_option linter.unusedSimpArgs false
set_option linter.unusedVariables false
set_option maxRecDepth 100000
set_option maxHeartbeats 4000000
abbrev PS:=List UInt8×Bool
def tkD (n:Nat) (s:PS):List UInt8×PS:=if s.2 || decide (s.1.length<n) then ([],(s.1,true)) else (s.1.take n,(s.1.drop n,false))
def nmD (n:Nat) (s:PS):Int×PS:=(numL (tkD n s).1,(tkD n s).2)
def lpD (s:PS):List UInt8×PS:=tkD (nmD 2 s).1.toNat (nmD 2 s).2
theorem tkD_bad (n:Nat)(l:List UInt8):tkD n (l,true)=([],(l,true)):=by simp [tkD]
theorem tkD_short (n:Nat)(l:List UInt8)(b:Bool)(h:l.length<n):tkD n (l,b)=([],(l,true)):=by simp [tkD,h]
theorem tkD_ok (n:Nat)(l:List UInt8)(h:n≤l.length):tkD n (l,false)=(l.take n,(l.drop n,false)):=by
 have:¬l.length<n:=by omega
 simp [tkD,this]
theorem tkD_len (n:Nat)(s:PS):(tkD n s).1.length+(tkD n s).2.1.length=s.1.length∨((tkD n s).1=[]∧(tkD n s).2=(s.1,true)):=by
 unfold tkD
 split
 ·exact .inr ⟨rfl,rfl⟩
 ·left
  rename_i h
  simp at h
  simp only [List.length_take,List.length_drop]
  omega
theorem tkD_le (n:Nat)(s:PS):(tkD n s).1.length+(tkD n s).2.1.length≤s.1.length:=by
 rcases tkD_len n s with h | ⟨h1,h2⟩
 ·omega
 ·rw [h1,h2];simp
theorem tkD_n (n:Nat)(s:PS):(tkD n s).1.length≤n:=by
 unfold tkD
 split
 ·simp
 ·simp only [List.length_take];omega
theorem tkD_good (n:Nat)(s:PS)(h:(tkD n s).2.2=false):s.2=false∧n≤s.1.length∧tkD n s=(s.1.take n,(s.1.drop n,false)):=by
 unfold tkD at *
 split at h
 ·cases h
 ·rename_i q
  simp at q
  refine ⟨q.1,by omega,?_⟩
  simp [q.1]
  omega
theorem nmD_in (n:Nat)(s:PS)(hn:n≤2):0≤(nmD n s).1∧(nmD n s).1≤65535:=by
 have hl:=tkD_n n s
 unfold nmD
 simp only
 generalize (tkD n s).1=T at *
 rcases T with _ | ⟨x,_ | ⟨y,_ | _⟩⟩
 ·exact ⟨by decide,by decide⟩
 ·have:=x.toNat_lt;unfold numL;simp;omega
 ·have:=x.toNat_lt;have:=y.toNat_lt;unfold numL;simp;omega
 ·simp at hl;omega
theorem nmD_in1 (s:PS):0≤(nmD 1 s).1∧(nmD 1 s).1≤255:=by
 have hl:=tkD_n 1 s
 unfold nmD
 simp only
 generalize (tkD 1 s).1=T at *
 rcases T with _ | ⟨x,_ | _⟩
 ·exact ⟨by decide,by decide⟩
 ·have:=x.toNat_lt;unfold numL;simp;omega
 ·simp at hl
theorem nmD_le (n:Nat)(s:PS):(nmD n s).2.1.length≤s.1.length:=by
 have:=tkD_le n s
 unfold nmD;simp only;omega
theorem lpD_le (s:PS):(lpD s).1.length+(lpD s).2.1.length≤s.1.length:=by
 have:=tkD_le (nmD 2 s).1.toNat (nmD 2 s).2
 have:=nmD_le 2 s
 unfold lpD;omega
theorem lpD_good (s:PS)(h:(lpD s).2.2=false):(lpD s).1.length+(lpD s).2.1.length+2≤s.1.length:=by
 obtain ⟨h1,h2,h3⟩:=tkD_good _ _ h
 have q:(tkD 2 s).2.2=false:=h1
 obtain ⟨g1,g2,g3⟩:=tkD_good _ _ q
 have:=tkD_le (nmD 2 s).1.toNat (nmD 2 s).2
 have e:(nmD 2 s).2.1=s.1.drop 2:=by unfold nmD;rw [g3]
 rw [e,List.length_drop] at this
 unfold lpD
 omega
theorem tkD_was (n:Nat)(s:PS)(h:s.2=true):tkD n s=([],(s.1,true)):=by
 obtain ⟨l,b⟩:=s
 cases h
 exact tkD_bad n l
theorem lpD_wrong (s:PS)(h:(lpD s).2.2=true):(lpD s).1=[]:=by
 unfold lpD tkD at *
 split
 ·rfl
 ·rename_i q
  rw [if_neg q] at h
  cases h
def subsD (q:Bool) (s:PS):List (ByteArray×Int)×PS :=
 if s.2=true∨s.1=[] then ([],s) else
  let a:=lpD s
  ((bytesOfL a.1,(if q then nmD 1 a.2 else ((0:Int),a.2)).1) :: (subsD q (if q then nmD 1 a.2 else ((0:Int),a.2)).2).1,(subsD q (if q then nmD 1 a.2 else ((0:Int),a.2)).2).2)
termination_by (if s.2 then 0 else s.1.length+1)
decreasing_by
 rename_i h
 have h1:s.2=false:=by
  cases e:s.2
  ·rfl
  ·exact absurd (.inl e) h
 have key:(lpD s).2.2=false→(if (if q then nmD 1 (lpD s).2 else ((0:Int),(lpD s).2)).2.2 then 0 else (if q then nmD 1 (lpD s).2 else ((0:Int),(lpD s).2)).2.1.length+1)<s.1.length+1:=fun g=>by
  have h2:=lpD_good s g
  cases q
  ·simp only [Bool.false_eq_true,if_false,g];omega
  ·have:=nmD_le 1 (lpD s).2
   simp only [if_true]
   split <;> omega
 have bad:(lpD s).2.2=true→(if (if q then nmD 1 (lpD s).2 else ((0:Int),(lpD s).2)).2.2 then 0 else (if q then nmD 1 (lpD s).2 else ((0:Int),(lpD s).2)).2.1.length+1)<s.1.length+1:=fun g=>by
  cases q
  ·simp only [Bool.false_eq_true,if_false,g,if_true];omega
  ·have e:(nmD 1 (lpD s).2).2.2=true:=by unfold nmD;rw [tkD_was 1 _ g]
   simp only [if_true,e];omega
 have goal:(if (if q then nmD 1 (lpD s).2 else ((0:Int),(lpD s).2)).2.2 then 0 else (if q then nmD 1 (lpD s).2 else ((0:Int),(lpD s).2)).2.1.length+1)<(if s.2 then 0 else s.1.length+1):=by
  rw [h1]
  simp only [Bool.false_eq_true,if_false]
  rcases g:(lpD s).2.2 with _ | _
  ·exact key g
  ·exact bad g
 exact goal
theorem subsD_end (q:Bool)(s:PS)(h:s.2=true∨s.1=[]):subsD q s=([],s):=by rw [subsD,if_pos h]
theorem subsD_more (q:Bool)(s:PS)(h:¬(s.2=true∨s.1=[])):subsD q s=((bytesOfL (lpD s).1,(if q then nmD 1 (lpD s).2 else (0,(lpD s).2)).1) :: (subsD q (if q then nmD 1 (lpD s).2 else (0,(lpD s).2)).2).1,(subsD q (if q then nmD 1 (lpD s).2 else (0,(lpD s).2)).2).2):=by
 conv=>lhs;rw [subsD]
 rw [if_neg h]
def conD (c:Int) (s:PS):Pk×PS :=
 let a0:=lpD s
 let s0:PS:=if bytesOfL a0.1=mqtt then a0.2 else (a0.2.1,true)
 let a1:=nmD 1 s0
 let a2:=nmD 1 a1.2
 let f:=a2.1
 let a3:=nmD 2 a2.2
 let a4:=lpD a3.2
 let hw:=f / 4%2==1
 let hu:=f / 128%2==1
 let hp:=f / 64%2==1
 let a5:List UInt8×PS:=if hw then lpD a4.2 else ([],a4.2)
 let a6:List UInt8×PS:=if hw then lpD a5.2 else ([],a5.2)
 let a7:List UInt8×PS:=if hu then lpD a6.2 else ([],a6.2)
 let a8:List UInt8×PS:=if hp then lpD a7.2 else ([],a7.2)
 ({pk0 with kind:=c / 16,level:=a1.1,keep:=a3.1,cli:=bytesOfL a4.1,clean:=f / 2%2==1,hw:=hw,hu:=hu,hp:=hp,wtop:=bytesOfL a5.1,wpay:=a6.1,wqos:=f / 8%4,wret:=f / 32%2==1,user:=bytesOfL a7.1,pass:=a8.1},a8.2)
def parD (c:Int) (s:PS):Pk×PS :=
 let k:=c / 16
 if k==1 then conD c s
 else if k==2 then
  let a:=nmD 1 s
  let b:=nmD 1 a.2
  ({pk0 with kind:=k,pres:=a.1==1,code:=b.1},b.2)
 else if k==3 then
  let a:=lpD s
  let q:=c / 2%4
  let b:Int×PS:=if 0<q then nmD 2 a.2 else (0,a.2)
  let d:=tkD b.2.1.length b.2
  ({pk0 with kind:=k,dup:=c / 8%2==1,qos:=q,ret:=c%2==1,top:=bytesOfL a.1,id:=b.1,pay:=d.1},d.2)
 else if k==12 || k==13 || k==14 then ({pk0 with kind:=k},s)
 else
  let a:=nmD 2 s
  if k==8 || k==10 then
   let r:=subsD (k==8) a.2
   ({pk0 with kind:=k,id:=a.1,subs:=r.1},r.2)
  else if k==9 then
   if a.2.2 then ({pk0 with kind:=k,id:=a.1},a.2) else ({pk0 with kind:=k,id:=a.1,codes:=codesR a.2.1},([],false))
  else ({pk0 with kind:=k,id:=a.1},a.2)
theorem nm_one (n:Int)(r:List UInt8)(h0:0≤n)(h1:n≤255):nmD 1 (UInt8.ofNat n.toNat :: r,false)=(n,(r,false)):=by
 unfold nmD
 rw [tkD_ok _ _ (by simp)]
 simp [num_one n h0 h1]
theorem nm_pair (n:Int)(r:List UInt8)(h0:0≤n)(h1:n≤65535):nmD 2 (pairL n++r,false)=(n,(r,false)):=by
 unfold nmD
 rw [tkD_ok _ _ (by simp [pairL])]
 simp only [num_take2 n r h0 h1,drop_pair]
theorem nm_pair0 (n:Int)(h0:0≤n)(h1:n≤65535):nmD 2 (pairL n,false)=(n,([],false)):=by
 have:=nm_pair n [] h0 h1
 rwa [List.append_nil] at this
theorem lp_lump (l r:List UInt8)(h:l.length≤65535):lpD (lumpL l++r,false)=(l,(r,false)):=by
 unfold lpD lumpL
 rw [List.append_assoc,nm_pair _ _ (by omega) (by omega)]
 simp only [Int.toNat_natCast]
 rw [tkD_ok _ _ (by simp)]
 rw [List.take_left,List.drop_left]
theorem lp_text (s:ByteArray)(r:List UInt8)(h:s.size≤65535):lpD (textL s++r,false)=(s.data.toList,(r,false)):=by
 rw [text_lump];exact lp_lump _ _ (by rw [size_list];exact h)
theorem bytesOf_list (s:ByteArray):bytesOfL s.data.toList=s:=ofList s
theorem subsD_enc (q:Bool):∀(l:List (ByteArray×Int)),(∀x ∈ l,x.1.size≤65535∧0≤x.2∧x.2≤255)→subsD q (subsL q l,false)=(l.map fun x=>(x.1,if q then x.2 else 0),([],false))
 | [],_=>by rw [show subsL q []=[] from rfl,subsD_end _ _ (.inr rfl)];simp
 | x :: l,h=>by
  have ih:=subsD_enc q l (fun y hy=>h y (by simp [hy]))
  obtain ⟨h1,h2,h3⟩:=h x (by simp)
  have e:subsL q (x :: l)=textL x.1++((if q then [UInt8.ofNat x.2.toNat] else [])++subsL q l):=by
   unfold subsL;rw [List.flatMap_cons];unfold subL;rw [List.append_assoc]
  have hne:¬(((subsL q (x :: l),false):PS).2=true∨((subsL q (x :: l),false):PS).1=[]):=by
   rw [e];unfold textL pairL;simp
  rw [subsD_more _ _ hne,e,lp_text _ _ h1]
  simp only [bytesOf_list,List.map_cons]
  cases q with
  | false=>simp only [Bool.false_eq_true,if_false,List.nil_append];rw [ih];simp
  | true =>
   simp only [if_true,List.cons_append,List.nil_append]
   rw [nm_one _ _ h2 h3]
   simp only
   rw [ih]
   simp
theorem doc_enc1 (p:Pk)(h:rightP p=true)(k1:(p.kind==1)=true):parD (headP p) (bodyL p,false)=(p,([],false)):=by
 have f:=right_f p h
 simp only [rightP,Bool.and_eq_true,decide_eq_true_iff] at h
 obtain ⟨⟨h1,h2⟩,h3⟩:=h
 have hk:p.kind=1:=by simpa using k1
 obtain ⟨l0,l1⟩:=f.level
 obtain ⟨e0,e1⟩:=f.keep
 obtain ⟨q0,q1⟩:=f.wqos
 obtain ⟨c0,c1⟩:=cflags_in p q0 q1
 obtain ⟨b1,b2,b3,b4,b5,b6⟩:=cf_bits p q0 q1
 have t1:=f.cli
 have t2:=f.wtop
 have t3:=f.wpay
 have t4:=f.user
 have t5:=f.pass
 have hb:bodyL p=connL p:=by simp [bodyL,k1]
 have hl:lpD (connL p,false)=(mqtt.data.toList,([UInt8.ofNat p.level.toNat,UInt8.ofNat (cflagsP p).toNat]++(pairL p.keep++lumpsL p),false)):=lp_text mqtt _ (by decide)
 have hx:parD (headP p) (connL p,false)=conD (headP p) (connL p,false):=by unfold parD;simp only [hd_kind p f,k1,if_true]
 rw [hb,hx]
 unfold conD
 simp only [hl,hd_kind p f,bytesOf_list,if_true]
 simp only [List.cons_append,List.nil_append,nm_one _ _ l0 l1,nm_one _ _ c0 c1,nm_pair _ _ e0 e1,b1,b2,b3,b4,b5,b6]
 have A1:=fun r=>lp_text p.cli r t1
 have A3:=fun r=>lp_text p.wtop r t2
 have A5:=fun r=>lp_lump p.wpay r t3
 have A7:=fun r=>lp_text p.user r t4
 have A9:=fun r=>lp_lump p.pass r t5
 have B1:=A1 []
 have B5:=A5 []
 have B7:=A7 []
 have B9:=A9 []
 rw [List.append_nil] at B1 B5 B7 B9
 have C1:=bytesOf_list p.cli
 have C2:=bytesOf_list p.wtop
 have C3:=bytesOf_list p.user
 have Q:p.hw=false→p.wqos=0∧p.wret=false:=fun w1=>by
  have e1:=congrArg Pk.wqos h1
  have e2:=congrArg Pk.wret h1
  simp [wrP,k1,w1,pk0] at e1 e2
  exact ⟨e1,e2⟩
 have R:p={(wrP p) with wqos:=p.wqos,wret:=p.wret}:=by rw [←h1]
 unfold lumpsL
 conv=>rhs;rw [R]
 simp only [wrP,k1]
 clear h1 h2 h3 hl hx hb f b1 b2 b3 b4 b5 b6 k1
 have hbe:bytesOfL []=ByteArray.empty:=rfl
 rcases w1:p.hw with _ | _ <;> rcases w2:p.hu with _ | _ <;> rcases w3:p.hp with _ | _
 all_goals
  clear R
  simp [*]
structure PtR (w:World) (B r:Nat) (ad:Addr) (c:Nat) (b:List UInt8) (k:Nat) (wr:Bool):Prop where
 row:w.heap[r]? = some (.cells #[.slice (some ad) b.length c,.int .i64 k,.bool wr] 91)
 bytes:BytesAt w B (.slice (some ad) b.length c) b
 low:B≤r
 within:k≤b.length
 small:b.length≤1000000
def PtS (w:World) (B r:Nat) (s:PS):Prop:=∃ad c b k,PtR w B r ad c b k s.2∧b.drop k=s.1
def TkPost (w:World) (B r:Nat) (t:List UInt8×PS) (e:Ending) (w':World):Prop :=
 ∃A' c',e=.returned (.slice A' t.1.length c')∧BytesAt w' B (.slice A' t.1.length c') t.1∧(A'=none→c'=0)∧PtS w' B r t.2∧RdTo r w w'
theorem RdTo.setk (r k:Nat)(w:World)(v:Value):RdTo r w (w.setCell ⟨r,k,none⟩ v) :=
 ⟨(Below.refl r w).setCell (p:=⟨r,k,none⟩) (Nat.le_refl r) v,fun b h1 h2=>Below.heap_setCell w ⟨r,k,none⟩ v b (by show b≠r;omega)⟩
theorem PtR.cells {w:World}{B r:Nat}{ad:Addr}{c:Nat}{b:List UInt8}{k:Nat}{wr:Bool}(h:PtR w B r ad c b k wr) :
  w.cell? ⟨r,0,none⟩=some (.slice (some ad) b.length c)∧w.cell? ⟨r,1,none⟩=some (.int .i64 k)∧w.cell? ⟨r,2,none⟩=some (.bool wr)∧∀i,w.frozen? ⟨r,i,none⟩=false:=by
 have:=h.row
 refine ⟨by simp [World.cell?,this],by simp [World.cell?,this],by simp [World.cell?,this],fun i=>by simp [World.frozen?,this]⟩
theorem PtR.lt {w:World}{B r:Nat}{ad:Addr}{c:Nat}{b:List UInt8}{k:Nat}{wr:Bool}(h:PtR w B r ad c b k wr):r<w.heap.size:=(Array.getElem?_eq_some_iff.1 h.row).1
theorem PtS.lt {w:World}{B r:Nat}{s:PS}(h:PtS w B r s):r<w.heap.size:=by
 obtain ⟨ad,c,b,k,h,_⟩:=h
 exact h.lt
theorem PtS.low {w:World}{B r:Nat}{s:PS}(h:PtS w B r s):B≤r:=by
 obtain ⟨ad,c,b,k,h,_⟩:=h
 exact h.low
theorem PtR.wrong {w:World}{B r:Nat}{ad:Addr}{c:Nat}{b:List UInt8}{k:Nat}{wr:Bool}(h:PtR w B r ad c b k wr):PtR (w.setCell ⟨r,2,none⟩ (.bool true)) B r ad c b k true :=
 ⟨heap_setCell_same w r 2 _ _ _ h.row,h.bytes.below ((RdTo.setk r 2 w _).below.mono h.low),h.low,h.within,h.small⟩
theorem PtR.step {w:World}{B r:Nat}{ad:Addr}{c:Nat}{b:List UInt8}{k:Nat}{wr:Bool}(h:PtR w B r ad c b k wr)(k':Nat)(hk:k'≤b.length):PtR (w.setCell ⟨r,1,none⟩ (.int .i64 k')) B r ad c b k' wr :=
 ⟨heap_setCell_same w r 1 _ _ _ h.row,h.bytes.below ((RdTo.setk r 1 w _).below.mono h.low),h.low,hk,h.small⟩
theorem PtR.keep {w w':World}{B r:Nat}{ad:Addr}{c:Nat}{b:List UInt8}{k:Nat}{wr:Bool}(h:PtR w B r ad c b k wr)(hb:Below (r+1) w w'):PtR w' B r ad c b k wr :=
 ⟨by rw [hb.block r (by omega)];exact h.row,h.bytes.below (hb.mono (by have:=h.low;omega)),h.low,h.within,h.small⟩
theorem PtR.drew {w:World}{B r:Nat}{ad:Addr}{c:Nat}{b:List UInt8}{k:Nat}{wr:Bool}(h:PtR w B r ad c b k wr)(m:Nat):PtR (w.drewN m) B r ad c b k wr:=⟨h.row,h.bytes,h.low,h.within,h.small⟩
theorem PtS.keep {w w':World}{B r:Nat}{s:PS}(h:PtS w B r s)(hb:Below (r+1) w w'):PtS w' B r s:=by
 obtain ⟨ad,c,b,k,h,e⟩:=h
 exact ⟨ad,c,b,k,h.keep hb,e⟩
theorem PtS.more {w w':World}{B r:Nat}{s:PS}(h:PtS w B r s)(hb:Below w.heap.size w w'):PtS w' B r s:=h.keep (hb.mono h.lt)
theorem PtS.other {w w':World}{B r:Nat}{s:PS}(h:PtS w B r s)(hb:Below B w w')(hr:w'.heap[r]? = w.heap[r]?):PtS w' B r s:=by
 obtain ⟨ad,c,b,k,h,e⟩:=h
 exact ⟨ad,c,b,k,⟨by rw [hr];exact h.row,h.bytes.below hb,h.low,h.within,h.small⟩,e⟩
theorem PtS.put {w:World}{B b r i:Nat}{s:PS}(h:PtS w B r s)(hB:B≤b)(hb:b<r)(v:Value):PtS (w.setCell ⟨b,i,none⟩ v) B r s :=
 h.other ((Below.refl B w).setCell (p:=⟨b,i,none⟩) hB v) (Below.heap_setCell _ _ _ _ (by show r≠b;omega))
theorem take_d (B r n:Nat)(s:PS)(w:World)(h:PtS w B r s)(hn:n≤1000000) :
  Calls Try.prog 92 #[.pointer (some ⟨r,0,none⟩),.int .i64 n] w (TkPost w B r (tkD n s)):=by
 obtain ⟨ad,c,b,k,h,hs⟩:=h
 obtain ⟨l,wr⟩:=s
 simp only at h hs
 obtain ⟨c0,c1,c2,hf⟩:=h.cells
 have hb:=h.bytes
 obtain ⟨hc,hm⟩:b.length≤c∧c≤maxLen:=by
  obtain ⟨A',c',hv,hc,hm,_⟩:=hb
  injection hv with v1 v2 v3
  subst v3
  exact ⟨hc,hm⟩
 have hk:=h.within
 have hsm:=h.small
 have hl:l.length=b.length - k:=by rw [←hs,List.length_drop]
 have H:=Lib.hid h
 clear h
 unfold maxLen at hm
 have bad:tkD n (l,wr)=([],(l,true))→∀m,TkPost w B r (tkD n (l,wr)) (.returned (.slice none 0 0)) ((w.drewN m).setCell ⟨r,2,none⟩ (.bool true)):=fun e m=>by
  rw [e]
  refine ⟨none,0,rfl,?_,fun _=>rfl,⟨ad,c,b,k,(H.out.drew m).wrong,hs⟩,(RdTo.drew r w m).trans (RdTo.setk _ _ _ _)⟩
  exact ⟨none,0,rfl,by simp,by decide,fun _=>rfl,by simp,by simp⟩
 cases wr with
 | true =>
  have K:=Lib.hid (bad (tkD_bad n l))
  clear bad hb
  generalize b.length=L at *
  go_enter Try.func92,Try.ntmps92
  go_wp2_with fail
  go_quiet (fail)
  go_wp2_with fail
  go_ret
  exact K.out _
 | false =>
  by_cases hlt:l.length<n
  ·have K:=Lib.hid (bad (tkD_short n l false hlt))
   clear bad hb
   have hd:decide ((b.length:Int) - (k:Int)<(n:Int))=true:=decide_eq_true (by omega)
   generalize b.length=L at *
   go_enter Try.func92,Try.ntmps92
   go_wp2_with fail
   go_quiet (fail)
   go_wp2_with fail
   go_ret
   exact K.out _
  ·have e:=tkD_ok n l (by omega)
   have hd:decide ((b.length:Int) - (k:Int)<(n:Int))=false:=decide_eq_false (by omega)
   have hTl:(l.take n).length=n:=by rw [List.length_take];omega
   have mk:∀(a':Addr) (c':Nat),BytesAt w B (.slice (some a') n c') (l.take n)→∀m m2,TkPost w B r (tkD n (l,false)) (.returned (.slice (some a') n c')) (((w.drewN m).setCell ⟨r,1,none⟩ (.int .i64 ((k:Int)+(n:Int)))).drewN m2):=fun a' c' q m m2=>by
    rw [e]
    have t:=((RdTo.drew r w m).trans (RdTo.setk r 1 (w.drewN m) (.int .i64 ((k:Int)+(n:Int))))).trans (RdTo.drew r _ m2)
    refine ⟨some a',c',by rw [hTl],by rw [hTl];exact q.below (t.below.mono H.out.low),(by intro e;cases e),⟨ad,c,b,k+n,?_,by simp only;rw [←hs,List.drop_drop]⟩,t⟩
    have z:=((H.out.drew m).step (k+n) (by omega)).drew m2
    rw [Int.natCast_add] at z
    exact z
   by_cases hck:c=k
   ·have n0:n=0:=by omega
    subst n0
    have K:=Lib.hid (fun m m2=>by
     have z:=mk ad 0 (by rw [List.take_zero];exact BytesAt.void w B ad 0 (by decide)) m m2
     rw [show (k:Int)+((0:Nat):Int)=(k:Int) by omega] at z
     exact z)
    clear bad hb mk e hTl
    generalize b.length=L at *
    go_enter Try.func92,Try.ntmps92
    go_wp2_with fail
    go_quiet (fail)
    go_wp2_with fail
    go_quiet (fail)
    go_wp2_with fail
    go_ret
    exact K.out _ _
   ·have K:=Lib.hid (mk (ad.add k) (c - k) (by
     have q:=BytesAt.drop hb k hk
     rw [hs] at q
     have q2:=BytesAt.tk q n (by omega)
     exact q2))
    clear bad hb mk e hTl
    generalize b.length=L at *
    go_enter Try.func92,Try.ntmps92
    go_wp2_with fail
    go_quiet (fail)
    go_wp2_with fail
    go_quiet (fail)
    go_wp2_with fail
    go_ret
    have E2:k+n - k=n:=by omega
    show TkPost _ _ _ _ (.returned (.slice (some (ad.add k)) (k+n - k) (c - k))) _
    rw [E2]
    exact K.out _ _
theorem number_d (B r k:Nat)(s:PS)(w:World)(h:PtS w B r s)(hk:k≤2) :
  Calls Try.prog 91 #[.pointer (some ⟨r,0,none⟩),.int .i64 k] w fun e w'=>e=.returned (.int .i64 (nmD k s).1)∧PtS w' B r (nmD k s).2∧RdTo r w w':=by
 have H:=Lib.hid (take_d B r k s w h (by omega))
 have hlen:=tkD_n k s
 clear h
 unfold nmD
 unfold TkPost at H
 simp only
 generalize (tkD k s).2=S2 at *
 generalize (tkD k s).1=T at *
 rcases T with _ | ⟨x,_ | ⟨y,_ | _⟩⟩
 ·go_enter Try.func91,Try.ntmps91
  go_wp2_with fail
  refine H.out.mono ?_
  rintro e w1 ⟨A,c,rfl,hb,_,h1,ht⟩
  have H1:=Lib.hid h1
  have HT:=Lib.hid ht
  clear hb h1 ht H
  go_wp2_with fail
  refine wp_loop_rounds 1 ?_
  rw [rounds_succ]
  go_wp2
  go_ret
  exact ⟨rfl,H1.out,HT.out⟩
 ·go_enter Try.func91,Try.ntmps91
  go_wp2_with fail
  refine H.out.mono ?_
  rintro e w1 ⟨A,c,rfl,hb,_,h1,ht⟩
  have H1:=Lib.hid h1
  have HT:=Lib.hid ht
  obtain ⟨A',c',hv,hc,hm,hz,_,_⟩:=id hb
  injection hv with v1 v2 v3
  subst v1 v3
  rcases A with _ | ad
  ·have:=hz rfl;cases this
  have z0:=cell_zero hb
  have bx:x.toNat≤255:=by have:=x.toNat_lt;omega
  simp at hc
  clear hb h1 ht H hm hz v2
  go_wp2_with fail
  refine wp_loop_rounds 2 ?_
  rw [rounds_succ]
  go_wp2
  simp only [or_zero]
  rw [rounds_succ]
  go_wp2
  go_ret
  refine ⟨?_,H1.out,HT.out⟩
  show Ending.returned (Value.int .i64 (x.toNat:Int))=_
  unfold numL
  simp
 ·go_enter Try.func91,Try.ntmps91
  go_wp2_with fail
  refine H.out.mono ?_
  rintro e w1 ⟨A,c,rfl,hb,_,h1,ht⟩
  have H1:=Lib.hid h1
  have HT:=Lib.hid ht
  obtain ⟨A',c',hv,hc,hm,hz,_,_⟩:=id hb
  injection hv with v1 v2 v3
  subst v1 v3
  rcases A with _ | ad
  ·have:=hz rfl;cases this
  have z0:=cell_zero hb
  have z1:=cell_one hb
  have bx:x.toNat≤255:=by have:=x.toNat_lt;omega
  have by':y.toNat≤255:=by have:=y.toNat_lt;omega
  simp at hc
  clear hb h1 ht H hm hz v2
  go_wp2_with fail
  refine wp_loop_rounds 3 ?_
  rw [rounds_succ]
  go_wp2
  simp only [or_zero]
  rw [rounds_succ]
  go_wp2
  rw [rounds_succ]
  go_wp2
  go_ret
  refine ⟨?_,H1.out,HT.out⟩
  show Ending.returned (Value.int .i64 (bits .or .i64 ((x.toNat:Int)*256) (y.toNat:Int)))=_
  rw [or_hi]
  unfold numL
  simp
 ·simp at hlen;omega
theorem rtake_d (B r:Nat)(s:PS)(x:Int)(t:List UInt8×PS)(w:World)(h:PtS w B r s)(h0:0≤x)(h1:x≤1000000)(ht:tkD x.toNat s=t) :
  Calls Try.prog 92 #[.pointer (some ⟨r,0,none⟩),.int .i64 x] w (TkPost w B r t):=by
 have q:=take_d B r x.toNat s w h (by omega)
 rw [Int.toNat_of_nonneg h0,ht] at q
 exact q
theorem lump_d (B r:Nat)(s:PS)(w:World)(h:PtS w B r s) :
  Calls Try.prog 90 #[.pointer (some ⟨r,0,none⟩)] w fun e w'=>e=.returned (.string (bytesOfL (lpD s).1))∧PtS w' B r (lpD s).2∧RdTo r w w':=by
 have HN:=Lib.hid (number_d B r 2 s w h (by omega))
 obtain ⟨b0,b1⟩:=nmD_in 2 s (by omega)
 have e:tkD (nmD 2 s).1.toNat (nmD 2 s).2=lpD s:=rfl
 generalize lpD s=t at *
 generalize (nmD 2 s).1=x at *
 generalize (nmD 2 s).2=s1 at *
 have HT:=Lib.hid (fun w1 (h1:PtS w1 B r s1)=>rtake_d B r s1 x t w1 h1 b0 (by omega) e)
 unfold TkPost at HT
 obtain ⟨t1,t2⟩:=t
 simp only at *
 clear b0 b1 h e
 go_enter Try.func90,Try.ntmps90
 go_wp2_with fail
 refine HN.out.mono ?_
 rintro e w1 ⟨rfl,h1,q1⟩
 have H1:=Lib.hid h1
 have Q1:=Lib.hid q1
 clear h1 q1 HN
 go_wp2_with fail
 refine (HT.out _ H1.out).mono ?_
 rintro e w2 ⟨A,c,rfl,hb,_,h2,q2⟩
 have cv:=hb.conv
 have H2:=Lib.hid h2
 have Q2:=Lib.hid q2
 clear h2 hb q2 HT
 go_wp2
 go_ret
 exact ⟨rfl,H2.out,Q1.out.trans Q2.out⟩
theorem hd3_f (p:Pk)(f:RF p)(k:(p.kind==3)=true):(headP p / 8%2==1)=p.dup∧headP p / 2%4=p.qos∧(headP p%2==1)=p.ret:=by
 have h:=hd_3 p f k
 unfold hdP at h
 rw [hd_kind p f,if_pos k] at h
 exact ⟨congrArg Pk.dup h,congrArg Pk.qos h,congrArg Pk.ret h⟩
theorem flag_back (b:Bool):(flagI b 1==1)=b:=by cases b <;> rfl
theorem doc_enc (p:Pk)(h:rightP p=true)(hk:(p.kind==1)=false):parD (headP p) (bodyL p,false)=(p,([],false)):=by
 have f:=right_f p h
 simp only [rightP,Bool.and_eq_true,decide_eq_true_iff] at h
 obtain ⟨⟨h1,h2⟩,h3⟩:=h
 obtain ⟨i0,i1⟩:=f.id
 obtain ⟨c0,c1⟩:=f.code
 have ft:=f.top
 have hs:=f.sub
 have hc:=f.cod
 have HK:=hd_kind p f
 have one:nmD 2 (pairL p.id,false)=(p.id,([],false)):=nm_pair0 _ i0 i1
 rcases kf p.kind with ⟨k1,k2,k3,k4,k5,k6,k7,k8,k9,k10,k11,k12,k13,k14⟩ | ⟨k1,k2,k3,k4,k5,k6,k7,k8,k9,k10,k11,k12,k13,k14⟩ | ⟨k1,k2,k3,k4,k5,k6,k7,k8,k9,k10,k11,k12,k13,k14⟩ | ⟨k1,k2,k3,k4,k5,k6,k7,k8,k9,k10,k11,k12,k13,k14⟩ | ⟨k1,k2,k3,k4,k5,k6,k7,k8,k9,k10,k11,k12,k13,k14⟩ | ⟨k1,k2,k3,k4,k5,k6,k7,k8,k9,k10,k11,k12,k13,k14⟩ | ⟨k1,k2,k3,k4,k5,k6,k7,k8,k9,k10,k11,k12,k13,k14⟩ | ⟨k1,k2,k3,k4,k5,k6,k7,k8,k9,k10,k11,k12,k13,k14⟩ | ⟨k1,k2,k3,k4,k5,k6,k7,k8,k9,k10,k11,k12,k13,k14⟩ | ⟨k1,k2,k3,k4,k5,k6,k7,k8,k9,k10,k11,k12,k13,k14⟩ | ⟨k1,k2,k3,k4,k5,k6,k7,k8,k9,k10,k11,k12,k13,k14⟩ | ⟨k1,k2,k3,k4,k5,k6,k7,k8,k9,k10,k11,k12,k13,k14⟩ | ⟨k1,k2,k3,k4,k5,k6,k7,k8,k9,k10,k11,k12,k13,k14⟩ | ⟨k1,k2,k3,k4,k5,k6,k7,k8,k9,k10,k11,k12,k13,k14⟩ | ⟨k1,k2,k3,k4,k5,k6,k7,k8,k9,k10,k11,k12,k13,k14⟩
 ·rw [k1] at hk;cases hk
 ·have hf:=flagI_in p.pres 1 (by omega)
  have e1:nmD 1 ([UInt8.ofNat (flagI p.pres 1).toNat,UInt8.ofNat p.code.toNat],false)=(flagI p.pres 1,([UInt8.ofNat p.code.toNat],false)):=nm_one _ _ hf.1 (by omega)
  have e2:nmD 1 ([UInt8.ofNat p.code.toNat],false)=(p.code,([],false)):=nm_one _ _ c0 (by omega)
  have e:parD (headP p) (bodyL p,false)=({pk0 with kind:=p.kind,pres:=p.pres,code:=p.code},([],false)):=by
   simp only [parD,HK,bodyL,k1,k2,if_true,if_false,Bool.false_eq_true,e1,e2,flag_back]
  rw [e]
  conv=>rhs;rw [h1]
  simp [wrP,k1,k2]
 ·obtain ⟨d1,d2,d3⟩:=hd3_f p f k3
  have g1:=lp_text p.top ((if p.qos==0 then [] else pairL p.id)++p.pay) ft
  have e:parD (headP p) (bodyL p,false)=({pk0 with kind:=p.kind,dup:=p.dup,qos:=p.qos,ret:=p.ret,top:=p.top,id:=if p.qos==0 then 0 else p.id,pay:=p.pay},([],false)):=by
   simp only [parD,HK,bodyL,k1,k2,k3,pubL,if_true,if_false,Bool.false_eq_true,d1,d2,d3,g1,bytesOf_list]
   obtain ⟨q0,q1⟩:=f.qos
   rcases q:(p.qos==0) with _ | _
   ·have q':0<p.qos:=by
     have:p.qos≠0:=by simpa using q
     omega
    simp only [Bool.false_eq_true,if_false,if_pos q',nm_pair _ _ i0 i1]
    rw [tkD_ok _ _ (Nat.le_refl _)]
    simp
   ·have q':¬0<p.qos:=by
     have:p.qos=0:=by simpa using q
     omega
    simp only [if_true,if_neg q',List.nil_append]
    rw [tkD_ok _ _ (Nat.le_refl _)]
    simp
  rw [e]
  conv=>rhs;rw [h1]
  cases q:(p.qos==0) <;> simp [wrP,k1,k2,k3,q]
 ·conv=>rhs;rw [h1]
  simp only [parD,HK,bodyL,k1,k2,k3,k4,k8,k9,k10,k12,k13,k14,wrP,if_true,if_false,Bool.false_eq_true,Bool.or_self,Bool.or_true,Bool.true_or,Bool.or_false,Bool.false_or,one]
 ·conv=>rhs;rw [h1]
  simp only [parD,HK,bodyL,k1,k2,k3,k4,k5,k8,k9,k10,k12,k13,k14,wrP,if_true,if_false,Bool.false_eq_true,Bool.or_self,Bool.or_true,Bool.true_or,Bool.or_false,Bool.false_or,one]
 ·conv=>rhs;rw [h1]
  simp only [parD,HK,bodyL,k1,k2,k3,k4,k5,k6,k8,k9,k10,k12,k13,k14,wrP,if_true,if_false,Bool.false_eq_true,Bool.or_self,Bool.or_true,Bool.true_or,Bool.or_false,Bool.false_or,one]
 ·conv=>rhs;rw [h1]
  simp only [parD,HK,bodyL,k1,k2,k3,k4,k5,k6,k7,k8,k9,k10,k12,k13,k14,wrP,if_true,if_false,Bool.false_eq_true,Bool.or_self,Bool.or_true,Bool.true_or,Bool.or_false,Bool.false_or,one]
 ·have e:=subsD_enc true p.subs hs
  simp at e
  conv=>rhs;rw [h1]
  simp only [parD,HK,bodyL,k1,k2,k3,k4,k5,k6,k7,k8,k9,k10,k11,k12,k13,k14,wrP,if_true,if_false,Bool.false_eq_true,Bool.or_self,Bool.or_true,Bool.true_or,Bool.or_false,Bool.false_or,nm_pair _ _ i0 i1,e]
 ·have e:=codesR_enc p.codes hc
  conv=>rhs;rw [h1]
  simp only [parD,HK,bodyL,k1,k2,k3,k4,k5,k6,k7,k8,k9,k10,k11,k12,k13,k14,wrP,if_true,if_false,Bool.false_eq_true,Bool.or_self,Bool.or_true,Bool.true_or,Bool.or_false,Bool.false_or,nm_pair _ _ i0 i1,e]
 ·have h4:sfitsP 0 p.subs=true:=by simp [fitsP,k1,k2,k3,k4,k5,k6,k7,k11,k8,k10] at h3;exact h3.2.1
  have e:=subsD_enc false p.subs hs
  simp only [Bool.false_eq_true,if_false] at e
  rw [subs_map0 _ (fun x hx=>by obtain ⟨_,q1,q2⟩:=sfits_mem h4 x hx;omega)] at e
  conv=>rhs;rw [h1]
  simp only [parD,HK,bodyL,k1,k2,k3,k4,k5,k6,k7,k8,k9,k10,k11,k12,k13,k14,wrP,if_true,if_false,Bool.false_eq_true,Bool.or_self,Bool.or_true,Bool.true_or,Bool.or_false,Bool.false_or,nm_pair _ _ i0 i1,e]
 ·conv=>rhs;rw [h1]
  simp only [parD,HK,bodyL,k1,k2,k3,k4,k5,k6,k7,k11,k8,k9,k10,k12,k13,k14,wrP,if_true,if_false,Bool.false_eq_true,Bool.or_self,Bool.or_true,Bool.true_or,Bool.or_false,Bool.false_or,one]
 ·conv=>rhs;rw [h1]
  simp only [parD,HK,bodyL,k1,k2,k3,k4,k5,k6,k7,k11,k8,k9,k10,k12,k13,k14,wrP,if_true,if_false,Bool.false_eq_true,Bool.or_self,Bool.or_true,Bool.true_or,Bool.or_false,Bool.false_or]
 ·conv=>rhs;rw [h1]
  simp only [parD,HK,bodyL,k1,k2,k3,k4,k5,k6,k7,k11,k8,k9,k10,k12,k13,k14,wrP,if_true,if_false,Bool.false_eq_true,Bool.or_self,Bool.or_true,Bool.true_or,Bool.or_false,Bool.false_or]
 ·conv=>rhs;rw [h1]
  simp only [parD,HK,bodyL,k1,k2,k3,k4,k5,k6,k7,k11,k8,k9,k10,k12,k13,k14,wrP,if_true,if_false,Bool.false_eq_true,Bool.or_self,Bool.or_true,Bool.true_or,Bool.or_false,Bool.false_or]
 ·exfalso
  simp only [fitsP,k1,k2,k3,k4,k5,k6,k7,k8,k9,k10,k11,k12,k13,k14,if_false,Bool.false_eq_true,Bool.or_self] at h3
theorem doc_right (p:Pk)(h:rightP p=true):parD (headP p) (bodyL p,false)=(p,([],false)):=by
 rcases k1:(p.kind==1) with _ | _
 ·exact doc_enc p h k1
 ·exact doc_enc1 p h k1
theorem in_i64 {x:Int}(h:0≤x∧x≤65535):i64In x:=by unfold i64In;omega
theorem in_i641 {x:Int}(h:0≤x∧x≤255):i64In x:=by unfold i64In;omega
theorem lpD_sz (s:PS):(bytesOfL (lpD s).1).size≤s.1.length∧(lpD s).1.length≤s.1.length∧(lpD s).2.1.length≤s.1.length:=by
 have:=lpD_le s
 rw [bytesOfL_size]
 omega
def sumSz (l:List (ByteArray×Int)):Nat:=(l.map fun x=>x.1.size).sum
theorem subsD_sz (q:Bool):∀(n:Nat) (s:PS),s.1.length≤n→2*(subsD q s).1.length+sumSz (subsD q s).1≤s.1.length+2∧∀x ∈ (subsD q s).1,x.1.size≤s.1.length∧0≤x.2∧x.2≤255:=by
 intro n
 induction n with
 | zero =>
  intro s hs
  have:s.1=[]:=List.eq_nil_of_length_eq_zero (by omega)
  rw [subsD_end q s (.inr this)]
  exact ⟨by simp [sumSz],by simp⟩
 | succ n ih =>
  intro s hs
  by_cases he:s.2=true∨s.1=[]
  ·rw [subsD_end q s he]
   exact ⟨by simp [sumSz],by simp⟩
  have hx:0≤(if q then nmD 1 (lpD s).2 else ((0:Int),(lpD s).2)).1∧(if q then nmD 1 (lpD s).2 else ((0:Int),(lpD s).2)).1≤255:=by
   cases q
   ·exact ⟨by simp,by simp⟩
   ·exact nmD_in1 _
  have hle:(if q then nmD 1 (lpD s).2 else ((0:Int),(lpD s).2)).2.1.length≤(lpD s).2.1.length:=by
   cases q
   ·exact Nat.le_refl _
   ·exact nmD_le 1 _
  have hwr:(lpD s).2.2=true→(if q then nmD 1 (lpD s).2 else ((0:Int),(lpD s).2)).2.2=true:=fun g=>by
   cases q
   ·exact g
   ·show (nmD 1 (lpD s).2).2.2=true
    unfold nmD;rw [tkD_was 1 _ g]
  rw [subsD_more q s he]
  obtain ⟨z1,z2,z3⟩:=lpD_sz s
  have hb:=bytesOfL_size (lpD s).1
  generalize (if q then nmD 1 (lpD s).2 else ((0:Int),(lpD s).2))=y at *
  obtain ⟨y1,S'⟩:=y
  simp only at *
  rcases g:(lpD s).2.2 with _ | _
  ·have g2:=lpD_good s g
   obtain ⟨a1,a2⟩:=ih S' (by omega)
   refine ⟨?_,?_⟩
   ·simp only [List.length_cons,sumSz,List.map_cons,List.sum_cons] at *
    omega
   ·intro x hx'
    rcases List.mem_cons.1 hx' with rfl | hx'
    ·exact ⟨z1,hx⟩
    ·obtain ⟨b1,b2⟩:=a2 x hx'
     exact ⟨by omega,b2⟩
  ·rw [subsD_end q S' (.inl (hwr g))]
   have g3:=lpD_wrong s g
   refine ⟨?_,?_⟩
   ·rw [g3] at hb ⊢
    simp only [List.length_cons,List.length_nil,sumSz,List.map_cons,List.sum_cons,List.map_nil,List.sum_nil] at *
    omega
   ·intro x hx'
    rcases List.mem_cons.1 hx' with rfl | hx'
    ·exact ⟨z1,hx⟩
    ·cases hx'
theorem subsL_sum (q:Bool)(l:List (ByteArray×Int)):(subsL q l).length≤3*l.length+sumSz l:=by
 induction l with
 | nil=>exact Nat.zero_le _
 | cons x l ih =>
  have e:subsL q (x :: l)=subL q x++subsL q l:=by unfold subsL;rw [List.flatMap_cons]
  have h1:(subL q x).length≤3+x.1.size:=by
   unfold subL textL
   cases q <;> simp [pairL,size_list] <;> omega
  rw [e,List.length_append]
  simp only [List.length_cons,sumSz,List.map_cons,List.sum_cons] at *
  omega
end Go.Proofs.Ytnhpacaoobpkhaa
