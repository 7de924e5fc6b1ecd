import Derived.Test.YtnhpacaoobpkhaaGBytes
import Derived.OneCell
import Derived.LoopN
import Derived.Test.YtnhpacaoobpkhaaGPkt
import Derived.Test.YtnhpacaoobpkhaaGWr
import Derived.Test.YtnhpacaoobpkhaaGFits
namespace Go.Proofs.Ytnhpacaoobpkhaa
open Go.RowKit Go.Lib
set_option linter.unusedVariables false
set_option maxRecDepth 100000
set_option maxHeartbeats 4000000
theorem num_take (n:Int)(h0:0≤n)(h1:n≤65535):numL ((pairL n).take 2)=n:=by
 rw [List.take_of_length_le (by rw [pairL_len];omega),num_pair n h0 h1]
theorem num_take2 (n:Int)(r:List UInt8)(h0:0≤n)(h1:n≤65535):numL ((pairL n++r).take 2)=n:=by rw [take_pair,num_pair n h0 h1]
theorem flag_mod (b:Bool):(flagI b 1%2==1)=b:=by cases b <;> rfl
theorem subs_map0 (l:List (ByteArray×Int))(h:∀x ∈ l,x.2=0):(l.map fun x=>(x.1,(0:Int)))=l:=by
 conv=>rhs;rw [←List.map_id l]
 apply List.map_congr_left
 intro x hx
 rw [←h x hx];rfl
theorem par_enc (p:Pk)(h:rightP p=true)(hk:(p.kind==1)=false):parR (headP p) (bodyL p)=p:=by
 have f:=right_f p h
 simp only [rightP,Bool.and_eq_true,decide_eq_true_iff] at h
 obtain ⟨⟨h1,h2⟩,h3⟩:=h
 obtain ⟨i0,i1⟩:=f.id
 obtain ⟨c0,c1⟩:=f.code
 have ft:=f.top
 have hs:=f.sub
 have hc:=f.cod
 rcases kf p.kind with ⟨k1,k2,k3,k4,k5,k6,k7,k8,k9,k10,k11,k12,k13,k14⟩ | ⟨k1,k2,k3,k4,k5,k6,k7,k8,k9,k10,k11,k12,k13,k14⟩ | ⟨k1,k2,k3,k4,k5,k6,k7,k8,k9,k10,k11,k12,k13,k14⟩ | ⟨k1,k2,k3,k4,k5,k6,k7,k8,k9,k10,k11,k12,k13,k14⟩ | ⟨k1,k2,k3,k4,k5,k6,k7,k8,k9,k10,k11,k12,k13,k14⟩ | ⟨k1,k2,k3,k4,k5,k6,k7,k8,k9,k10,k11,k12,k13,k14⟩ | ⟨k1,k2,k3,k4,k5,k6,k7,k8,k9,k10,k11,k12,k13,k14⟩ | ⟨k1,k2,k3,k4,k5,k6,k7,k8,k9,k10,k11,k12,k13,k14⟩ | ⟨k1,k2,k3,k4,k5,k6,k7,k8,k9,k10,k11,k12,k13,k14⟩ | ⟨k1,k2,k3,k4,k5,k6,k7,k8,k9,k10,k11,k12,k13,k14⟩ | ⟨k1,k2,k3,k4,k5,k6,k7,k8,k9,k10,k11,k12,k13,k14⟩ | ⟨k1,k2,k3,k4,k5,k6,k7,k8,k9,k10,k11,k12,k13,k14⟩ | ⟨k1,k2,k3,k4,k5,k6,k7,k8,k9,k10,k11,k12,k13,k14⟩ | ⟨k1,k2,k3,k4,k5,k6,k7,k8,k9,k10,k11,k12,k13,k14⟩ | ⟨k1,k2,k3,k4,k5,k6,k7,k8,k9,k10,k11,k12,k13,k14⟩
 ·rw [k1] at hk;cases hk
 ·conv=>rhs;rw [h1]
  have hf:=flagI_in p.pres 1 (by omega)
  simp only [parR,hd_no3 p f k3,wrP,bodyL,k1,k2]
  simp [num_one _ hf.1 (by omega),num_one _ c0 (by omega),flag_mod]
 ·conv=>rhs;rw [h1]
  simp only [parR,hd_3 p f k3,wrP,bodyL,k1,k2,k3,pubL]
  obtain ⟨g1,g2⟩:=got_text p.top ((if p.qos==0 then [] else pairL p.id)++p.pay) ft
  simp only [Bool.false_eq_true,if_false,if_true]
  rw [g1,g2]
  cases q:(p.qos==0) <;> simp [num_take2 _ _ i0 i1,drop_pair]
 ·conv=>rhs;rw [h1]
  simp only [parR,hd_no3 p f k3,wrP,bodyL,k1,k2,k3,k4]
  simp [num_take _ i0 i1]
 ·conv=>rhs;rw [h1]
  simp only [parR,hd_no3 p f k3,wrP,bodyL,k1,k2,k3,k4,k5]
  simp [num_take _ i0 i1]
 ·conv=>rhs;rw [h1]
  simp only [parR,hd_no3 p f k3,wrP,bodyL,k1,k2,k3,k4,k5,k6]
  simp [num_take _ i0 i1]
 ·conv=>rhs;rw [h1]
  simp only [parR,hd_no3 p f k3,wrP,bodyL,k1,k2,k3,k4,k5,k6,k7]
  simp [num_take _ i0 i1]
 ·have e:=subsR_enc true p.subs hs
  simp at e
  conv=>rhs;rw [h1]
  simp only [parR,hd_no3 p f k3,wrP,bodyL,k1,k2,k3,k4,k5,k6,k7,k11,k8]
  simp [num_take2 _ _ i0 i1,drop_pair,e]
 ·have e:=codesR_enc p.codes hc
  conv=>rhs;rw [h1]
  simp only [parR,hd_no3 p f k3,wrP,bodyL,k1,k2,k3,k4,k5,k6,k7,k11,k8,k10,k9]
  simp [num_take2 _ _ i0 i1,drop_pair,e]
 ·have h4:sfitsP 0 p.subs=true:=by simp [fitsP,k1,k2,k3,k4,k5,k6,k7,k11,k8,k10] at h3;exact h3.2.1
  have e:=subsR_enc false p.subs hs
  simp only [Bool.false_eq_true,if_false] at e
  rw [subs_map0 _ (fun x hx=>by obtain ⟨_,q1,q2⟩:=sfits_mem h4 x hx;omega)] at e
  conv=>rhs;rw [h1]
  simp only [parR,hd_no3 p f k3,wrP,bodyL,k1,k2,k3,k4,k5,k6,k7,k11,k8,k10]
  simp [num_take2 _ _ i0 i1,drop_pair,e]
 ·conv=>rhs;rw [h1]
  simp only [parR,hd_no3 p f k3,wrP,bodyL,k1,k2,k3,k4,k5,k6,k7,k11]
  simp [num_take _ i0 i1]
 ·conv=>rhs;rw [h1]
  simp only [parR,hd_no3 p f k3,wrP,bodyL,k1,k2,k3,k4,k5,k6,k7,k11,k8,k10,k9]
  simp
 ·conv=>rhs;rw [h1]
  simp only [parR,hd_no3 p f k3,wrP,bodyL,k1,k2,k3,k4,k5,k6,k7,k11,k8,k10,k9]
  simp
 ·conv=>rhs;rw [h1]
  simp only [parR,hd_no3 p f k3,wrP,bodyL,k1,k2,k3,k4,k5,k6,k7,k11,k8,k10,k9]
  simp
 ·exfalso
  have q:=f.kind
  simp at k1 k2 k3 k4 k5 k6 k7 k8 k9 k10 k11 k12 k13 k14
  omega
theorem cf_bits (p:Pk)(h0:0≤p.wqos)(h1:p.wqos≤2):(cflagsP p / 2%2==1)=p.clean∧(cflagsP p / 4%2==1)=p.hw∧cflagsP p / 8%4=p.wqos∧(cflagsP p / 32%2==1)=p.wret∧(cflagsP p / 64%2==1)=p.hp∧(cflagsP p / 128%2==1)=p.hu:=by
 have key:∀(a b c d e:Bool) (q:Int),0≤q→q≤2→∀f,f=flagI a 2+flagI b 4+q*8+flagI c 32+flagI d 64+flagI e 128 →
   f / 2%2=(if a then 1 else 0)∧f / 4%2=(if b then 1 else 0)∧f / 8%4=q∧f / 32%2=(if c then 1 else 0)∧f / 64%2=(if d then 1 else 0)∧f / 128%2=(if e then 1 else 0):=by
  intro a b c d e q q0 q1 f hf
  cases a <;> cases b <;> cases c <;> cases d <;> cases e <;> simp [flagI] at hf ⊢ <;> omega
 obtain ⟨a1,a2,a3,a4,a5,a6⟩:=key p.clean p.hw p.wret p.hp p.hu p.wqos h0 h1 (cflagsP p) rfl
 rw [a1,a2,a3,a4,a5,a6]
 refine ⟨?_,?_,rfl,?_,?_,?_⟩
 ·cases p.clean <;> rfl
 ·cases p.hw <;> rfl
 ·cases p.wret <;> rfl
 ·cases p.hp <;> rfl
 ·cases p.hu <;> rfl
theorem par_enc1 (p:Pk)(h:rightP p=true)(k1:(p.kind==1)=true):parR (headP p) (bodyL p)=p:=by
 have f:=right_f p h
 simp only [rightP,Bool.and_eq_true,decide_eq_true_iff] at h
 obtain ⟨⟨h1,h2⟩,h3⟩:=h
 have hk:p.kind=1:=by simpa using k1
 have k3:(p.kind==3)=false:=by simp [hk]
 obtain ⟨l0,l1⟩:=f.level
 obtain ⟨e0,e1⟩:=f.keep
 obtain ⟨q0,q1⟩:=f.wqos
 obtain ⟨c0,c1⟩:=cflags_in p q0 q1
 obtain ⟨b1,b2,b3,b4,b5,b6⟩:=cf_bits p q0 q1
 have t1:=f.cli
 have t2:=f.wtop
 have t3:=f.wpay
 have t4:=f.user
 have t5:=f.pass
 have hb:bodyL p=connL p:=by simp [bodyL,k1]
 have hl:leftL (connL p)=[UInt8.ofNat p.level.toNat,UInt8.ofNat (cflagsP p).toNat]++(pairL p.keep++lumpsL p):=(got_text mqtt _ (by decide)).2
 have hx:parR (headP p) (connL p)=conR (headP p) (connL p):=by simp only [parR,hd_no3 p f k3,k1];simp
 rw [hb,hx]
 unfold conR
 simp only [hl,hd_kind p f]
 simp only [List.cons_append,List.nil_append,List.take_succ_cons,List.take_zero,List.drop_succ_cons,List.drop_zero,drop_pair,num_take2 _ _ e0 e1,num_one _ l0 l1,num_one _ c0 c1,b1,b2,b3,b4,b5,b6]
 conv=>rhs;rw [h1]
 simp only [wrP,k1]
 unfold lumpsL
 have A1:=fun r=>(got_text p.cli r t1).1
 have A2:=fun r=>(got_text p.cli r t1).2
 have A3:=fun r=>(got_text p.wtop r t2).1
 have A4:=fun r=>(got_text p.wtop r t2).2
 have A5:=fun r=>(got_lump p.wpay r t3).1
 have A6:=fun r=>(got_lump p.wpay r t3).2
 have A7:=fun r=>(got_text p.user r t4).1
 have A8:=fun r=>(got_text p.user r t4).2
 have A9:=fun r=>(got_lump p.pass r t5).1
 have B1:=A1 []
 have B5:=A5 []
 have B7:=A7 []
 have B9:=A9 []
 rw [List.append_nil] at B1 B5 B7 B9
 clear h1 h2 h3 hl hx hb f b1 b2 b3 b4 b5 b6 k1 k3
 rcases w1:p.hw with _ | _ <;> rcases w2:p.hu with _ | _ <;> rcases w3:p.hp with _ | _
 all_goals
  clear w1 w2 w3
  simp [*]
def RdAt (w:World) (B r:Nat) (ad:Addr) (c:Nat) (l:List UInt8):Prop :=
 w.heap[r]? = some (.cells #[.slice (some ad) l.length c] 112)∧BytesAt w B (.slice (some ad) l.length c) l∧B≤r
structure RdTo (r:Nat) (w w':World):Prop where
 below:Below r w w'
 above:∀b,r<b→b<w.heap.size→w'.heap[b]? = w.heap[b]?
theorem RdTo.refl (r:Nat)(w:World):RdTo r w w:=⟨Below.refl _ _,fun _ _ _=>rfl⟩
theorem RdTo.trans {r:Nat}{a b c:World}(h:RdTo r a b)(k:RdTo r b c):RdTo r a c :=
 ⟨h.below.trans k.below,fun i h1 h2=>(k.above i h1 (Nat.lt_of_lt_of_le h2 h.below.size)).trans (h.above i h1 h2)⟩
theorem RdTo.drew (r:Nat)(w:World)(n:Nat):RdTo r w (w.drewN n):=⟨dwN (Below.refl _ _) n,fun _ _ _=>rfl⟩
theorem RdTo.alloc {r:Nat}{w w':World}(h:RdTo r w w')(hr:r<w.heap.size)(o:Obj):RdTo r w (w'.alloc o) :=
 ⟨h.below.alloc (by have:=h.below.size;omega) o,fun b h1 h2=>by
  have hs:=h.below.size
  rw [←h.above b h1 h2]
  show (w'.heap.push o)[b]? = _
  rw [Array.getElem?_push,if_neg (by omega)]⟩
theorem RdTo.set (r:Nat)(w:World)(v:Value):RdTo r w (w.setCell ⟨r,0,none⟩ v) :=
 ⟨(Below.refl r w).setCell (p:=⟨r,0,none⟩) (Nat.le_refl r) v,fun b h1 h2=>Below.heap_setCell w ⟨r,0,none⟩ v b (by show b≠r;omega)⟩
theorem RdAt.keep {w w':World}{B r:Nat}{ad:Addr}{c:Nat}{l:List UInt8}(h:RdAt w B r ad c l)(hb:Below (r+1) w w'):RdAt w' B r ad c l :=
 ⟨by rw [hb.block r (by omega)];exact h.1,h.2.1.below (hb.mono (by have:=h.2.2;omega)),h.2.2⟩
theorem RdAt.other {w w':World}{B r:Nat}{ad:Addr}{c:Nat}{l:List UInt8}(h:RdAt w B r ad c l)(hb:Below B w w')(hr:w'.heap[r]? = w.heap[r]?):RdAt w' B r ad c l :=
 ⟨by rw [hr];exact h.1,h.2.1.below hb,h.2.2⟩
theorem RdAt.cell {w:World}{B r:Nat}{ad:Addr}{c:Nat}{l:List UInt8}(h:RdAt w B r ad c l):w.cell? ⟨r,0,none⟩=some (.slice (some ad) l.length c):=by simp [World.cell?,h.1]
theorem RdAt.frozen {w:World}{B r:Nat}{ad:Addr}{c:Nat}{l:List UInt8}(h:RdAt w B r ad c l):w.frozen? ⟨r,0,none⟩=false:=by simp [World.frozen?,h.1]
theorem RdAt.lt {w:World}{B r:Nat}{ad:Addr}{c:Nat}{l:List UInt8}(h:RdAt w B r ad c l):r<w.heap.size:=(Array.getElem?_eq_some_iff.1 h.1).1
theorem RdAt.le {w:World}{B r:Nat}{ad:Addr}{c:Nat}{l:List UInt8}(h:RdAt w B r ad c l):l.length≤c∧c≤maxLen:=by
 obtain ⟨A,c',hv,hc,hm,_⟩:=h.2.1
 injection hv with v1 v2 v3
 subst v3
 exact ⟨hc,hm⟩
theorem BytesAt.tk {w:World}{B:Nat}{A:Option Addr}{n c:Nat}{l:List UInt8}(h:BytesAt w B (.slice A n c) l)(i:Nat)(hi:i≤l.length):BytesAt w B (.slice A i c) (l.take i):=by
 obtain ⟨A',c',hv,hc,hm,hn,hB,hx⟩:=h
 injection hv with v1 v2 v3
 subst v1 v3
 have hlen:(l.take i).length=i:=by rw [List.length_take];omega
 refine ⟨A,c,by rw [hlen],by omega,hm,fun e=>by rw [hn e];simp,fun ad had hne=>hB ad had (fun e=>hne (by rw [e];simp)),fun ad had j x hj=>hx ad had j x ?_⟩
 rw [List.getElem?_take] at hj
 split at hj
 ·exact hj
 ·cases hj
theorem BytesAt.drop {w:World}{B:Nat}{ad:Addr}{n c:Nat}{l:List UInt8}(h:BytesAt w B (.slice (some ad) n c) l)(i:Nat)(hi:i≤l.length):BytesAt w B (.slice (some (ad.add i)) (l.length - i) (c - i)) (l.drop i):=by
 obtain ⟨A',c',hv,hc,hm,hn,hB,hx⟩:=h
 injection hv with v1 v2 v3
 subst v1 v3
 refine ⟨some (ad.add i),c - i,by rw [List.length_drop],by rw [List.length_drop];omega,by omega,(by intro e;cases e),fun a ha hne=>?_,fun a ha j x hj=>?_⟩
 ·injection ha with ha;subst ha
  rw [add_block]
  exact hB ad rfl (fun e=>hne (by rw [e];simp))
 ·injection ha with ha;subst ha
  rw [Addr.add_add]
  rw [List.getElem?_drop] at hj
  exact hx ad rfl (i+j) x hj
theorem BytesAt.void (w:World)(B:Nat)(ad:Addr)(c:Nat)(hc:c≤maxLen):BytesAt w B (.slice (some ad) 0 c) [] :=
 ⟨some ad,c,rfl,Nat.zero_le _,hc,(by intro e;cases e),fun _ _ h=>absurd rfl h,fun _ _ j x h=>by simp at h⟩
theorem take_any (B r:Nat)(ad:Addr)(c n:Nat)(l:List UInt8)(w:World)(h:RdAt w B r ad c l)(hn:n≤maxLen) :
  Calls Try.prog 101 #[.pointer (some ⟨r,0,none⟩),.int .i64 n] w fun e w'=>e=.returned (.slice (some ad) (l.take n).length c) ∧
   (∃ad' c',RdAt w' B r ad' c' (l.drop n))∧BytesAt w' B (.slice (some ad) (l.take n).length c) (l.take n)∧RdTo r w w':=by
 obtain ⟨hc,hm⟩:=h.le
 have hcell:=h.cell
 have hfr:=h.frozen
 have H:=Lib.hid h
 clear h
 have key:∀(ad':Addr) (c':Nat),BytesAt w B (.slice (some ad') (l.length - n) c') (l.drop n)→RdAt (w.setCell ⟨r,0,none⟩ (.slice (some ad') (l.length - n) c')) B r ad' c' (l.drop n) ∧
   BytesAt (w.setCell ⟨r,0,none⟩ (.slice (some ad') (l.length - n) c')) B (.slice (some ad) (l.take n).length c) (l.take n)∧RdTo r w (w.setCell ⟨r,0,none⟩ (.slice (some ad') (l.length - n) c')):=fun ad' c' hb=>by
  have t:=RdTo.set r w (.slice (some ad') (l.length - n) c')
  refine ⟨⟨?_,?_,H.out.2.2⟩,?_,t⟩
  ·rw [List.length_drop];exact one_setCell H.out.1
  ·rw [List.length_drop];exact hb.below (t.below.mono H.out.2.2)
  ·have q:=BytesAt.tk H.out.2.1 (min n l.length) (Nat.min_le_right _ _)
   have e:l.take (min n l.length)=l.take n:=by
    by_cases hl:n≤l.length
    ·rw [Nat.min_eq_left hl]
    ·rw [Nat.min_eq_right (by omega),List.take_of_length_le (Nat.le_refl _),List.take_of_length_le (by omega)]
   rw [e] at q
   rw [List.length_take]
   exact q.below (t.below.mono H.out.2.2)
 have KEY:=Lib.hid key
 clear key
 generalize hL:l.length=L at *
 have HL:=Lib.hid hL
 clear hL
 unfold maxLen at hm hn
 by_cases hl:n≤L
 ·by_cases hcn:c=n
  ·have e0:L - n=0:=by omega
   go_enter Try.func101,Try.ntmps101
   go_wp2
   go_ret
   have k:=KEY.out ad 0 (by rw [e0,List.drop_eq_nil_of_le (by rw [HL.out];omega)];exact BytesAt.void w B ad 0 (by decide))
   rw [e0] at k
   refine ⟨?_,⟨ad,0,k.1⟩,k.2.1,k.2.2⟩
   show Ending.returned (Value.slice (some ad) n n)=_
   rw [List.length_take,HL.out,Nat.min_eq_left hl,hcn]
  ·go_enter Try.func101,Try.ntmps101
   go_wp2
   go_ret
   have k:=KEY.out (ad.add n) (c - n) (by have q:=BytesAt.drop H.out.2.1 n (by rw [HL.out];exact hl);rw [HL.out] at q;exact q)
   refine ⟨?_,⟨ad.add n,c - n,k.1⟩,k.2.1,k.2.2⟩
   show Ending.returned (Value.slice (some ad) n c)=_
   rw [List.length_take,HL.out,Nat.min_eq_left hl]
 ·have e0:L - n=0:=by omega
  by_cases hcn:c=L
  ·go_enter Try.func101,Try.ntmps101
   go_wp2
   go_ret
   have k:=KEY.out ad 0 (by rw [e0,List.drop_eq_nil_of_le (by rw [HL.out];omega)];exact BytesAt.void w B ad 0 (by decide))
   rw [e0] at k
   refine ⟨?_,⟨ad,0,k.1⟩,k.2.1,k.2.2⟩
   show Ending.returned (Value.slice (some ad) L L)=_
   rw [List.length_take,HL.out,Nat.min_eq_right (by omega),hcn]
  ·go_enter Try.func101,Try.ntmps101
   go_wp2
   go_ret
   have k:=KEY.out (ad.add L) (c - L) (by rw [e0,List.drop_eq_nil_of_le (by rw [HL.out];omega)];exact BytesAt.void w B (ad.add L) (c - L) (by unfold maxLen;omega))
   rw [e0] at k
   refine ⟨?_,⟨ad.add L,c - L,k.1⟩,k.2.1,k.2.2⟩
   show Ending.returned (Value.slice (some ad) L c)=_
   rw [List.length_take,HL.out,Nat.min_eq_right (by omega)]
theorem cell_zero {w:World}{B:Nat}{ad:Addr}{n c:Nat}{x:UInt8}{l:List UInt8}(h:BytesAt w B (.slice (some ad) n c) (x :: l)):w.cell? ad=some (.int .u8 (x.toNat:Int)):=by
 obtain ⟨A',c',hv,hc,hm,hn,hB,hx⟩:=h
 injection hv with v1 v2 v3
 subst v1
 have:=hx ad rfl 0 x (by simp)
 simpa [Addr.add] using this
theorem cell_one {w:World}{B:Nat}{ad:Addr}{n c:Nat}{x y:UInt8}{l:List UInt8}(h:BytesAt w B (.slice (some ad) n c) (x :: y :: l)):w.cell? ⟨ad.block,ad.off+1,none⟩=some (.int .u8 (y.toNat:Int)):=by
 obtain ⟨A',c',hv,hc,hm,hn,hB,hx⟩:=h
 injection hv with v1 v2 v3
 subst v1
 have:=hx ad rfl 1 y (by simp)
 simpa [Addr.add] using this
theorem or_zero (x:UInt8):bits .or .i64 0 (x.toNat:Int)=(x.toNat:Int):=by
 have key:∀y:Fin 256,bits .or .i64 0 (y.val:Int)=(y.val:Int):=by decide +kernel
 exact key ⟨x.toNat,x.toNat_lt⟩
theorem wrap_sm (n:Int)(h:-9223372036854775808≤n)(h1:n≤9223372036854775807):wrap64 n=n:=by
 unfold wrap64
 omega
theorem or_hi (x y:UInt8):bits .or .i64 ((x.toNat:Int)*256) (y.toNat:Int)=(x.toNat:Int)*256+(y.toNat:Int):=by
 have h1:=x.toNat_lt
 have h2:=y.toNat_lt
 generalize x.toNat=a at *
 generalize y.toNat=b at *
 show IntKind.i64.wrap ((BitVec.ofInt 64 ((a:Int)*256) ||| BitVec.ofInt 64 (b:Int)).toNat:Int)=_
 rw [show (a:Int)*256=((a*256:Nat):Int) by omega]
 have e1:(BitVec.ofInt 64 ((a*256:Nat):Int)).toNat=a*256:=by rw [BitVec.ofInt_natCast,BitVec.toNat_ofNat];exact Nat.mod_eq_of_lt (by omega)
 have e2:(BitVec.ofInt 64 (b:Int)).toNat=b:=by rw [BitVec.ofInt_natCast,BitVec.toNat_ofNat];exact Nat.mod_eq_of_lt (by omega)
 have e3:a*256 ||| b=a*256+b:=by
  have:=Nat.two_pow_add_eq_or_of_lt (i:=8) (b:=b) (by omega) a
  rw [Nat.mul_comm a 256]
  exact this.symm
 rw [BitVec.toNat_or,e1,e2,e3,IntKind.wrap_i64]
 omega
theorem number_any (B r:Nat)(ad:Addr)(c k:Nat)(l:List UInt8)(w:World)(h:RdAt w B r ad c l)(hk:k≤2) :
  Calls Try.prog 86 #[.pointer (some ⟨r,0,none⟩),.int .i64 k] w fun e w'=>e=.returned (.int .i64 (numL (l.take k)))∧(∃ad' c',RdAt w' B r ad' c' (l.drop k))∧RdTo r w w':=by
 have H:=Lib.hid (take_any B r ad c k l w h (by unfold maxLen;omega))
 have hlen:(l.take k).length≤2:=by rw [List.length_take];omega
 have hlt:=h.lt
 clear h
 generalize hT:l.take k=T at *
 rcases T with _ | ⟨x,_ | ⟨y,_ | _⟩⟩
 ·clear hT
  go_enter Try.func86,Try.ntmps86
  go_wp2_with fail
  refine H.out.mono ?_
  rintro e w1 ⟨rfl,h1,hb,ht⟩
  have H1:=Lib.hid h1
  have HT:=Lib.hid ht
  clear hb h1 ht H
  go_wp2_with fail
  refine wp_loop_rounds 1 ?_
  rw [rounds_succ]
  go_wp2
  go_ret
  exact ⟨rfl,H1.out,HT.out⟩
 ·clear hT
  go_enter Try.func86,Try.ntmps86
  go_wp2_with fail
  refine H.out.mono ?_
  rintro e w1 ⟨rfl,h1,hb,ht⟩
  have H1:=Lib.hid h1
  have HT:=Lib.hid ht
  have z0:=cell_zero hb
  have bx:x.toNat≤255:=by have:=x.toNat_lt;omega
  clear hb h1 ht H
  go_wp2_with fail
  refine wp_loop_rounds 2 ?_
  rw [rounds_succ]
  go_wp2
  simp only [or_zero]
  rw [rounds_succ]
  go_wp2
  go_ret
  refine ⟨?_,H1.out,HT.out⟩
  show Ending.returned (Value.int .i64 (x.toNat:Int))=_
  unfold numL
  simp
 ·clear hT
  go_enter Try.func86,Try.ntmps86
  go_wp2_with fail
  refine H.out.mono ?_
  rintro e w1 ⟨rfl,h1,hb,ht⟩
  have H1:=Lib.hid h1
  have HT:=Lib.hid ht
  have z0:=cell_zero hb
  have z1:=cell_one hb
  have bx:x.toNat≤255:=by have:=x.toNat_lt;omega
  have by':y.toNat≤255:=by have:=y.toNat_lt;omega
  clear hb h1 ht H
  go_wp2_with fail
  refine wp_loop_rounds 3 ?_
  rw [rounds_succ]
  go_wp2
  rw [rounds_succ]
  go_wp2
  simp only [or_zero]
  rw [rounds_succ]
  go_wp2
  go_ret
  refine ⟨?_,H1.out,HT.out⟩
  show Ending.returned (Value.int .i64 (bits .or .i64 (wrap64 ((x.toNat:Int)*256)) (y.toNat:Int)))=_
  rw [wrap_sm _ (by omega) (by omega),or_hi]
  unfold numL
  simp
 ·simp at hlen
theorem num_bounds (l:List UInt8)(k:Nat)(hk:k≤2):0≤numL (l.take k)∧numL (l.take k)≤65535:=by
 have hlen:(l.take k).length≤2:=by rw [List.length_take];omega
 generalize l.take k=T at *
 rcases T with _ | ⟨x,_ | ⟨y,_ | _⟩⟩
 ·exact ⟨by decide,by decide⟩
 ·have:=x.toNat_lt;unfold numL;simp;omega
 ·have:=x.toNat_lt;have:=y.toNat_lt;unfold numL;simp;omega
 ·simp at hlen
theorem rtake_any (B r:Nat)(ad:Addr)(c:Nat)(x:Int)(l S R:List UInt8)(n:Nat)(w:World)(h:RdAt w B r ad c l)(h0:0≤x)(h1:x≤65535)(hS:l.take x.toNat=S)(hR:l.drop x.toNat=R)(hn:S.length=n) :
  Calls Try.prog 101 #[.pointer (some ⟨r,0,none⟩),.int .i64 x] w fun e w'=>e=.returned (.slice (some ad) n c) ∧
   (∃ad' c',RdAt w' B r ad' c' R)∧BytesAt w' B (.slice (some ad) n c) S∧RdTo r w w':=by
 have q:=take_any B r ad c x.toNat l w h (by unfold maxLen;omega)
 rw [Int.toNat_of_nonneg h0,hS,hR,hn] at q
 exact q
theorem text_any (B r:Nat)(ad:Addr)(c:Nat)(l:List UInt8)(w:World)(h:RdAt w B r ad c l) :
  Calls Try.prog 102 #[.pointer (some ⟨r,0,none⟩)] w fun e w'=>e=.returned (.string (bytesOfL (gotL l)))∧(∃ad' c',RdAt w' B r ad' c' (leftL l))∧RdTo r w w':=by
 have HN:=Lib.hid (number_any B r ad c 2 l w h (by omega))
 obtain ⟨b0,b1⟩:=num_bounds l 2 (by omega)
 obtain ⟨D,hD⟩:∃D,D=l.drop 2:=⟨_,rfl⟩
 obtain ⟨S,hS⟩:∃S,S=gotL l:=⟨_,rfl⟩
 obtain ⟨R,hR⟩:∃R,R=leftL l:=⟨_,rfl⟩
 obtain ⟨n,hn⟩:∃n,S.length=n:=⟨_,rfl⟩
 obtain ⟨x,hx⟩:∃x,x=numL (l.take 2):=⟨_,rfl⟩
 rw [←hS,←hR]
 rw [←hx,←hD] at HN
 rw [←hx] at b0 b1
 have e1:D.take x.toNat=S:=by rw [hD,hS,hx];rfl
 have e2:D.drop x.toNat=R:=by rw [hD,hR,hx];rfl
 have HT:=Lib.hid (fun ad1 c1 w1 (h1:RdAt w1 B r ad1 c1 D)=>rtake_any B r ad1 c1 x D S R n w1 h1 b0 b1 e1 e2 hn)
 clear b0 b1 h e1 e2 hD hS hR hn hx
 go_enter Try.func102,Try.ntmps102
 go_wp2_with fail
 refine HN.out.mono ?_
 rintro e w1 ⟨rfl,⟨ad1,c1,h1⟩,t1⟩
 have H1:=Lib.hid h1
 have T1:=Lib.hid t1
 clear h1 t1
 go_wp2_with fail
 refine (HT.out _ _ _ H1.out).mono ?_
 rintro e w2 ⟨rfl,h2,b2,t2⟩
 have cv:=b2.conv
 have H2:=Lib.hid h2
 have T2:=Lib.hid t2
 clear h2 b2 t2
 go_wp2
 go_ret
 exact ⟨rfl,H2.out,T1.out.trans T2.out⟩
theorem RdTo.more {r:Nat}{w w':World}(h:Below w.heap.size w w')(hr:r<w.heap.size):RdTo r w w' :=
 ⟨h.mono (by omega),fun b h1 h2=>h.block b h2⟩
theorem RdAt.more {B r:Nat}{w w':World}{ad:Addr}{c:Nat}{l:List UInt8}(h:RdAt w B r ad c l)(hb:Below w.heap.size w w'):RdAt w' B r ad c l:=h.keep (hb.mono (by have:=h.lt;omega))
theorem own_mono3 {w:World}{base base' n size:Nat}{E:TypeId}{v:Value}{xs:List Value}(h:w.ownsRow base E size v n xs)(hb:base'≤base):w.ownsRow base' E size v n xs:=by
 refine ⟨h.1,?_⟩
 rcases h.2 with q | ⟨g,cap,cur,h1,h2,h3⟩
 ·exact .inl q
 ·exact .inr ⟨g,cap,cur,h1,Nat.le_trans hb h2,h3⟩
theorem got_len (l:List UInt8):(gotL l).length≤65535:=by
 obtain ⟨h0,h1⟩:=num_bounds l 2 (by omega)
 unfold gotL lenL
 rw [List.length_take]
 omega
theorem lump_any (B r:Nat)(ad:Addr)(c:Nat)(l:List UInt8)(w:World)(h:RdAt w B r ad c l)(S:List UInt8)(n:Nat)(hS:S=gotL l)(hn:S.length=n) :
  Calls Try.prog 103 #[.pointer (some ⟨r,0,none⟩)] w fun e w'=>∃A' c',e=.returned (.slice A' n c')∧(w'.ownsRow w.heap.size 5 1 (.slice A' n c') n (Lib.byteCells S))∧(∃ad' c',RdAt w' B r ad' c' (leftL l))∧RdTo r w w':=by
 have HN:=Lib.hid (number_any B r ad c 2 l w h (by omega))
 have n1:n≤65535:=by rw [←hn,hS];exact got_len l
 have hlt:=h.lt
 obtain ⟨b0,b1⟩:=num_bounds l 2 (by omega)
 obtain ⟨D,hD⟩:∃D,D=l.drop 2:=⟨_,rfl⟩
 obtain ⟨R,hR⟩:∃R,R=leftL l:=⟨_,rfl⟩
 obtain ⟨x,hx⟩:∃x,x=numL (l.take 2):=⟨_,rfl⟩
 rw [←hR]
 rw [←hx,←hD] at HN
 rw [←hx] at b0 b1
 have e1:D.take x.toNat=S:=by rw [hD,hS,hx];rfl
 have e2:D.drop x.toNat=R:=by rw [hD,hR,hx];rfl
 have HT:=Lib.hid (fun ad1 c1 w1 (h1:RdAt w1 B r ad1 c1 D)=>rtake_any B r ad1 c1 x D S R n w1 h1 b0 b1 e1 e2 hn)
 have HC:=Lib.hid (fun ad1 c1 w1 (h1:BytesAt w1 B (.slice (some ad1) n c1) S)=>clone_bytes (some ad1) c1 n S B w1 h1 hn (by omega) (by intro e;cases e))
 clear b0 b1 h e1 e2 hD hS hR hn hx
 have HLT:=Lib.hid hlt
 clear hlt
 go_enter Try.func103,Try.ntmps103
 go_wp2_with fail
 refine HN.out.mono ?_
 rintro e w1 ⟨rfl,⟨ad1,c1,h1⟩,t1⟩
 have H1:=Lib.hid h1
 have T1:=Lib.hid t1
 clear h1 t1
 go_wp2_with fail
 refine (HT.out _ _ _ H1.out).mono ?_
 rintro e w2 ⟨rfl,h2,b2,t2⟩
 have H2:=Lib.hid h2
 have T2:=Lib.hid t2
 have B2:=Lib.hid b2
 clear h2 b2 t2
 go_wp2_with fail
 refine (HC.out _ _ _ B2.out).mono ?_
 rintro e w3 ⟨A3,c3,rfl,o3,b3⟩
 have O3:=Lib.hid o3
 have B3:=Lib.hid b3
 clear o3 b3
 go_wp2
 go_ret
 have s1:=T1.out.below.size
 have s2:=T2.out.below.size
 have s0:=HLT.out
 obtain ⟨ad2,c2,h2⟩:=H2.out
 refine ⟨A3,c3,rfl,?_,⟨ad2,c2,h2.more B3.out⟩,(T1.out.trans T2.out).trans (RdTo.more B3.out (by omega))⟩
 exact own_mono3 O3.out (by omega)
theorem codesR_take (l:List UInt8)(k:Nat)(h:k<l.length):intCells (codesR (l.take (k+1)))=intCells (codesR (l.take k))++[Value.int .i64 (l[k].toNat:Int)]:=by
 unfold codesR intCells;rw [List.take_succ_eq_append_getElem h,List.map_append,List.map_append];rfl
theorem Try.infoInt:(Try.prog.info? 3).map (fun i=>(i.zero,i.size,i.bytes))=some (some (.int .i64 0),1,8):=by kernel_rfl
theorem new_one (w:World)(v:Value)(E:TypeId)(j:Nat)(u:Value)(h:[v][j]? = some u):(w.alloc (.cells #[v] E)).cell? ((⟨w.heap.size,0,none⟩:Addr).add j)=some u:=by
 cases j with
 | zero =>
  have e:v=u:=by simpa using h
  subst e
  show (w.alloc (.cells #[v] E)).cell? ⟨w.heap.size,0,none⟩=some v
  rw [World.cell?_alloc_mark]
  rfl
 | succ j=>simp at h
theorem byte_at {w w':World}{r n c:Nat}{ad:Addr}{l:List UInt8}(h:BytesAt w r (.slice (some ad) n c) l)(hb:Below r w w')(k:Nat)(hk:k<l.length):w'.cell? (ad.add k)=some (.int .u8 (l[k].toNat:Int)):=by
 obtain ⟨A',c',hv,hc,hm,hn,hB,hx⟩:=h.below hb
 injection hv with v1 v2 v3
 exact hx ad v1.symm k _ (List.getElem?_eq_getElem hk)
theorem codes_any (B r:Nat)(ad:Addr)(c:Nat)(l:List UInt8)(w:World)(h:RdAt w B r ad c l)(n:Nat)(hn:l.length=n)(hm:n≤1000000000) :
  Calls Try.prog 89 #[.pointer (some ⟨r,0,none⟩)] w fun e w'=>∃A' c',e=.returned (.slice A' n c')∧(w'.ownsRow w.heap.size 3 1 (.slice A' n c') n (intCells (codesR l)))∧Below w.heap.size w w':=by
 have hcell:=h.cell
 have hfr:=h.frozen
 have hlt:=h.lt
 have HB:=Lib.hid (h.2.1.more h.2.2)
 rw [hn] at hcell HB
 have HN:=Lib.hid hn
 clear h hn
 go_enter Try.func89,Try.ntmps89
 go_wp2
 go_loopw [3,11] (fun b i wr=>∃(k:Nat) (A':Option Addr) (c':Nat),k≤n∧i=.int .i64 k∧b=.slice A' k c'∧wr.ownsRow w.heap.size 3 1 (.slice A' k c') k (intCells (codesR (l.take k)))∧Below w.heap.size w wr) (fun _ i _=>n - (intOf i).toNat)
 case atStart=>exact ⟨0,none,0,Nat.zero_le _,rfl,rfl,World.ownsRow_nil _ _ _ _,Below.refl _ _⟩
 case round =>
  obtain ⟨k,A',c',hk,rfl,rfl,ho,hb⟩:=hrel
  have hb1:w.heap.size≤wr.heap.size:=hb.size
  by_cases hlt2:k<n
  ·have hkl:k<l.length:=by rw [HN.out];exact hlt2
   have q1:=byte_at HB.out (hb.mono (by omega)) k hkl
   have hst:=Lib.hid (codesR_take l k hkl)
   have hx:=(l[k]).toNat_lt
   generalize (l[k]).toNat=x at *
   obtain ⟨i0,hi,hz0,hz1,hz2⟩:=info_parts Try.infoInt
   go_wp2_with (at_builtin;go_must (refine wpList_append_own_at _ rfl _ _ 26 rfl w.heap.size 3 i0 _ 1 8 Try.underlying26 hi hz0 hz1 hz2 rfl (by decide) _ k (intCells (codesR (l.take k))) (by rfl) (ho.alloc _) ⟨wr.heap.size,0,none⟩ 1 1 [.int .i64 (x:Int)] (by rfl) rfl (new_one wr _ _) (by simp;rfl) (by unfold maxLen;omega) (by omega) (by simp;omega) ?_))
   intro v' w' h2 h3 h4 h5
   rcases h2.2 with ⟨e,e0⟩ | ⟨g',cap',cur',hv',_,_⟩
   ·omega
   have hb':Below w.heap.size w w':=(hb.alloc hb1 _).grown h3 (by simp;omega) (fun g hg=>(ho.lt g hg).1)
   have H2:=Lib.hid h2
   have HB':=Lib.hid hb'
   clear h2 h3 h4 h5 hb'
   subst hv'
   go_wp2_with fail
   go_roundw
   case rel =>
    exact ⟨k+1,_,_,hlt2,by go_num,rfl,by rw [hst.out];exact H2.out,HB'.out⟩
   case measure=>simp [intOf];omega
  ·obtain rfl:k=n:=by omega
   rw [List.take_of_length_le (by rw [HN.out];exact Nat.le_refl _)] at ho
   go_wp2
   go_ret
   exact ⟨A',c',rfl,ho,hb⟩
def leftN (r:Nat) (w:World):Nat:=match w.cell? ⟨r,0,none⟩ with | some (.slice _ n _)=>n | _=>0
theorem leftN_at {w:World}{B r:Nat}{ad:Addr}{c:Nat}{l:List UInt8}(h:RdAt w B r ad c l):leftN r w=l.length:=by unfold leftN;rw [h.cell]
theorem Try.infoSub:(Try.prog.info? 70).map (fun i=>(i.zero,i.size,i.bytes))=some (some (.agg #[.string ByteArray.empty,.int .i64 0]),2,24):=by kernel_rfl
theorem own_to {w w':World}{base n size:Nat}{E:TypeId}{v:Value}{xs:List Value}(h:w.ownsRow base E size v n xs)(hk:∀g,base≤g→g<w.heap.size→w'.heap[g]? = w.heap[g]?):w'.ownsRow base E size v n xs:=by
 refine ⟨h.1,?_⟩
 rcases h.2 with q | ⟨g,cap,cur,h1,h2,h3,h4⟩
 ·exact .inl q
 ·exact .inr ⟨g,cap,cur,h1,h2,by rw [hk g h2 (Array.getElem?_eq_some_iff.1 h3).1];exact h3,h4⟩
theorem RdTo.andThen {r:Nat}{w w1 w':World}(h:RdTo r w w1)(hb:Below w.heap.size w1 w')(hr:r<w.heap.size):RdTo r w w' :=
 ⟨h.below.trans (hb.mono (by omega)),fun b h1 h2=>(hb.block b h2).trans (h.above b h1 h2)⟩
theorem new_two (w:World)(u v:Value)(E:TypeId)(bl:Nat)(hbl:w.heap.size=bl)(j:Nat)(x:Value)(h:[u,v][j]? = some x):(w.alloc (.cells #[u,v] E)).cell? ((⟨bl,0,none⟩:Addr).add j)=some x:=by
 subst hbl
 match j,h with
 | 0,h =>
  have e:u=x:=by simpa using h
  subst e
  show (w.alloc (.cells #[u,v] E)).cell? ⟨w.heap.size,0,none⟩=some u
  rw [World.cell?_alloc_mark]
  rfl
 | 1,h =>
  have e:v=x:=by simpa using h
  subst e
  show (w.alloc (.cells #[u,v] E)).cell? ⟨w.heap.size,1,none⟩=some v
  rw [World.cell?_alloc_mark]
  rfl
theorem subCells_snoc (l:List (ByteArray×Int))(x:ByteArray)(y:Int):subCells (l++[(x,y)])=subCells l++[.string x,.int .i64 y]:=by simp [subCells]
theorem subsR_some (q:Bool)(l:List UInt8)(h:l≠[]):subsR q l=(bytesOfL (gotL l),if q then numL ((leftL l).take 1) else 0) :: subsR q (if q then (leftL l).drop 1 else leftL l):=by
 conv=>lhs;rw [subsR]
 rw [dif_neg h]
theorem subsR_nil (q:Bool):subsR q []=[]:=by rw [subsR];simp
theorem subs_any (B r:Nat)(ad:Addr)(c:Nat)(l:List UInt8)(w:World)(h:RdAt w B r ad c l)(q:Bool)(hm:l.length≤1000000000) :
  Calls Try.prog 88 #[.pointer (some ⟨r,0,none⟩),.bool q] w fun e w'=>∃A' c' n,e=.returned (.slice A' n c')∧n=(subsR q l).length∧(w'.ownsRow w.heap.size 70 2 (.slice A' n c') n (subCells (subsR q l)))∧RdTo r w w':=by
 have H:=Lib.hid h
 have hlt:=h.lt
 clear h
 go_enter Try.func88,Try.ntmps88
 go_wp2
 go_loopw [5] (fun b wr=>∃(done:List (ByteArray×Int)) (n:Nat) (rest:List UInt8) (A':Option Addr) (c':Nat) (ad1:Addr) (c1:Nat),Hid (n=done.length)∧b=.slice A' n c'∧n+rest.length≤l.length∧Hid (subsR q l=done++subsR q rest)∧wr.ownsRow w.heap.size 70 2 (.slice A' n c') n (subCells done)∧Hid (RdAt wr B r ad1 c1 rest)∧Hid (RdTo r w wr)) (fun _ wr=>leftN r wr)
 case atStart=>exact ⟨[],0,l,none,0,ad,c,Lib.hid rfl,rfl,by omega,Lib.hid rfl,World.ownsRow_nil _ _ _ _,H,Lib.hid (RdTo.refl _ _)⟩
 case round =>
  obtain ⟨done,n,rest,A',c',ad1,c1,hn,rfl,hle,hL,ho,hR,hT⟩:=hrel
  have hcell:=hR.out.cell
  have hfr:=hR.out.frozen
  generalize hlen:rest.length=m at *
  have HM:=Lib.hid hlen
  clear hlen
  have hsz:w.heap.size≤wr.heap.size:=hT.out.below.size
  by_cases hm0:0<m
  ·have HX:=Lib.hid (text_any B r ad1 c1 rest wr hR.out)
   have hne:rest≠[]:=by intro e;have:=HM.out;rw [e] at this;simp at this;omega
   have hS:=subsR_some q rest hne
   have hlt2:=left_lt rest hne
   rw [HM.out] at hlt2
   have hdl:((leftL rest).drop 1).length≤(leftL rest).length:=by rw [List.length_drop];omega
   generalize bytesOfL (gotL rest)=x at *
   generalize leftL rest=R at *
   have HS:=Lib.hid hS
   have HL2:=Lib.hid (And.intro hlt2 hdl)
   clear hS hne hlt2 hdl
   obtain ⟨i0,hi,hz0,hz1,hz2⟩:=info_parts Try.infoSub
   go_wp2_with fail
   refine HX.out.mono ?_
   rintro e w1 ⟨rfl,⟨ad2,c2,h2⟩,t2⟩
   have ho1:w1.ownsRow w.heap.size 70 2 (.slice A' n c') n (subCells done):=own_to ho fun g hg1 hg2=>t2.above g (by omega) hg2
   have hsz1:w.heap.size≤w1.heap.size:=Nat.le_trans hsz t2.below.size
   have H2:=Lib.hid h2
   have T2:=Lib.hid t2
   clear h2 t2 HX hcell hfr
   cases q with
   | false =>
    go_wp2_with (at_builtin;go_must (refine wpList_append_own_at _ rfl _ _ 25 rfl w.heap.size 70 i0 _ 2 24 Try.underlying25 hi hz0 hz1 hz2 rfl (by decide) _ n (subCells done) (by rfl) ((ho1.alloc _).alloc _) ⟨w1.heap.size+1,0,none⟩ 1 1 [.string x,.int .i64 0] (by rfl) rfl (new_two _ _ _ _ _ (by simp)) (by simp;exact ⟨rfl,rfl⟩) (by unfold maxLen;omega) (by omega) (by simp;omega) ?_))
    intro v' w' h2 h3 h4 h5
    rcases h2.2 with ⟨e,e0⟩ | ⟨g',cap',cur',hv',_,_⟩
    ·omega
    have hb':Below w.heap.size w1 w':=(((Below.refl _ _).alloc hsz1 _).alloc (by simp;omega) _).grown h3 (by simp;omega) (fun g hg=>(ho1.lt g hg).1)
    have H3:=Lib.hid h2
    have HB':=Lib.hid hb'
    clear h2 h3 h4 h5 hb'
    subst hv'
    have hR':=H2.out.keep (HB'.out.mono (by omega))
    have m1:=leftN_at hR.out
    have m2:=leftN_at hR'
    have HR':=Lib.hid hR'
    have HM1:=Lib.hid (And.intro m1 m2)
    clear hR' m1 m2
    go_wp2_with fail
    go_roundw
    case rel =>
     refine ⟨done++[(x,0)],n+1,R,_,_,ad2,c2,Lib.hid (by rw [List.length_append,hn.out];rfl),rfl,by have:=HL2.out.1;omega,Lib.hid ?_,by rw [subCells_snoc];exact H3.out,HR',Lib.hid ((hT.out.trans T2.out).andThen HB'.out (by omega))⟩
     rw [hL.out,HS.out];simp
    case measure=>rw [HM1.out.1,HM1.out.2,HM.out];exact HL2.out.1
   | true =>
    have HN:=Lib.hid (number_any B r ad2 c2 1 R (w1.alloc (.cells #[.string x,.int .i64 0] 70)) (H2.out.more ((Below.refl _ _).alloc (Nat.le_refl _) _)) (by omega))
    generalize numL (R.take 1)=y at *
    go_wp2_with fail
    refine HN.out.mono ?_
    rintro e w2 ⟨rfl,⟨ad3,c3,h3⟩,t3⟩
    have hrow:w2.heap[w1.heap.size]? = some (.cells #[.string x,.int .i64 0] 70):=by rw [t3.above _ (by omega) (by simp)];exact heap_alloc_last w1 _
    have q0:w2.cell? ⟨w1.heap.size,0,none⟩=some (.string x):=by simp [World.cell?,hrow]
    have q1:w2.cell? ⟨w1.heap.size,1,none⟩=some (.int .i64 0):=by simp [World.cell?,hrow]
    have f0:w2.frozen? ⟨w1.heap.size,0,none⟩=false:=by simp [World.frozen?,hrow]
    have f1:w2.frozen? ⟨w1.heap.size,1,none⟩=false:=by simp [World.frozen?,hrow]
    have hsz2:w.heap.size≤w2.heap.size:=by have:=t3.below.size;simp at this;omega
    have ho2:(w2.setCell ⟨w1.heap.size,1,none⟩ (.int .i64 y)).ownsRow w.heap.size 70 2 (.slice A' n c') n (subCells done):=own_to ho1 fun g hg1 hg2=>by
     rw [Below.heap_setCell _ _ _ _ (by simp;omega),t3.above g (by omega) (by simp;omega)]
     exact ((Below.refl w1.heap.size w1).alloc (Nat.le_refl _) _).block g hg2
    have H3:=Lib.hid h3
    have T3:=Lib.hid t3
    clear h3 t3 HN hrow
    go_wp2_with (at_builtin;go_must (refine wpList_append_own_at _ rfl _ _ 25 rfl w.heap.size 70 i0 _ 2 24 Try.underlying25 hi hz0 hz1 hz2 rfl (by decide) _ n (subCells done) (by rfl) (ho2.alloc _) ⟨w2.heap.size,0,none⟩ 1 1 [.string x,.int .i64 y] (by rfl) rfl (new_two _ _ _ _ _ (by simp)) (by simp;exact ⟨rfl,rfl⟩) (by unfold maxLen;omega) (by omega) (by simp;omega) ?_))
    intro v' w' h2 h3 h4 h5
    rcases h2.2 with ⟨e,e0⟩ | ⟨g',cap',cur',hv',_,_⟩
    ·omega
    have hb':Below w.heap.size w2 w':=(((Below.refl _ _).setCell (p:=⟨w1.heap.size,1,none⟩) hsz1 _).alloc (by simp;omega) _).grown h3 (by simp;omega) (fun g hg=>(ho1.lt g hg).1)
    have H4:=Lib.hid h2
    have HB':=Lib.hid hb'
    clear h2 h3 h4 h5 hb' q0 q1 f0 f1
    subst hv'
    have hR':=H3.out.keep (HB'.out.mono (by omega))
    have m1:=leftN_at hR.out
    have m2:=leftN_at hR'
    have HR':=Lib.hid hR'
    have HM1:=Lib.hid (And.intro m1 m2)
    clear hR' m1 m2
    go_wp2_with fail
    go_roundw
    case rel =>
     refine ⟨done++[(x,y)],n+1,R.drop 1,_,_,ad3,c3,Lib.hid (by rw [List.length_append,hn.out];rfl),rfl,by have:=HL2.out;omega,Lib.hid ?_,by rw [subCells_snoc];exact H4.out,HR',Lib.hid ((((hT.out.trans T2.out).alloc (by omega) _).trans T3.out).andThen HB'.out (by omega))⟩
     rw [hL.out,HS.out];simp
    case measure=>rw [HM1.out.1,HM1.out.2,HM.out];have:=HL2.out;omega
  ·have e0:rest=[]:=List.eq_nil_of_length_eq_zero (by have:=HM.out;omega)
   have e1:subsR q l=done:=by rw [hL.out,e0,subsR_nil,List.append_nil]
   have E1:=Lib.hid e1
   clear e0 e1
   go_wp2_with fail
   go_ret
   exact ⟨A',c',n,rfl,by rw [E1.out];exact hn.out,by rw [E1.out];exact ho,hT.out⟩
theorem put_row {W:World}{b:Nat}{p p':Pk}{s s':Sv}(i:Nat)(v:Value)(h:W.heap[b]? = some (.cells (pkC p s) 28))(e:(pkC p s).setIfInBounds i v=pkC p' s') :
  (W.setCell ⟨b,i,none⟩ v).heap[b]? = some (.cells (pkC p' s') 28):=by
 rw [←e];exact heap_setCell_same W b i _ _ v h
theorem RdAt.put {w:World}{B b r i:Nat}{ad:Addr}{c:Nat}{l:List UInt8}(h:RdAt w B r ad c l)(hB:B≤b)(hb:b<r)(v:Value):RdAt (w.setCell ⟨b,i,none⟩ v) B r ad c l :=
 h.other ((Below.refl B w).setCell (p:=⟨b,i,none⟩) hB v) (Below.heap_setCell _ _ _ _ (by show r≠b;omega))
theorem pub_any (B b r:Nat)(ad:Addr)(c:Nat)(l:List UInt8)(p:Pk)(s:Sv)(w:World)(h:RdAt w B r ad c l)(hb:b<r)(hB:B≤b)(hp:w.heap[b]? = some (.cells (pkC p s) 28))(hm:l.length≤1000000000) :
  Calls Try.prog 87 #[.pointer (some ⟨r,0,none⟩),.pointer (some ⟨b,0,none⟩)] w fun e w'=>∃A' c',e=.returned (.tuple #[]) ∧
   w'.heap[b]? = some (.cells (pkC {p with top:=bytesOfL (gotL l),id:=if p.qos==0 then p.id else numL ((leftL l).take 2),pay:=if p.qos==0 then leftL l else (leftL l).drop 2} {s with pA:=A',pC:=c'}) 28) ∧
   w'.ownsRow w.heap.size 5 1 (.slice A' (if p.qos==0 then leftL l else (leftL l).drop 2).length c') (if p.qos==0 then leftL l else (leftL l).drop 2).length (Lib.byteCells (if p.qos==0 then leftL l else (leftL l).drop 2))∧Below b w w':=by
 have HX:=Lib.hid (text_any B r ad c l w h)
 have hlt:=h.lt
 have hRl:(leftL l).length≤l.length:=by unfold leftL;simp only [List.length_drop];omega
 generalize bytesOfL (gotL l)=x at *
 generalize leftL l=R at *
 have HRL:=Lib.hid hRl
 clear h hRl
 have hne:r≠b:=by omega
 rcases kq:p.qos==0
 ·have HN:=fun (w1:World) ad1 c1 (h1:RdAt w1 B r ad1 c1 R)=>number_any B r ad1 c1 2 R w1 h1 (by omega)
  generalize numL (R.take 2)=y at *
  obtain ⟨S,hS⟩:∃S,S=R.drop 2:=⟨_,rfl⟩
  have hSl:S.length≤1000000000:=by rw [hS,List.length_drop];have:=HRL.out;omega
  simp only [Bool.false_eq_true,if_false]
  rw [←hS]
  rw [←hS] at HN
  obtain ⟨n,hn⟩:∃n,S.length=n:=⟨_,rfl⟩
  rw [hn]
  rw [hn] at hSl
  have HSN:=Lib.hid (And.intro hn hSl)
  have HN':=Lib.hid HN
  clear HN hS hn hSl
  go_enter Try.func87,Try.ntmps87
  go_wp2_with fail
  refine HX.out.mono ?_
  rintro e w1 ⟨rfl,⟨ad1,c1,h1⟩,t1⟩
  have row1:w1.heap[b]? = some (.cells (pkC p s) 28):=by rw [t1.below.block b hb];exact hp
  have rc:=row_cells row1
  have rf:=fun k=>frozen_of_row w1 b k _ _ row1
  have H1:=Lib.hid h1
  have T1:=Lib.hid t1
  have ROW1:=Lib.hid row1
  clear h1 t1 row1 HX hp
  go_wp2_with fail
  refine (HN'.out _ _ _ (H1.out.put hB hb _)).mono ?_
  rintro e w2 ⟨rfl,⟨ad2,c2,h2⟩,t2⟩
  have row2:w2.heap[b]? = some (.cells (pkC {p with top:=x} s) 28):=by rw [t2.below.block b hb];exact put_row 5 (.string x) ROW1.out rfl
  have rc2:=row_cells row2
  have rf2:=fun k=>frozen_of_row w2 b k _ _ row2
  have hc2:=h2.cell
  have hf2:=h2.frozen
  rw [HSN.out.1] at hc2
  have H2:=Lib.hid h2
  have T2:=Lib.hid t2
  have ROW2:=Lib.hid row2
  clear h2 t2 row2 HN' rc rf
  go_wp2_with fail
  have P2:=(H2.out.put hB hb (i:=4) (.int .i64 y)).2.1
  rw [HSN.out.1] at P2
  refine (clone_bytes (some ad2) c2 n S B _ P2 HSN.out.1 HSN.out.2 (by intro e;cases e)).mono ?_
  clear P2 hc2 hf2 rc2 rf2
  rintro e w3 ⟨A3,c3,rfl,o3,b3⟩
  have sz1:=T1.out.below.size
  have sz2:=T2.out.below.size
  simp at sz2
  have row3:w3.heap[b]? = some (.cells (pkC {p with top:=x,id:=y} s) 28):=by rw [b3.block b (by simp;omega)];exact put_row 4 (.int .i64 y) ROW2.out rfl
  have rc3:=row_cells row3
  have rf3:=fun k=>frozen_of_row w3 b k _ _ row3
  have ROW3:=Lib.hid row3
  have BL:Hid (Below b w (w3.setCell ⟨b,6,none⟩ (.slice A3 n c3))):=Lib.hid ((((((T1.out.below.mono (Nat.le_of_lt hb)).setCell (p:=⟨b,5,none⟩) (Nat.le_refl b) (.string x)).trans (T2.out.below.mono (Nat.le_of_lt hb))).setCell (p:=⟨b,4,none⟩) (Nat.le_refl b) (.int .i64 y)).trans (b3.mono (by simp;omega))).setCell (p:=⟨b,6,none⟩) (Nat.le_refl b) (.slice A3 n c3))
  have O3:=Lib.hid o3
  clear row3 b3 o3
  go_wp2_with fail
  (try simp only [Exit.inBlock,Exit.then]);first | refine bodyPost_end (results_none rfl _ _ _) rfl ?_ | refine bodyPost_ret (results_none rfl _ _ _) rfl ?_
  refine ⟨A3,c3,rfl,put_row 6 (.slice A3 n c3) ROW3.out (by rw [←HSN.out.1];rfl),?_,BL.out⟩
  have O4:=own_mono3 O3.out (base':=w.heap.size) (by simp;omega)
  exact own_to O4 fun g hg1 hg2=>Below.heap_setCell _ _ _ _ (by show g≠b;omega)
 ·obtain ⟨S,hS⟩:∃S,S=R:=⟨_,rfl⟩
  have hSl:S.length≤1000000000:=by rw [hS];have:=HRL.out;omega
  simp only [if_true]
  subst hS
  obtain ⟨n,hn⟩:∃n,S.length=n:=⟨_,rfl⟩
  rw [hn]
  rw [hn] at hSl
  have HSN:=Lib.hid (And.intro hn hSl)
  clear hn hSl HRL
  go_enter Try.func87,Try.ntmps87
  go_wp2_with fail
  refine HX.out.mono ?_
  rintro e w1 ⟨rfl,⟨ad1,c1,h1⟩,t1⟩
  have row1:w1.heap[b]? = some (.cells (pkC p s) 28):=by rw [t1.below.block b hb];exact hp
  have rc1:=row_cells row1
  have rf1:=fun k=>frozen_of_row w1 b k _ _ row1
  have hc1:=h1.cell
  have hf1:=h1.frozen
  rw [HSN.out.1] at hc1
  have H1:=Lib.hid h1
  have T1:=Lib.hid t1
  have ROW1:=Lib.hid row1
  clear h1 t1 row1 HX hp
  go_wp2_with fail
  have P2:=(H1.out.put hB hb (i:=5) (.string x)).2.1
  rw [HSN.out.1] at P2
  refine (clone_bytes (some ad1) c1 n S B _ P2 HSN.out.1 HSN.out.2 (by intro e;cases e)).mono ?_
  clear P2 hc1 hf1 rc1 rf1
  rintro e w3 ⟨A3,c3,rfl,o3,b3⟩
  have sz1:=T1.out.below.size
  have row3:w3.heap[b]? = some (.cells (pkC {p with top:=x} s) 28):=by rw [b3.block b (by simp;omega)];exact put_row 5 (.string x) ROW1.out rfl
  have rc3:=row_cells row3
  have rf3:=fun k=>frozen_of_row w3 b k _ _ row3
  have ROW3:=Lib.hid row3
  have BL:Hid (Below b w (w3.setCell ⟨b,6,none⟩ (.slice A3 n c3))):=Lib.hid ((((T1.out.below.mono (Nat.le_of_lt hb)).setCell (p:=⟨b,5,none⟩) (Nat.le_refl b) (.string x)).trans (b3.mono (by simp;omega))).setCell (p:=⟨b,6,none⟩) (Nat.le_refl b) (.slice A3 n c3))
  have O3:=Lib.hid o3
  clear row3 b3 o3
  go_wp2_with fail
  (try simp only [Exit.inBlock,Exit.then]);first | refine bodyPost_end (results_none rfl _ _ _) rfl ?_ | refine bodyPost_ret (results_none rfl _ _ _) rfl ?_
  refine ⟨A3,c3,rfl,put_row 6 (.slice A3 n c3) ROW3.out (by rw [←HSN.out.1];rfl),?_,BL.out⟩
  have O4:=own_mono3 O3.out (base':=w.heap.size) (by simp;omega)
  exact own_to O4 fun g hg1 hg2=>Below.heap_setCell _ _ _ _ (by show g≠b;omega)
theorem stLst {ops:Array Oper} {rest:List Oper} {Q:Exit→Act→World→Prop} {a:Act} {W:World} {x y:Operand} {ty:TypeId} {ps:String} {af:Array Edge}
  (g:Nat) (hg:W.heap.size=g) (old cs:Array Value) (hx:a.eval x=.pointer (some ⟨g,0,none⟩)) (hy:a.eval y=.agg cs) (ho:old.size=24) (hc:cs.size=24) (h1:cs.toList.all (·.oneCell')=true)
  (h:wpList Try.prog ops Q rest a (W.alloc (.cells cs 28))) :
  wpList Try.prog ops Q (⟨none,.store 28 x y,ty,ps,af,none⟩ :: rest) a (W.alloc (.cells old 28)):=by
 subst hg
 refine wpList_store_rowTo rfl 28 x y rfl rfl _ cs hx hy 28 old ?_ (by rw [hc];exact pk_sz) (by rw [ho,hc]) (by rw [←Array.all_toList];exact h1) ?_
 ·exact heap_alloc_last _ _
 ·rw [World.setRow_alloc_new];exact h
theorem pkc_one (p:Pk)(s:Sv):(pkC p s).toList.all (·.oneCell')=true:=rfl
theorem hd_bits:∀y:Fin 256,(bits .and .i64 (y.val:Int) 8 != 0)=((y.val:Int) / 8%2==1)∧(bits .and .i64 (y.val:Int) 1 != 0)=((y.val:Int)%2==1)∧bits .and .i64 ((y.val:Int) / 2) 3=(y.val:Int) / 2%4:=by decide +kernel
theorem headOf_any (c:Int)(h0:0≤c)(h1:c≤255)(w:World) :
  Calls Try.prog 84 #[.int .u8 c] w fun e w'=>e=.returned (pkV (hdP c) sv0)∧Below w.heap.size w w':=by
 obtain ⟨b8,b1,b2⟩:=hd_bits ⟨c.toNat,by omega⟩
 simp only [Int.toNat_of_nonneg h0] at b8 b1 b2
 generalize d1:(c / 8%2==1)=dup at *
 generalize d2:(c%2==1)=ret at *
 generalize d3:c / 2%4=q at *
 have D:=Lib.hid (And.intro d1 (And.intro d2 d3))
 clear d1 d2 d3
 have Q:∀W:World,(W.alloc (.cells (pkC pk0 sv0) 28)).heap[W.heap.size]? = some (.cells (pkC pk0 sv0) 28 (0,0)):=fun W=>heap_alloc_last _ _
 rcases k3:(c / 16==3) with _ | _
 ·go_enter Try.func84,Try.ntmps84
  go_wp2_with (first
   | ((with_reducible show wpList _ _ _ (⟨_,.store 28 (.tmp 4) _,_,_,_,_⟩ :: _) _ _);refine stLst (w.heap.size+1) (by simp) _ _ (by rfl) (by rfl) (by rfl) (by rfl) (by rfl) ?_)
   | ((with_reducible show wpList _ _ _ (⟨_,.store 28 (.tmp 2) _,_,_,_,_⟩ :: _) _ _);refine stR (w.heap.size) _ _ (by rfl) (by rfl) (by exact heap_keep (heap_alloc_last _ _)) (by rfl) (by rfl) (by rfl) ?_)
   | ((with_reducible show wpList _ _ _ (⟨_,.load 28 (.tmp 4),_,_,_,_⟩ :: _) _ _);refine ld_pk (w.heap.size+1) (by rfl) (by rfl) _ _ _ (by exact heap_last2 _ _ _) (by rfl) ?_))
  refine bodyPost_ret (v:=.agg _) (results_cell_row (by rfl) _ _ (w.heap.size) 28 _ (0,0) _ (by rfl) (setRow_heap _ _ _ _ _ _ (by exact heap_keep (heap_alloc_last _ _))) Try.underlying28 (by rfl) (by exact pk_sz)) (by rfl) ⟨congrArg (fun c=>Ending.returned (.agg c)) ?_,?_⟩
  ·unfold hdP;rw [k3];rfl
  ·exact below_setRow (by (repeat (first | assumption | exact Below.refl _ _ | exact (Below.refl _ _).alloc (Nat.le_refl _) _ | (refine thn ?_ (by assumption)) | (refine alB ?_ _) | (refine dwN ?_ _) | (refine Below.drew ?_)))) (by omega) _
 ·go_enter Try.func84,Try.ntmps84
  go_wp2_with (first
   | ((with_reducible show wpList _ _ _ (⟨_,.store 28 (.tmp 4) _,_,_,_,_⟩ :: _) _ _);refine stLst (w.heap.size+1) (by simp) _ _ (by rfl) (by rfl) (by rfl) (by rfl) (by rfl) ?_)
   | ((with_reducible show wpList _ _ _ (⟨_,.store 28 (.tmp 2) _,_,_,_,_⟩ :: _) _ _);refine stR (w.heap.size) _ _ (by rfl) (by rfl) (by exact heap_keep (heap_alloc_last _ _)) (by rfl) (by rfl) (by rfl) ?_)
   | ((with_reducible show wpList _ _ _ (⟨_,.load 28 (.tmp 4),_,_,_,_⟩ :: _) _ _);refine ld_pk (w.heap.size+1) (by rfl) (by rfl) _ _ _ (by exact heap_last2 _ _ _) (by rfl) ?_))
  refine bodyPost_ret (v:=.agg _) (results_cell_row (by rfl) _ _ (w.heap.size) 28 _ (0,0) _ (by rfl) (setRow_heap _ _ _ _ _ _ (by exact heap_keep (heap_alloc_last _ _))) Try.underlying28 (by rfl) (by exact pk_sz)) (by rfl) ⟨congrArg (fun c=>Ending.returned (.agg c)) ?_,?_⟩
  ·unfold hdP;rw [k3,D.out.1,D.out.2.1,D.out.2.2];rfl
  ·exact below_setRow (by (repeat (first | assumption | exact Below.refl _ _ | exact (Below.refl _ _).alloc (Nat.le_refl _) _ | (refine thn ?_ (by assumption)) | (refine alB ?_ _) | (refine dwN ?_ _) | (refine Below.drew ?_)))) (by omega) _
def begP (c:Int):Bool:=if c / 16==3 then inI (c / 2%4) 0 2 && (decide (0<c / 2%4) || !(c / 8%2==1)) else inI (c / 16) 1 14 && (headP {pk0 with kind:=c / 16}==c)
def rbegP (c:Int):Bool:=if c / 16==0 || c / 16==15 then false else if c / 16==3 then c / 2%4 != 3 && (c / 8%2==0 || c / 2%4 != 0) else if c / 16==6 || c / 16==8 || c / 16==10 then c%16==2 else c%16==0
theorem rbeg_eq (c:Int)(h0:0≤c)(h1:c≤255):rbegP c=begP c:=by
 have key:∀y:Fin 256,rbegP (y.val:Int)=begP (y.val:Int):=by decide +kernel
 have:=key ⟨c.toNat,by omega⟩
 simpa only [Int.toNat_of_nonneg h0] using this
theorem beg_head (c:Int)(h0:0≤c)(h1:c≤255)(h:begP c=true):1≤c / 16∧c / 16≤14:=by
 have key:∀y:Fin 256,begP (y.val:Int)=true→1≤(y.val:Int) / 16∧(y.val:Int) / 16≤14:=by decide +kernel
 have:=key ⟨c.toNat,by omega⟩
 simp only [Int.toNat_of_nonneg h0] at this
 exact this h
theorem begins_no3a (c:Int)(h0:0≤c)(h1:c≤255)(k3:(c / 16==3)=false)(hin:inI (c / 16) 1 14=false)(w:World) :
  Calls Try.prog 82 #[.int .u8 c] w fun e w'=>e=.returned (.bool (begP c))∧Below w.heap.size w w':=by
 have HH:=Lib.hid (fun W=>headOf_any c h0 h1 W)
 have e:hdP c={pk0 with kind:=c / 16}:=by unfold hdP;rw [k3];rfl
 have hb:begP c=(inI (c / 16) 1 14 && (headP (hdP c)==c)):=by unfold begP;rw [k3,e];rfl
 have hk:(hdP c).kind=c / 16:=by rw [e]
 have hq:(hdP c).qos=0:=by rw [e];rfl
 rw [hb,←hk]
 rw [←hk] at hin
 rw [←hk] at k3
 have b0:0≤(hdP c).kind∧(hdP c).kind≤15:=by rw [hk];omega
 clear e hb hk
 generalize hdP c=P at *
 have hhd:=Lib.hid (fun W=>head_any P sv0 W b0.1 b0.2 (by rw [hq];omega) (by rw [hq];omega))
 clear hq b0
 generalize headP P=hh at *
 go_enter Try.func82,Try.ntmps82
 go_wp2_with fail
 refine (HH.out _).mono ?_
 rintro e w1 ⟨rfl,hb1⟩
 go_wp2_with (first
  | ((with_reducible show wpList _ _ _ (⟨_,.store 28 (.tmp 3) _,_,_,_,_⟩ :: _) _ _);refine stLst (w1.heap.size) (by rfl) _ (pkC _ sv0) (by rfl) (by rfl) (by rfl) (by rfl) (pkc_one _ _) ?_)
  | (go_at_call 75;refine (within_any _ _ _ _).mono ?_;rintro e w' ⟨rfl,rfl⟩))
 all_goals (go_ret;exact ⟨ret_bool (by simp [*]),by (repeat (first | assumption | exact Below.refl _ _ | exact (Below.refl _ _).alloc (Nat.le_refl _) _ | (refine thn ?_ (by assumption)) | (refine alB ?_ _) | (refine dwN ?_ _) | (refine Below.drew ?_)))⟩)
theorem begins_no3b (c:Int)(h0:0≤c)(h1:c≤255)(k3:(c / 16==3)=false)(hin:inI (c / 16) 1 14=true)(w:World) :
  Calls Try.prog 82 #[.int .u8 c] w fun e w'=>e=.returned (.bool (begP c))∧Below w.heap.size w w':=by
 have HH:=Lib.hid (fun W=>headOf_any c h0 h1 W)
 have e:hdP c={pk0 with kind:=c / 16}:=by unfold hdP;rw [k3];rfl
 have hb:begP c=(inI (c / 16) 1 14 && (headP (hdP c)==c)):=by unfold begP;rw [k3,e];rfl
 have hk:(hdP c).kind=c / 16:=by rw [e]
 have hq:(hdP c).qos=0:=by rw [e];rfl
 rw [hb,←hk]
 rw [←hk] at hin
 rw [←hk] at k3
 have b0:0≤(hdP c).kind∧(hdP c).kind≤15:=by rw [hk];omega
 clear e hb hk
 generalize hdP c=P at *
 have hhd:=Lib.hid (fun W=>head_any P sv0 W b0.1 b0.2 (by rw [hq];omega) (by rw [hq];omega))
 clear hq b0
 generalize headP P=hh at *
 go_enter Try.func82,Try.ntmps82
 go_wp2_with fail
 refine (HH.out _).mono ?_
 rintro e w1 ⟨rfl,hb1⟩
 go_wp2_with (first
  | ((with_reducible show wpList _ _ _ (⟨_,.store 28 (.tmp 3) _,_,_,_,_⟩ :: _) _ _);refine stLst (w1.heap.size) (by rfl) _ (pkC _ sv0) (by rfl) (by rfl) (by rfl) (by rfl) (pkc_one _ _) ?_)
  | (go_at_call 75;refine (within_any _ _ _ _).mono ?_;rintro e w' ⟨rfl,rfl⟩)
  | ((with_reducible show wpList _ _ _ (⟨_,.load 28 _,_,_,_,_⟩ :: _) _ _);refine ld_pk (w1.heap.size) (by rfl) (by rfl) _ _ _ (by (first | assumption | exact heap_alloc_last _ _ | (repeat (first | assumption | exact heap_alloc_last _ _ | exact heap_last2 _ _ _ | refine heap_keep ?_ | refine heap_below (by assumption) ?_)))) (by rfl) ?_)
  | (go_at_call 61;refine (hhd.out _).mono ?_;rintro e w' ⟨rfl,hb⟩;obtain ⟨hc,hf⟩:=bcell hb;have hz:w1.heap.size<w'.heap.size:=(by have:=hb.size;(try simp at this);omega)))
 go_ret;exact ⟨ret_bool (by simp [*]),by (repeat (first | assumption | exact Below.refl _ _ | exact (Below.refl _ _).alloc (Nat.le_refl _) _ | (refine thn ?_ (by assumption)) | (refine alB ?_ _) | (refine dwN ?_ _) | (refine Below.drew ?_)))⟩
theorem begins_3 (c:Int)(h0:0≤c)(h1:c≤255)(k3:(c / 16==3)=true)(w:World) :
  Calls Try.prog 82 #[.int .u8 c] w fun e w'=>e=.returned (.bool (begP c))∧Below w.heap.size w w':=by
 have HH:=Lib.hid (fun W=>headOf_any c h0 h1 W)
 have e:hdP c={pk0 with kind:=c / 16,dup:=c / 8%2==1,qos:=c / 2%4,ret:=c%2==1}:=by unfold hdP;rw [k3];rfl
 rw [e] at HH
 have hb:begP c=(inI (c / 2%4) 0 2 && (decide (0<c / 2%4) || !(c / 8%2==1))):=by unfold begP;rw [k3];rfl
 rw [hb]
 generalize (c / 8%2==1)=dup at *
 generalize (c%2==1)=ret at *
 generalize c / 2%4=q at *
 generalize c / 16=k at *
 clear e hb
 go_enter Try.func82,Try.ntmps82
 go_wp2_with fail
 refine (HH.out _).mono ?_
 rintro e w1 ⟨rfl,hb1⟩
 go_wp2_with (first
  | ((with_reducible show wpList _ _ _ (⟨_,.store 28 (.tmp 3) _,_,_,_,_⟩ :: _) _ _);refine stLst (w1.heap.size) (by rfl) _ (pkC _ sv0) (by rfl) (by rfl) (by rfl) (by rfl) (pkc_one _ _) ?_)
  | (go_at_call 98;refine (isQos_any _ _).mono ?_;rintro e w' ⟨rfl,rfl⟩))
 all_goals (go_ret;exact ⟨ret_bool (by simp [*];try omega),by (repeat (first | assumption | exact Below.refl _ _ | exact (Below.refl _ _).alloc (Nat.le_refl _) _ | (refine thn ?_ (by assumption)) | (refine alB ?_ _) | (refine dwN ?_ _) | (refine Below.drew ?_)))⟩)
theorem wbegins_any (c:Int)(h0:0≤c)(h1:c≤255)(w:World) :
  Calls Try.prog 82 #[.int .u8 c] w fun e w'=>e=.returned (.bool (begP c))∧Below w.heap.size w w':=by
 rcases k3:(c / 16==3) with _ | _
 ·rcases hin:inI (c / 16) 1 14 with _ | _
  ·exact begins_no3a c h0 h1 k3 hin w
  ·exact begins_no3b c h0 h1 k3 hin w
 ·exact begins_3 c h0 h1 k3 w
end Go.Proofs.Ytnhpacaoobpkhaa
