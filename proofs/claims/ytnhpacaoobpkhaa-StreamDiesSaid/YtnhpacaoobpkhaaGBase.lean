import Derived.Lib.MapLaws
import Derived.Test.YtnhpacaoobpkhaaRows
import Derived.WalkKit
import Derived.WalkSpells
import Derived.WalkLawsBesides
import Derived.Deep.LoopGhost
import Derived.LoopN
import Derived.Lib.OthersKept
import Derived.Lib.UnsafeStr
import Derived.Lib.AppendStr
import Derived.BigQuiet
import Derived.Deep.QuietTactic
import Derived.Laws.CopyOwn
import Derived.Laws.IdiomStrings
import Derived.Lib.Hide
import Derived.Lib.BufferWrite
import Derived.Laws.Cover4
import Derived.OpenShut
import Derived.Lib.RuneCount
namespace Go.Proofs.Ytnhpacaoobpkhaa
open Go.Lib
theorem decodeN_cut (n m b0 b1 b2 b3 c1 c2 c3:Nat)(hm:m≤n)(hw:(decodeN n b0 b1 b2 b3).2≤m)
  (e1:1<m→c1=b1)(e2:2<m→c2=b2)(e3:3<m→c3=b3):decodeN m b0 c1 c2 c3=decodeN n b0 b1 b2 b3:=by
 rcases decodeN_shape m b0 c1 c2 c3 with ⟨p,q⟩ | ⟨p1,p2,p3,p4,q⟩ | ⟨p1,p2,p3,p4,p5,p6,q⟩ | ⟨p1,p2,p3,p4,p5,p6,p7,q⟩ | q
 ·rw [q];unfold decodeN;rw [if_pos p]
 ·obtain rfl:=e1 p2
  rw [q];unfold decodeN
  rw [if_neg (by omega),if_pos ⟨p1,by omega,p3⟩,if_pos p4]
 ·obtain rfl:=e1 (by omega)
  obtain rfl:=e2 p2
  rw [q];unfold decodeN
  rw [if_neg (by omega),if_neg (by omega),if_pos ⟨p1,⟨by omega,p3⟩,by omega,p4⟩,if_pos (by omega)]
 ·obtain rfl:=e1 (by omega)
  obtain rfl:=e2 (by omega)
  obtain rfl:=e3 p2
  rw [q];unfold decodeN
  rw [if_neg (by omega),if_neg (by omega),if_neg (by omega),if_pos ⟨p1,⟨by omega,p3⟩,⟨by omega,p4⟩,by omega,p5⟩,if_pos (by omega)]
 ·rcases decodeN_shape n b0 b1 b2 b3 with ⟨p,r⟩ | ⟨p1,p2,p3,p4,r⟩ | ⟨p1,p2,p3,p4,p5,p6,r⟩ | ⟨p1,p2,p3,p4,p5,p6,p7,r⟩ | r
  ·rw [r];unfold decodeN;rw [if_pos p]
  ·rw [r] at hw
   have hw:2≤m:=hw
   obtain rfl:=e1 (by omega)
   rw [r];unfold decodeN
   rw [if_neg (by omega),if_pos ⟨p1,by omega,p3⟩,if_pos p4]
  ·rw [r] at hw
   have hw:3≤m:=hw
   obtain rfl:=e1 (by omega)
   obtain rfl:=e2 (by omega)
   rw [r];unfold decodeN
   rw [if_neg (by omega),if_neg (by omega),if_pos ⟨p1,⟨by omega,p3⟩,by omega,p4⟩,if_pos (by omega)]
  ·rw [r] at hw
   have hw:4≤m:=hw
   obtain rfl:=e1 (by omega)
   obtain rfl:=e2 (by omega)
   obtain rfl:=e3 (by omega)
   rw [r];unfold decodeN
   rw [if_neg (by omega),if_neg (by omega),if_neg (by omega),if_pos ⟨p1,⟨by omega,p3⟩,⟨by omega,p4⟩,by omega,p5⟩,if_pos (by omega)]
  ·rw [q,r]
theorem decodeL_take (l:List UInt8)(m:Nat)(hw:(decodeL l).2≤m):decodeL (l.take m)=decodeL l:=by
 by_cases hm:l.length≤m
 ·rw [List.take_of_length_le hm]
 ·have hd:∀k,k<m→(l.take m).getD k 0=l.getD k 0:=fun k hk=>by simp [List.getD,hk]
  have w1:=decodeL_width l
  have m1:1≤m:=Nat.le_trans w1 hw
  rw [decodeL_N,decodeL_N l]
  rw [decodeL_N] at hw
  have hl:(l.take m).length=m:=by simp;omega
  rw [hl,hd 0 (by omega)]
  exact decodeN_cut _ _ _ _ _ _ _ _ _ (by omega) hw (fun h=>by rw [hd 1 h]) (fun h=>by rw [hd 2 h]) (fun h=>by rw [hd 3 h])
def pcs:Nat→List UInt8→List (List UInt8)
 | 0,_=>[]
 | f+1,l=>if l=[] then [] else l.take (decodeL l).2 :: pcs f (l.drop (decodeL l).2)
def ps (l:List UInt8):List (List UInt8):=pcs l.length l
theorem pcs_nil (f:Nat):pcs f []=[]:=by cases f <;> simp [pcs]
theorem ps_nil:ps []=[]:=rfl
theorem pcs_fuel:∀(f g:Nat)(l:List UInt8),l.length≤f→l.length≤g→pcs f l=pcs g l
 | 0,g,l,hf,_=>by
  have:l=[]:=List.eq_nil_of_length_eq_zero (by omega)
  subst this;rw [pcs_nil,pcs_nil]
 | f+1,0,l,_,hg=>by
  have:l=[]:=List.eq_nil_of_length_eq_zero (by omega)
  subst this;rw [pcs_nil,pcs_nil]
 | f+1,g+1,l,hf,hg=>by
  unfold pcs
  by_cases hl:l=[]
  ·rw [if_pos hl,if_pos hl]
  ·rw [if_neg hl,if_neg hl]
   have w1:=decodeL_width l
   have e:(l.drop (decodeL l).2).length=l.length - (decodeL l).2:=List.length_drop
   rw [pcs_fuel f g _ (by omega) (by omega)]
theorem ps_cons (l:List UInt8)(h:l≠[]):ps l=l.take (decodeL l).2 :: ps (l.drop (decodeL l).2):=by
 have hl:0<l.length:=List.length_pos_iff.2 h
 have w1:=decodeL_width l
 have e:(l.drop (decodeL l).2).length=l.length - (decodeL l).2:=List.length_drop
 unfold ps
 obtain ⟨n,hn⟩:∃n,l.length=n+1:=⟨l.length - 1,by omega⟩
 rw [hn]
 conv=>lhs;unfold pcs
 rw [if_neg h,pcs_fuel n (l.drop (decodeL l).2).length _ (by omega) (Nat.le_refl _)]
def cnt (l:List UInt8):Nat:=(ps l).length
def cutL (n:Nat)(l:List UInt8):List UInt8:=((ps l).take n).flatten
def placeL (n:Nat)(l:List UInt8):Nat:=(cutL n l).length
end Go.Proofs.Ytnhpacaoobpkhaa
namespace Go.Proofs.Ytnhpacaoobpkhaa
open Go.RowKit Go.Lib
set_option maxRecDepth 100000
set_option maxHeartbeats 4000000
theorem ret_int {k:IntKind}{a b:Int}(h:a=b):Ending.returned (.int k a)=.returned (.int k b):=by rw [h]
theorem ret_bool {a b:Bool}(h:a=b):Ending.returned (.bool a)=.returned (.bool b):=by rw [h]
theorem ofList (s:ByteArray):(⟨s.data.toList.toArray⟩:ByteArray)=s:=by cases s;simp
theorem size_list (s:ByteArray):s.data.toList.length=s.size:=by simp
theorem Try.info5:(Try.prog.info? 5).map (fun i=>(i.zero,i.size,i.bytes))=some (some (.int .u8 0),1,1):=by kernel_rfl
theorem thn {a b c:World}(h:Below a.heap.size a b)(k:Below b.heap.size b c):Below a.heap.size a c:=h.trans (k.mono h.size)
theorem alB {a w:World}(h:Below a.heap.size a w)(o:Obj):Below a.heap.size a (w.alloc o):=h.alloc h.size o
def BytesAt (w:World)(B:Nat)(v:Value)(l:List UInt8):Prop :=
 ∃(A:Option Addr)(c:Nat),v=.slice A l.length c∧l.length≤c∧c≤maxLen∧(A=none→l=[])∧(∀ad,A=some ad→l≠[]→ad.block<B)∧∀ad,A=some ad→∀(j:Nat)(x:UInt8),l[j]? = some x→w.cell? (ad.add j)=some (.int .u8 (x.toNat:Int))
theorem BytesAt.below {w w':World}{B:Nat}{v:Value}{l:List UInt8}(h:BytesAt w B v l)(hb:Below B w w'):BytesAt w' B v l:=by
 obtain ⟨A,c,hv,hc,hm,hn,hB,hx⟩:=h
 refine ⟨A,c,hv,hc,hm,hn,hB,fun ad had j x hj=>?_⟩
 have hne:l≠[]:=by intro e;rw [e] at hj;simp at hj
 rw [hb.cell (p:=ad.add j) (by simpa [Addr.add] using (by split <;> exact hB ad had hne))]
 exact hx ad had j x hj
theorem BytesAt.more {w:World}{B B':Nat}{v:Value}{l:List UInt8}(h:BytesAt w B v l)(hB:B≤B'):BytesAt w B' v l:=by
 obtain ⟨A,c,hv,hc,hm,hn,hb,hx⟩:=h
 exact ⟨A,c,hv,hc,hm,hn,fun ad had hne=>Nat.lt_of_lt_of_le (hb ad had hne) hB,hx⟩
theorem BytesAt.on {w w':World}{v:Value}{l:List UInt8}(h:BytesAt w w.heap.size v l)(hb:Below w.heap.size w w'):BytesAt w' w'.heap.size v l:=(h.below hb).more hb.size
theorem BytesAt.drew {w:World}{B:Nat}{v:Value}{l:List UInt8}(h:BytesAt w B v l):BytesAt w.drew B v l:=h
theorem BytesAt.conv {w:World}{B:Nat}{v:Value}{l:List UInt8}(h:BytesAt w B v l):(convert 22 9 v).run Try.prog w=.ok (.string ⟨l.toArray⟩) w:=by
 obtain ⟨A,c,rfl,_,_,hn,_,hx⟩:=h
 cases A with
 | none =>
  have:=hn rfl
  subst this
  rw [run_convert_bytes_string w _ _ 5 none _ c Try.underlying22 Try.underlying5 Try.underlying9]
  rfl
 | some ad =>
  exact run_convert_bytes_back w _ _ 5 ad c l Try.underlying22 Try.underlying5 Try.underlying9 (fun j hj=>hx ad rfl j _ (List.getElem?_eq_getElem hj))
theorem bytesAt_new (w:World)(l:List UInt8)(C:Array Value)(fr:Nat×Nat)(hC:C=(l.map fun b=>Value.int .u8 (b.toNat:Int)).toArray)(hm:l.length≤maxLen) :
  BytesAt (w.alloc (.cells C 5 fr)) (w.heap.size+1) (.slice (some ⟨w.heap.size,0,none⟩) l.length l.length) l:=by
 refine ⟨_,_,rfl,Nat.le_refl _,hm,by simp,fun ad had _=>?_,fun ad had j x hj=>?_⟩
 ·injection had with had;subst had;simp
 ·injection had with had;subst had
  rw [show (Addr.add ⟨w.heap.size,0,none⟩ j)=⟨w.heap.size,j,none⟩ by simp [Addr.add];exact fun h=>h.symm]
  rw [World.cell?_alloc_mark,hC]
  simp [hj]
theorem ownsBytes {w:World}{base:Nat}{v:Value}{l:List UInt8}(h:w.ownsRow base 5 1 v l.length (byteCells l)):BytesAt w w.heap.size v l:=by
 rcases h.2 with ⟨rfl,h0⟩ | ⟨g,cap,cur,rfl,_,hg,hc,hm,_,_⟩
 ·have:l=[]:=List.eq_nil_of_length_eq_zero h0
  subst this
  exact ⟨none,0,rfl,by simp,by decide,fun _=>rfl,by simp,by simp⟩
 ·refine ⟨_,cap,rfl,hc,hm,by simp,fun ad had _=>?_,fun ad had j x hj=>?_⟩
  ·injection had with had;subst had
   exact (h.lt g rfl).2
  ·injection had with had;subst had
   exact h.cells rfl j _ (by rw [byteCells,List.getElem?_map,hj];rfl)
theorem u8_of {n:Int}(h:(Lit.int .u8 n).wf=true):∃a:Nat,a<256∧n=(a:Int):=by
 have e1:IntKind.u8.min=0:=rfl
 have e2:IntKind.u8.max=255:=rfl
 simp only [Lit.wf,Bool.and_eq_true,decide_eq_true_eq,e1,e2] at h
 exact ⟨n.toNat,by omega,by omega⟩
theorem int_le {n:Int}(h:(Lit.int .i64 n).wf=true):n≤9223372036854775807:=by
 have e1:IntKind.i64.min=-9223372036854775808:=rfl
 have e2:IntKind.i64.max=9223372036854775807:=rfl
 simp only [Lit.wf,Bool.and_eq_true,decide_eq_true_eq,e1,e2] at h
 exact h.2
theorem bytes_of_row {w:World}{a:Option Addr}{len cap:Nat}{zs:List Int}
  (h:(a=none∧len=0∧cap=0∧zs=[])∨∃x,a=some x∧len≤cap∧cap≤maxLen∧zs.length=cap∧(∀i,i<zs.length→w.cell? (x.add i)=some (.int .u8 (zs.getD i 0)))∧∀n ∈ zs,(Lit.int .u8 n).wf=true) :
  ∃l:List UInt8,l.length=len∧BytesAt w w.heap.size (.slice a l.length cap) l:=by
 rcases h with ⟨rfl,rfl,rfl,rfl⟩ | ⟨x,rfl,hl,hm,hz,hc,hw⟩
 ·exact ⟨[],rfl,none,0,rfl,by simp,by decide,fun _=>rfl,by simp,by simp⟩
 ·have hlen:((zs.take len).map fun n=>UInt8.ofNat n.toNat).length=len:=by rw [List.length_map,List.length_take];omega
  have hcell:∀(j:Nat)(y:UInt8),((zs.take len).map fun n=>UInt8.ofNat n.toNat)[j]? = some y→w.cell? (x.add j)=some (.int .u8 (y.toNat:Int)):=by
   intro j y hj
   have hjl:j<len:=by rw [←hlen];exact (List.getElem?_eq_some_iff.1 hj).1
   have hjz:j<zs.length:=by omega
   rw [List.getElem?_map,List.getElem?_take,if_pos hjl,List.getElem?_eq_getElem hjz] at hj
   have hy:UInt8.ofNat zs[j].toNat=y:=by simpa using hj
   obtain ⟨m,hm1,hm2⟩:=u8_of (hw zs[j] (List.getElem_mem hjz))
   rw [hc j hjz,←hy]
   have:zs.getD j 0=zs[j]:=by simp [List.getD,List.getElem?_eq_getElem hjz]
   rw [this,hm2]
   simp
   omega
  refine ⟨_,hlen,some x,cap,by rw [hlen],by omega,hm,by simp,fun ad had hne=>?_,fun ad had j y hj=>?_⟩
  ·injection had with had;subst had
   have h0:0<len:=by rw [←hlen];exact List.length_pos_iff.2 hne
   have:=World.block_lt_of_cell? w (x.add 0) (hc 0 (by omega))
   simpa [Addr.add] using this
  ·injection had with had;subst had
   exact hcell j y hj
def from_ (s:ByteArray)(p:Nat):List UInt8:=s.data.toList.drop p
theorem from_nil (s:ByteArray)(p:Nat)(h:¬p<s.size):from_ s p=[]:=List.drop_of_length_le (by simpa using h)
theorem from_ne (s:ByteArray)(p:Nat)(h:p<s.size):from_ s p≠[]:=by
 intro e
 have:=congrArg List.length e
 simp [from_] at this
 omega
theorem from_step (s:ByteArray)(p:Nat):(from_ s p).drop (decodeL (from_ s p)).2=from_ s (p+(Utf8.decode s p).2):=by
 unfold from_;rw [decodeL_drop,List.drop_drop]
theorem from_width (s:ByteArray)(p:Nat):(decodeL (from_ s p)).2=(Utf8.decode s p).2:=by unfold from_;rw [decodeL_drop]
theorem from_rune (s:ByteArray)(p:Nat):(decodeL (from_ s p)).1=(Utf8.decode s p).1:=by unfold from_;rw [decodeL_drop]
theorem from_length (s:ByteArray)(p:Nat):(from_ s p).length=s.size - p:=by simp [from_]
def badP (c:List UInt8):Bool:=(decodeL c).1==0 || ((decodeL c).1==65533 && !(c==[239,191,189]))
def chkP:List (List UInt8)→Nat→Int
 | [],_=>-1
 | c :: r,o=>if badP c then (o:Int) else chkP r (o+c.length)
def chkL (l:List UInt8):Int:=chkP (ps l) 0
theorem begins_any (s:ByteArray)(w:World)(hs:s.size≤140737488355328) :
  Calls Try.prog 106 #[.string s] w fun e w'=>e=.returned (.bool (s.data.toList.take 3==[239,191,189]))∧w=w':=by
 by_cases h3:3≤s.size
 ·go_enter Try.func106,Try.ntmps106
  go_wp2
  go_ret
  refine ⟨ret_bool ?_,rfl⟩
  show ((s.extract 0 3).toList==[239,191,189])=_
  rw [ByteArray.toList_eq,ByteArray.data_extract,Array.toList_extract]
  simp
 ·go_enter Try.func106,Try.ntmps106
  go_wp2
  go_ret
  refine ⟨ret_bool ?_,rfl⟩
  show false=_
  symm
  rw [beq_eq_false_iff_ne]
  intro e
  have:=congrArg List.length e
  simp at this
  omega
theorem ext_from (s:ByteArray)(p:Nat):(s.extract p s.size).data.toList=from_ s p:=by
 rw [ByteArray.data_extract,Array.toList_extract]
 show List.take (s.size - p) (List.drop p s.data.toList)=_
 rw [List.take_of_length_le (by simp)]
 rfl
theorem dec_repl (t:List UInt8):decodeL (239 :: 191 :: 189 :: t)=(65533,3):=by
 rw [decodeL_N]
 show decodeN (t.length+1+1+1) 239 191 189 _=_
 unfold decodeN
 rw [if_neg (by omega),if_neg (by omega),if_pos ⟨by omega,⟨by omega,by omega⟩,by omega,by omega⟩,if_pos (by omega)]
theorem begins_piece (l:List UInt8):(l.take (decodeL l).2==[239,191,189])=(l.take 3==[239,191,189]):=by
 rw [Bool.eq_iff_iff,beq_iff_eq,beq_iff_eq]
 constructor
 ·intro h
  have hl:=congrArg List.length h
  simp at hl
  have h2:l=[239,191,189]++l.drop (decodeL l).2:=by rw [←h,List.take_append_drop]
  rw [h2]
  simp
 ·intro h
  have h2:l=239 :: 191 :: 189 :: l.drop 3:=by
   have:=(List.take_append_drop 3 l).symm
   rw [h] at this
   exact this
  have e:(decodeL l).2=3:=by rw [h2,dec_repl]
  rw [e,h]
theorem badP_eq (l:List UInt8):badP (l.take (decodeL l).2)=((decodeL l).1==0 || ((decodeL l).1==65533 && !(l.take 3==[239,191,189]))):=by
 unfold badP
 rw [decodeL_take l _ (Nat.le_refl _),begins_piece]
theorem chk_step (s:ByteArray)(p:Nat)(h:p<s.size):chkP (ps (from_ s p)) p =
  if ((Utf8.decode s p).1==0 || ((Utf8.decode s p).1==65533 && !((from_ s p).take 3==[239,191,189]))) then (p:Int) else chkP (ps (from_ s (p+(Utf8.decode s p).2))) (p+(Utf8.decode s p).2):=by
 have hne:=from_ne s p h
 have hle:=decodeL_le _ hne
 rw [ps_cons _ hne,from_step]
 show (if badP _=true then _ else chkP _ (p+_))=_
 rw [badP_eq,from_rune,List.length_take,Nat.min_eq_left hle,from_width]
theorem check_any (v:Value)(l:List UInt8)(w:World)(hv:BytesAt w w.heap.size v l)(hs:l.length≤140737488355328) :
  Calls Try.prog 105 #[v] w fun e w'=>e=.returned (.int .i64 (chkL l))∧Below w.heap.size w w':=by
 have hcv:=hv.conv
 clear hv
 generalize hs':(⟨l.toArray⟩:ByteArray)=s at *
 have hl:l=s.data.toList:=by rw [←hs']
 have hsz:s.size≤140737488355328:=by rw [←size_list,←hl];exact hs
 subst hl
 clear hs' hs
 go_enter Try.func105,Try.ntmps105
 go_wp2
 go_loopw [4,5] (fun _ _ w'=>∃(pos:Nat),w'=w.iter s pos∧pos≤s.size∧Hid (chkP (ps (from_ s pos)) pos=chkL s.data.toList)) (fun _ _ w'=>s.size - w'.iterPos w.heap.size)
 case atStart=>exact ⟨0,rfl,Nat.zero_le _,rfl⟩
 case round =>
  obtain ⟨pos,rfl,hps,hc⟩:=hrel
  by_cases hp:pos<s.size
  ·have hnx:∀ty,(Instr.next (.pointer (some ⟨w.heap.size,0,none⟩)) true ty).run Try.prog (w.iter s pos)=_:=fun ty=>run_next_any w s pos ty hp
   have hwd:=Lib.decode_width_pos s pos hp
   have hst:=Lib.hid (chk_step s pos hp)
   have hwl:pos+(Utf8.decode s pos).2≤s.size:=by
    have:=decodeL_le _ (from_ne s pos hp)
    rw [from_width,from_length] at this
    omega
   generalize (Utf8.decode s pos).2=wd at *
   generalize (Utf8.decode s pos).1=r at *
   have hb:=fun W=>begins_any (s.extract pos s.size) W (by rw [ByteArray.size_extract];omega)
   have hst:=hst
   rw [ext_from] at hb
   generalize ((from_ s pos).take 3==[239,191,189])=bg at *
   by_cases h0:r=0
   ·subst h0
    have hfin:Hid (chkL s.data.toList=(pos:Int)):=by
     have hc:=hc.out
     rw [hst.out] at hc
     exact hc.symm
    go_wp2_with fail
    go_ret
    exact ⟨ret_int (by rw [hfin.out]),(Below.refl _ _).alloc (Nat.le_refl _) _⟩
   ·have h0b:((r:Int)==0)=false:=beq_eq_false_iff_ne.2 (by omega)
    by_cases h1:r=65533
    ·subst h1
     cases bg with
     | true =>
      have hfin:Hid (chkP (ps (from_ s (pos+wd))) (pos+wd)=chkL s.data.toList):=by
       have hc:=hc.out
       rw [hst.out] at hc
       exact hc
      go_wp2_with (go_at_call 106;refine (hb _).mono ?_;rintro e w' ⟨rfl,rfl⟩)
      go_roundw
      case rel=>exact ⟨pos+wd,rfl,hwl,hfin⟩
      case measure=>simp;omega
     | false =>
      have hfin:Hid (chkL s.data.toList=(pos:Int)):=by
       have hc:=hc.out
       rw [hst.out] at hc
       exact hc.symm
      go_wp2_with (go_at_call 106;refine (hb _).mono ?_;rintro e w' ⟨rfl,rfl⟩)
      go_ret
      exact ⟨ret_int (by rw [hfin.out]),(Below.refl _ _).alloc (Nat.le_refl _) _⟩
    ·have h1b:((r:Int)==65533)=false:=beq_eq_false_iff_ne.2 (by omega)
     have hfin:Hid (chkP (ps (from_ s (pos+wd))) (pos+wd)=chkL s.data.toList):=by
      have hc:=hc.out
      rw [hst.out,if_neg (by simp [h0,h1])] at hc
      exact hc
     go_wp2_with fail
     go_roundw
     case rel=>exact ⟨pos+wd,rfl,hwl,hfin⟩
     case measure=>simp;omega
  ·have hnx:∀ty,(Instr.next (.pointer (some ⟨w.heap.size,0,none⟩)) true ty).run Try.prog (w.iter s pos)=_:=fun ty=>run_next_end w s pos ty hp
   go_wp2
   go_ret
   have hc:=hc.out
   rw [from_nil s pos hp] at hc
   exact ⟨ret_int (by rw [←hc];rfl),(Below.refl _ _).alloc (Nat.le_refl _) _⟩
def rnsL (l:List UInt8):List Int:=(ps l).map fun c=>((decodeL c).1:Int)
def encL (r:Int):List UInt8:=(Utf8.encode r).data.toList
theorem one_of (l:List UInt8)(h:1≤l.length):∃b0 t,l=b0 :: t:=by
 cases l with
 | nil=>simp at h
 | cons b t=>exact ⟨b,t,rfl⟩
theorem two_of (l:List UInt8)(h:2≤l.length):∃b0 b1 t,l=b0 :: b1 :: t:=by
 obtain ⟨b,t,rfl⟩:=one_of l (by omega)
 obtain ⟨c,t,rfl⟩:=one_of t (by simp at h;omega)
 exact ⟨b,c,t,rfl⟩
theorem three_of (l:List UInt8)(h:3≤l.length):∃b0 b1 b2 t,l=b0 :: b1 :: b2 :: t:=by
 obtain ⟨b,t,rfl⟩:=one_of l (by omega)
 obtain ⟨c,d,t,rfl⟩:=two_of t (by simp at h;omega)
 exact ⟨b,c,d,t,rfl⟩
def asRune (r:Int):Nat:=if Utf8.valid r then r.toNat else 65533
end Go.Proofs.Ytnhpacaoobpkhaa
