import Derived.Test.YtnhpacaoobpkhaaGConn
import Derived.Test.YtnhpacaoobpkhaaGPub
import Derived.Test.YtnhpacaoobpkhaaGBody
namespace Go.Proofs.Ytnhpacaoobpkhaa
open Go.RowKit Go.Lib
set_option linter.unusedVariables false
set_option maxRecDepth 100000
set_option maxHeartbeats 8000000
theorem hdP_f (c:Int):(hdP c).kind=c / 16∧(hdP c).id=0∧(hdP c).pay=[]∧(hdP c).wpay=[]∧(hdP c).pass=[]∧(hdP c).subs=[]∧(hdP c).codes=[]:=by
 unfold hdP
 split <;> exact ⟨rfl,rfl,rfl,rfl,rfl,rfl,rfl⟩
theorem bit_one:∀y:Fin 256,(bits .and .i64 (y.val:Int) 1 != 0)=((y.val:Int)%2==1):=by decide +kernel
theorem num1_in (l:List UInt8):0≤numL (l.take 1)∧numL (l.take 1)≤255:=by
 have hlen:(l.take 1).length≤1:=by rw [List.length_take];omega
 generalize l.take 1=T at *
 rcases T with _ | ⟨x,_ | _⟩
 ·exact ⟨by decide,by decide⟩
 ·have:=x.toNat_lt;unfold numL;simp;omega
 ·simp at hlen
theorem parse_12 (c:Int)(h0:0≤c)(h1:c≤255)(hj:c / 16=12)(l:List UInt8)(ad:Addr)(cap:Nat)(w:World)(hv:BytesAt w w.heap.size (.slice (some ad) l.length cap) l)(hm:l.length≤1000000) :
  Calls Try.prog 54 #[.int .u8 c,.slice (some ad) l.length cap] w (ParPost w (parR c l)):=by
 have HH:=Lib.hid (fun W=>headOf_any c h0 h1 W)
 have F:=hdP_f c
 have k1:((hdP c).kind==1)=false:=by rw [F.1,hj];rfl
 have k2:((hdP c).kind==2)=false:=by rw [F.1,hj];rfl
 have k3:((hdP c).kind==3)=false:=by rw [F.1,hj];rfl
 have k4:((hdP c).kind==4)=false:=by rw [F.1,hj];rfl
 have k5:((hdP c).kind==5)=false:=by rw [F.1,hj];rfl
 have k6:((hdP c).kind==6)=false:=by rw [F.1,hj];rfl
 have k7:((hdP c).kind==7)=false:=by rw [F.1,hj];rfl
 have k11:((hdP c).kind==11)=false:=by rw [F.1,hj];rfl
 have k8:((hdP c).kind==8)=false:=by rw [F.1,hj];rfl
 have k10:((hdP c).kind==10)=false:=by rw [F.1,hj];rfl
 have k9:((hdP c).kind==9)=false:=by rw [F.1,hj];rfl
 have EQ:parR c l=hdP c:=by
  unfold parR
  simp only [k1,k2,k3,k4,k5,k6,k7,k11,k8,k10,k9]
  try rfl
 rw [EQ]
 have FF:=Lib.hid F
 clear EQ F hj
 generalize hdP c=P at *
 have HV:=Lib.hid hv
 clear hv
 go_enter Try.func54,Try.ntmps54
 go_wp2_with fail
 refine (HH.out _).mono ?_
 rintro e w1 ⟨rfl,hb1⟩
 have r0:=heap_below hb1 (heap_alloc_last _ _)
 have R0:=Lib.hid r0
 have z1:w.heap.size<w1.heap.size:=by have:=hb1.size;simp at this;omega
 have B1:Hid (Below w.heap.size w w1):=Lib.hid (thn ((Below.refl w.heap.size w).alloc (Nat.le_refl _) _) hb1)
 clear r0 hb1 HH
 go_wp2_with (first
  | ((with_reducible show wpList _ _ _ (⟨_,.store 28 (.tmp 5) _,_,_,_,_⟩ :: _) _ _);refine stLst (w1.heap.size) (by rfl) _ (pkC P sv0) (by rfl) (by rfl) (by rfl) (by rfl) (pkc_one _ _) ?_)
  | ((with_reducible show wpList _ _ _ (⟨_,.load 28 (.tmp 5),_,_,_,_⟩ :: _) _ _);refine ld_pk (w1.heap.size) (by rfl) (by rfl) (pkC P sv0) _ _ (by exact heap_keep (heap_alloc_last _ _)) (by rfl) ?_)
  | ((with_reducible show wpList _ _ _ (⟨_,.store 28 (.tmp 4) _,_,_,_,_⟩ :: _) _ _);refine stR (w.heap.size) _ (pkC P sv0) (by rfl) (by rfl) (by exact heap_keep (heap_keep R0.out)) (by rfl) (by rfl) (pkc_one _ _) ?_))
 refine bodyPost_ret (v:=.agg _) (results_cell_row (by rfl) _ _ (w.heap.size) 28 _ (0,0) _ (by rfl) (setRow_heap _ _ _ _ _ _ (by exact heap_keep (heap_keep R0.out))) Try.underlying28 (by rfl) (by exact pk_sz)) (by rfl) ⟨sv0,rfl,?_⟩
 exact par_fin (w1.heap.size+1) (by omega) (nil_row rfl rfl (by show P.pay.length=0;rw [FF.out.2.2.1];rfl) (by show Lib.byteCells P.pay=[];rw [FF.out.2.2.1];rfl)) (nil_row rfl rfl (by show P.wpay.length=0;rw [FF.out.2.2.2.1];rfl) (by show Lib.byteCells P.wpay=[];rw [FF.out.2.2.2.1];rfl)) (nil_row rfl rfl (by show P.pass.length=0;rw [FF.out.2.2.2.2.1];rfl) (by show Lib.byteCells P.pass=[];rw [FF.out.2.2.2.2.1];rfl)) (nil_row rfl rfl (by show P.subs.length=0;rw [FF.out.2.2.2.2.2.1];rfl) (by show subCells P.subs=[];rw [FF.out.2.2.2.2.2.1];rfl)) (nil_row rfl rfl (by show P.codes.length=0;rw [FF.out.2.2.2.2.2.2];rfl) (by show intCells P.codes=[];rw [FF.out.2.2.2.2.2.2];rfl)) (((B1.out.alloc (by omega) _).alloc (by simp;omega) _)) _
theorem parse_13 (c:Int)(h0:0≤c)(h1:c≤255)(hj:c / 16=13)(l:List UInt8)(ad:Addr)(cap:Nat)(w:World)(hv:BytesAt w w.heap.size (.slice (some ad) l.length cap) l)(hm:l.length≤1000000) :
  Calls Try.prog 54 #[.int .u8 c,.slice (some ad) l.length cap] w (ParPost w (parR c l)):=by
 have HH:=Lib.hid (fun W=>headOf_any c h0 h1 W)
 have F:=hdP_f c
 have k1:((hdP c).kind==1)=false:=by rw [F.1,hj];rfl
 have k2:((hdP c).kind==2)=false:=by rw [F.1,hj];rfl
 have k3:((hdP c).kind==3)=false:=by rw [F.1,hj];rfl
 have k4:((hdP c).kind==4)=false:=by rw [F.1,hj];rfl
 have k5:((hdP c).kind==5)=false:=by rw [F.1,hj];rfl
 have k6:((hdP c).kind==6)=false:=by rw [F.1,hj];rfl
 have k7:((hdP c).kind==7)=false:=by rw [F.1,hj];rfl
 have k11:((hdP c).kind==11)=false:=by rw [F.1,hj];rfl
 have k8:((hdP c).kind==8)=false:=by rw [F.1,hj];rfl
 have k10:((hdP c).kind==10)=false:=by rw [F.1,hj];rfl
 have k9:((hdP c).kind==9)=false:=by rw [F.1,hj];rfl
 have EQ:parR c l=hdP c:=by
  unfold parR
  simp only [k1,k2,k3,k4,k5,k6,k7,k11,k8,k10,k9]
  try rfl
 rw [EQ]
 have FF:=Lib.hid F
 clear EQ F hj
 generalize hdP c=P at *
 have HV:=Lib.hid hv
 clear hv
 go_enter Try.func54,Try.ntmps54
 go_wp2_with fail
 refine (HH.out _).mono ?_
 rintro e w1 ⟨rfl,hb1⟩
 have r0:=heap_below hb1 (heap_alloc_last _ _)
 have R0:=Lib.hid r0
 have z1:w.heap.size<w1.heap.size:=by have:=hb1.size;simp at this;omega
 have B1:Hid (Below w.heap.size w w1):=Lib.hid (thn ((Below.refl w.heap.size w).alloc (Nat.le_refl _) _) hb1)
 clear r0 hb1 HH
 go_wp2_with (first
  | ((with_reducible show wpList _ _ _ (⟨_,.store 28 (.tmp 5) _,_,_,_,_⟩ :: _) _ _);refine stLst (w1.heap.size) (by rfl) _ (pkC P sv0) (by rfl) (by rfl) (by rfl) (by rfl) (pkc_one _ _) ?_)
  | ((with_reducible show wpList _ _ _ (⟨_,.load 28 (.tmp 5),_,_,_,_⟩ :: _) _ _);refine ld_pk (w1.heap.size) (by rfl) (by rfl) (pkC P sv0) _ _ (by exact heap_keep (heap_alloc_last _ _)) (by rfl) ?_)
  | ((with_reducible show wpList _ _ _ (⟨_,.store 28 (.tmp 4) _,_,_,_,_⟩ :: _) _ _);refine stR (w.heap.size) _ (pkC P sv0) (by rfl) (by rfl) (by exact heap_keep (heap_keep R0.out)) (by rfl) (by rfl) (pkc_one _ _) ?_))
 refine bodyPost_ret (v:=.agg _) (results_cell_row (by rfl) _ _ (w.heap.size) 28 _ (0,0) _ (by rfl) (setRow_heap _ _ _ _ _ _ (by exact heap_keep (heap_keep R0.out))) Try.underlying28 (by rfl) (by exact pk_sz)) (by rfl) ⟨sv0,rfl,?_⟩
 exact par_fin (w1.heap.size+1) (by omega) (nil_row rfl rfl (by show P.pay.length=0;rw [FF.out.2.2.1];rfl) (by show Lib.byteCells P.pay=[];rw [FF.out.2.2.1];rfl)) (nil_row rfl rfl (by show P.wpay.length=0;rw [FF.out.2.2.2.1];rfl) (by show Lib.byteCells P.wpay=[];rw [FF.out.2.2.2.1];rfl)) (nil_row rfl rfl (by show P.pass.length=0;rw [FF.out.2.2.2.2.1];rfl) (by show Lib.byteCells P.pass=[];rw [FF.out.2.2.2.2.1];rfl)) (nil_row rfl rfl (by show P.subs.length=0;rw [FF.out.2.2.2.2.2.1];rfl) (by show subCells P.subs=[];rw [FF.out.2.2.2.2.2.1];rfl)) (nil_row rfl rfl (by show P.codes.length=0;rw [FF.out.2.2.2.2.2.2];rfl) (by show intCells P.codes=[];rw [FF.out.2.2.2.2.2.2];rfl)) (((B1.out.alloc (by omega) _).alloc (by simp;omega) _)) _
theorem parse_14 (c:Int)(h0:0≤c)(h1:c≤255)(hj:c / 16=14)(l:List UInt8)(ad:Addr)(cap:Nat)(w:World)(hv:BytesAt w w.heap.size (.slice (some ad) l.length cap) l)(hm:l.length≤1000000) :
  Calls Try.prog 54 #[.int .u8 c,.slice (some ad) l.length cap] w (ParPost w (parR c l)):=by
 have HH:=Lib.hid (fun W=>headOf_any c h0 h1 W)
 have F:=hdP_f c
 have k1:((hdP c).kind==1)=false:=by rw [F.1,hj];rfl
 have k2:((hdP c).kind==2)=false:=by rw [F.1,hj];rfl
 have k3:((hdP c).kind==3)=false:=by rw [F.1,hj];rfl
 have k4:((hdP c).kind==4)=false:=by rw [F.1,hj];rfl
 have k5:((hdP c).kind==5)=false:=by rw [F.1,hj];rfl
 have k6:((hdP c).kind==6)=false:=by rw [F.1,hj];rfl
 have k7:((hdP c).kind==7)=false:=by rw [F.1,hj];rfl
 have k11:((hdP c).kind==11)=false:=by rw [F.1,hj];rfl
 have k8:((hdP c).kind==8)=false:=by rw [F.1,hj];rfl
 have k10:((hdP c).kind==10)=false:=by rw [F.1,hj];rfl
 have k9:((hdP c).kind==9)=false:=by rw [F.1,hj];rfl
 have EQ:parR c l=hdP c:=by
  unfold parR
  simp only [k1,k2,k3,k4,k5,k6,k7,k11,k8,k10,k9]
  try rfl
 rw [EQ]
 have FF:=Lib.hid F
 clear EQ F hj
 generalize hdP c=P at *
 have HV:=Lib.hid hv
 clear hv
 go_enter Try.func54,Try.ntmps54
 go_wp2_with fail
 refine (HH.out _).mono ?_
 rintro e w1 ⟨rfl,hb1⟩
 have r0:=heap_below hb1 (heap_alloc_last _ _)
 have R0:=Lib.hid r0
 have z1:w.heap.size<w1.heap.size:=by have:=hb1.size;simp at this;omega
 have B1:Hid (Below w.heap.size w w1):=Lib.hid (thn ((Below.refl w.heap.size w).alloc (Nat.le_refl _) _) hb1)
 clear r0 hb1 HH
 go_wp2_with (first
  | ((with_reducible show wpList _ _ _ (⟨_,.store 28 (.tmp 5) _,_,_,_,_⟩ :: _) _ _);refine stLst (w1.heap.size) (by rfl) _ (pkC P sv0) (by rfl) (by rfl) (by rfl) (by rfl) (pkc_one _ _) ?_)
  | ((with_reducible show wpList _ _ _ (⟨_,.load 28 (.tmp 5),_,_,_,_⟩ :: _) _ _);refine ld_pk (w1.heap.size) (by rfl) (by rfl) (pkC P sv0) _ _ (by exact heap_keep (heap_alloc_last _ _)) (by rfl) ?_)
  | ((with_reducible show wpList _ _ _ (⟨_,.store 28 (.tmp 4) _,_,_,_,_⟩ :: _) _ _);refine stR (w.heap.size) _ (pkC P sv0) (by rfl) (by rfl) (by exact heap_keep (heap_keep R0.out)) (by rfl) (by rfl) (pkc_one _ _) ?_))
 refine bodyPost_ret (v:=.agg _) (results_cell_row (by rfl) _ _ (w.heap.size) 28 _ (0,0) _ (by rfl) (setRow_heap _ _ _ _ _ _ (by exact heap_keep (heap_keep R0.out))) Try.underlying28 (by rfl) (by exact pk_sz)) (by rfl) ⟨sv0,rfl,?_⟩
 exact par_fin (w1.heap.size+1) (by omega) (nil_row rfl rfl (by show P.pay.length=0;rw [FF.out.2.2.1];rfl) (by show Lib.byteCells P.pay=[];rw [FF.out.2.2.1];rfl)) (nil_row rfl rfl (by show P.wpay.length=0;rw [FF.out.2.2.2.1];rfl) (by show Lib.byteCells P.wpay=[];rw [FF.out.2.2.2.1];rfl)) (nil_row rfl rfl (by show P.pass.length=0;rw [FF.out.2.2.2.2.1];rfl) (by show Lib.byteCells P.pass=[];rw [FF.out.2.2.2.2.1];rfl)) (nil_row rfl rfl (by show P.subs.length=0;rw [FF.out.2.2.2.2.2.1];rfl) (by show subCells P.subs=[];rw [FF.out.2.2.2.2.2.1];rfl)) (nil_row rfl rfl (by show P.codes.length=0;rw [FF.out.2.2.2.2.2.2];rfl) (by show intCells P.codes=[];rw [FF.out.2.2.2.2.2.2];rfl)) (((B1.out.alloc (by omega) _).alloc (by simp;omega) _)) _
theorem parse_3 (c:Int)(h0:0≤c)(h1:c≤255)(hj:c / 16=3)(l:List UInt8)(ad:Addr)(cap:Nat)(w:World)(hv:BytesAt w w.heap.size (.slice (some ad) l.length cap) l)(hm:l.length≤1000000) :
  Calls Try.prog 54 #[.int .u8 c,.slice (some ad) l.length cap] w (ParPost w (parR c l)):=by
 have HH:=Lib.hid (fun W=>headOf_any c h0 h1 W)
 have F:=hdP_f c
 have k1:((hdP c).kind==1)=false:=by rw [F.1,hj];rfl
 have k2:((hdP c).kind==2)=false:=by rw [F.1,hj];rfl
 have k3:((hdP c).kind==3)=true:=by rw [F.1,hj];rfl
 have k4:((hdP c).kind==4)=false:=by rw [F.1,hj];rfl
 have k5:((hdP c).kind==5)=false:=by rw [F.1,hj];rfl
 have k6:((hdP c).kind==6)=false:=by rw [F.1,hj];rfl
 have k7:((hdP c).kind==7)=false:=by rw [F.1,hj];rfl
 have k11:((hdP c).kind==11)=false:=by rw [F.1,hj];rfl
 have k8:((hdP c).kind==8)=false:=by rw [F.1,hj];rfl
 have k10:((hdP c).kind==10)=false:=by rw [F.1,hj];rfl
 have k9:((hdP c).kind==9)=false:=by rw [F.1,hj];rfl
 have EQ:parR c l={hdP c with top:=bytesOfL (gotL l),id:=if (hdP c).qos==0 then (hdP c).id else numL ((leftL l).take 2),pay:=if (hdP c).qos==0 then leftL l else (leftL l).drop 2}:=by
  unfold parR
  simp only [k1,k2,k3,k4,k5,k6,k7,k11,k8,k10,k9,F.2.1,if_true,if_false,Bool.false_eq_true]
  try rfl
 rw [EQ]
 have PB:=fun (W:World) (b r:Nat) (hrd:RdAt W w.heap.size r ad cap l) (hb:b<r) (hB:w.heap.size≤b) (hp:W.heap[b]? = some (.cells (pkC (hdP c) sv0) 28))=>pub_any w.heap.size b r ad cap l (hdP c) sv0 W hrd hb hB hp (by omega)
 generalize (if (hdP c).qos==0 then leftL l else (leftL l).drop 2)=PY at *
 generalize (if (hdP c).qos==0 then (hdP c).id else numL ((leftL l).take 2))=ID at *
 generalize bytesOfL (gotL l)=TP at *
 have PB':=Lib.hid PB
 clear PB
 have FF:=Lib.hid F
 clear EQ F hj
 generalize hdP c=P at *
 have HV:=Lib.hid hv
 clear hv
 go_enter Try.func54,Try.ntmps54
 go_wp2_with fail
 refine (HH.out _).mono ?_
 rintro e w1 ⟨rfl,hb1⟩
 have r0:=heap_below hb1 (heap_alloc_last _ _)
 have R0:=Lib.hid r0
 have z1:w.heap.size<w1.heap.size:=by have:=hb1.size;simp at this;omega
 have B1:Hid (Below w.heap.size w w1):=Lib.hid (thn ((Below.refl w.heap.size w).alloc (Nat.le_refl _) _) hb1)
 clear r0 hb1 HH
 go_wp2_with ((with_reducible show wpList _ _ _ (⟨_,.store 28 (.tmp 5) _,_,_,_,_⟩ :: _) _ _);refine stLst (w1.heap.size) (by rfl) _ (pkC P sv0) (by rfl) (by rfl) (by rfl) (by rfl) (pkc_one _ _) ?_)
 refine (PB'.out _ w1.heap.size (w1.heap.size+1) ⟨heap_last2 _ _ _,HV.out.below ((B1.out.alloc (by omega) _).alloc (by simp;omega) _),by omega⟩ (by omega) (by omega) (heap_keep (heap_alloc_last _ _))).mono ?_
 rintro e w2 ⟨A',c',rfl,row2,o2,hb2⟩
 have Q0:Hid (w2.heap[w.heap.size]? = _):=Lib.hid ((hb2.block _ (by omega)).trans (heap_keep (heap_keep R0.out)))
 have ROW:=Lib.hid row2
 have O2:=Lib.hid o2
 have HB2:=Lib.hid hb2
 clear row2 o2 hb2
 go_wp2_with (first
  | ((with_reducible show wpList _ _ _ (⟨_,.load 28 (.tmp 5),_,_,_,_⟩ :: _) _ _);refine ld_pk (w1.heap.size) (by rfl) (by rfl) (pkC ({P with top:=TP,id:=ID,pay:=PY}) ({sv0 with pA:=A',pC:=c'})) _ _ (by exact ROW.out) (by rfl) ?_)
  | ((with_reducible show wpList _ _ _ (⟨_,.store 28 (.tmp 4) _,_,_,_,_⟩ :: _) _ _);refine stR (w.heap.size) _ (pkC ({P with top:=TP,id:=ID,pay:=PY}) ({sv0 with pA:=A',pC:=c'})) (by rfl) (by rfl) (by exact Q0.out) (by rfl) (by rfl) (pkc_one _ _) ?_))
 refine bodyPost_ret (v:=.agg _) (results_cell_row (by rfl) _ _ (w.heap.size) 28 _ (0,0) _ (by rfl) (setRow_heap _ _ _ _ _ _ (by exact Q0.out)) Try.underlying28 (by rfl) (by exact pk_sz)) (by rfl) ⟨{sv0 with pA:=A',pC:=c'},rfl,?_⟩
 exact par_fin (w1.heap.size+1) (by omega) (own_mono3 O2.out (by simp)) (nil_row rfl rfl (by show P.wpay.length=0;rw [FF.out.2.2.2.1];rfl) (by show Lib.byteCells P.wpay=[];rw [FF.out.2.2.2.1];rfl)) (nil_row rfl rfl (by show P.pass.length=0;rw [FF.out.2.2.2.2.1];rfl) (by show Lib.byteCells P.pass=[];rw [FF.out.2.2.2.2.1];rfl)) (nil_row rfl rfl (by show P.subs.length=0;rw [FF.out.2.2.2.2.2.1];rfl) (by show subCells P.subs=[];rw [FF.out.2.2.2.2.2.1];rfl)) (nil_row rfl rfl (by show P.codes.length=0;rw [FF.out.2.2.2.2.2.2];rfl) (by show intCells P.codes=[];rw [FF.out.2.2.2.2.2.2];rfl)) (((B1.out.alloc (by omega) _).alloc (by simp;omega) _).trans (HB2.out.mono (by omega))) _
theorem parse_4 (c:Int)(h0:0≤c)(h1:c≤255)(hj:c / 16=4)(l:List UInt8)(ad:Addr)(cap:Nat)(w:World)(hv:BytesAt w w.heap.size (.slice (some ad) l.length cap) l)(hm:l.length≤1000000) :
  Calls Try.prog 54 #[.int .u8 c,.slice (some ad) l.length cap] w (ParPost w (parR c l)):=by
 have HH:=Lib.hid (fun W=>headOf_any c h0 h1 W)
 have F:=hdP_f c
 have k1:((hdP c).kind==1)=false:=by rw [F.1,hj];rfl
 have k2:((hdP c).kind==2)=false:=by rw [F.1,hj];rfl
 have k3:((hdP c).kind==3)=false:=by rw [F.1,hj];rfl
 have k4:((hdP c).kind==4)=true:=by rw [F.1,hj];rfl
 have k5:((hdP c).kind==5)=false:=by rw [F.1,hj];rfl
 have k6:((hdP c).kind==6)=false:=by rw [F.1,hj];rfl
 have k7:((hdP c).kind==7)=false:=by rw [F.1,hj];rfl
 have k11:((hdP c).kind==11)=false:=by rw [F.1,hj];rfl
 have k8:((hdP c).kind==8)=false:=by rw [F.1,hj];rfl
 have k10:((hdP c).kind==10)=false:=by rw [F.1,hj];rfl
 have k9:((hdP c).kind==9)=false:=by rw [F.1,hj];rfl
 have EQ:parR c l={hdP c with id:=numL (l.take 2)}:=by
  unfold parR
  simp only [k1,k2,k3,k4,k5,k6,k7,k11,k8,k10,k9]
  try rfl
 rw [EQ]
 have FF:=Lib.hid F
 clear EQ F hj
 generalize hdP c=P at *
 have HV:=Lib.hid hv
 clear hv
 go_enter Try.func54,Try.ntmps54
 go_wp2_with fail
 refine (HH.out _).mono ?_
 rintro e w1 ⟨rfl,hb1⟩
 have r0:=heap_below hb1 (heap_alloc_last _ _)
 have R0:=Lib.hid r0
 have z1:w.heap.size<w1.heap.size:=by have:=hb1.size;simp at this;omega
 have B1:Hid (Below w.heap.size w w1):=Lib.hid (thn ((Below.refl w.heap.size w).alloc (Nat.le_refl _) _) hb1)
 clear r0 hb1 HH
 go_wp2_with ((with_reducible show wpList _ _ _ (⟨_,.store 28 (.tmp 5) _,_,_,_,_⟩ :: _) _ _);refine stLst (w1.heap.size) (by rfl) _ (pkC P sv0) (by rfl) (by rfl) (by rfl) (by rfl) (pkc_one _ _) ?_)
 refine (number_any w.heap.size (w1.heap.size+1) ad cap 2 l _ ⟨heap_last2 _ _ _,HV.out.below ((B1.out.alloc (by omega) _).alloc (by simp;omega) _),by omega⟩ (by omega)).mono ?_
 generalize numL (l.take 2)=ID at *
 rintro e w2 ⟨rfl,⟨ad2,c2,hr2⟩,hb2⟩
 have ROW:Hid (w2.heap[w1.heap.size]? = some (.cells (pkC P sv0) 28)):=Lib.hid ((hb2.below.block _ (by omega)).trans (heap_keep (heap_alloc_last _ _)))
 have rc:=row_cells ROW.out
 have rf:=fun k=>frozen_of_row w2 w1.heap.size k _ _ ROW.out
 have ROW':=Lib.hid (put_row (p':={P with id:=ID}) (s':=sv0) 4 (.int .i64 ID) ROW.out rfl)
 have Q0:=Lib.hid ((Below.heap_setCell w2 ⟨w1.heap.size,4,none⟩ (.int .i64 ID) w.heap.size (by show w.heap.size≠w1.heap.size;omega)).trans ((hb2.below.block _ (by omega)).trans (heap_keep (heap_keep R0.out))))
 have HB2:=Lib.hid hb2
 clear hb2 hr2
 go_wp2_with (first
  | ((with_reducible show wpList _ _ _ (⟨_,.load 28 (.tmp 5),_,_,_,_⟩ :: _) _ _);refine ld_pk (w1.heap.size) (by rfl) (by rfl) (pkC ({P with id:=ID}) (sv0)) _ _ (by exact ROW'.out) (by rfl) ?_)
  | ((with_reducible show wpList _ _ _ (⟨_,.store 28 (.tmp 4) _,_,_,_,_⟩ :: _) _ _);refine stR (w.heap.size) _ (pkC ({P with id:=ID}) (sv0)) (by rfl) (by rfl) (by exact Q0.out) (by rfl) (by rfl) (pkc_one _ _) ?_))
 refine bodyPost_ret (v:=.agg _) (results_cell_row (by rfl) _ _ (w.heap.size) 28 _ (0,0) _ (by rfl) (setRow_heap _ _ _ _ _ _ (by exact Q0.out)) Try.underlying28 (by rfl) (by exact pk_sz)) (by rfl) ⟨sv0,rfl,?_⟩
 exact par_fin (w1.heap.size+1) (by omega) (nil_row rfl rfl (by show P.pay.length=0;rw [FF.out.2.2.1];rfl) (by show Lib.byteCells P.pay=[];rw [FF.out.2.2.1];rfl)) (nil_row rfl rfl (by show P.wpay.length=0;rw [FF.out.2.2.2.1];rfl) (by show Lib.byteCells P.wpay=[];rw [FF.out.2.2.2.1];rfl)) (nil_row rfl rfl (by show P.pass.length=0;rw [FF.out.2.2.2.2.1];rfl) (by show Lib.byteCells P.pass=[];rw [FF.out.2.2.2.2.1];rfl)) (nil_row rfl rfl (by show P.subs.length=0;rw [FF.out.2.2.2.2.2.1];rfl) (by show subCells P.subs=[];rw [FF.out.2.2.2.2.2.1];rfl)) (nil_row rfl rfl (by show P.codes.length=0;rw [FF.out.2.2.2.2.2.2];rfl) (by show intCells P.codes=[];rw [FF.out.2.2.2.2.2.2];rfl)) ((((B1.out.alloc (by omega) _).alloc (by simp;omega) _).trans (HB2.out.below.mono (by omega))).setCell (p:=⟨w1.heap.size,4,none⟩) (by show w.heap.size≤w1.heap.size;omega) _) _
theorem parse_5 (c:Int)(h0:0≤c)(h1:c≤255)(hj:c / 16=5)(l:List UInt8)(ad:Addr)(cap:Nat)(w:World)(hv:BytesAt w w.heap.size (.slice (some ad) l.length cap) l)(hm:l.length≤1000000) :
  Calls Try.prog 54 #[.int .u8 c,.slice (some ad) l.length cap] w (ParPost w (parR c l)):=by
 have HH:=Lib.hid (fun W=>headOf_any c h0 h1 W)
 have F:=hdP_f c
 have k1:((hdP c).kind==1)=false:=by rw [F.1,hj];rfl
 have k2:((hdP c).kind==2)=false:=by rw [F.1,hj];rfl
 have k3:((hdP c).kind==3)=false:=by rw [F.1,hj];rfl
 have k4:((hdP c).kind==4)=false:=by rw [F.1,hj];rfl
 have k5:((hdP c).kind==5)=true:=by rw [F.1,hj];rfl
 have k6:((hdP c).kind==6)=false:=by rw [F.1,hj];rfl
 have k7:((hdP c).kind==7)=false:=by rw [F.1,hj];rfl
 have k11:((hdP c).kind==11)=false:=by rw [F.1,hj];rfl
 have k8:((hdP c).kind==8)=false:=by rw [F.1,hj];rfl
 have k10:((hdP c).kind==10)=false:=by rw [F.1,hj];rfl
 have k9:((hdP c).kind==9)=false:=by rw [F.1,hj];rfl
 have EQ:parR c l={hdP c with id:=numL (l.take 2)}:=by
  unfold parR
  simp only [k1,k2,k3,k4,k5,k6,k7,k11,k8,k10,k9]
  try rfl
 rw [EQ]
 have FF:=Lib.hid F
 clear EQ F hj
 generalize hdP c=P at *
 have HV:=Lib.hid hv
 clear hv
 go_enter Try.func54,Try.ntmps54
 go_wp2_with fail
 refine (HH.out _).mono ?_
 rintro e w1 ⟨rfl,hb1⟩
 have r0:=heap_below hb1 (heap_alloc_last _ _)
 have R0:=Lib.hid r0
 have z1:w.heap.size<w1.heap.size:=by have:=hb1.size;simp at this;omega
 have B1:Hid (Below w.heap.size w w1):=Lib.hid (thn ((Below.refl w.heap.size w).alloc (Nat.le_refl _) _) hb1)
 clear r0 hb1 HH
 go_wp2_with ((with_reducible show wpList _ _ _ (⟨_,.store 28 (.tmp 5) _,_,_,_,_⟩ :: _) _ _);refine stLst (w1.heap.size) (by rfl) _ (pkC P sv0) (by rfl) (by rfl) (by rfl) (by rfl) (pkc_one _ _) ?_)
 refine (number_any w.heap.size (w1.heap.size+1) ad cap 2 l _ ⟨heap_last2 _ _ _,HV.out.below ((B1.out.alloc (by omega) _).alloc (by simp;omega) _),by omega⟩ (by omega)).mono ?_
 generalize numL (l.take 2)=ID at *
 rintro e w2 ⟨rfl,⟨ad2,c2,hr2⟩,hb2⟩
 have ROW:Hid (w2.heap[w1.heap.size]? = some (.cells (pkC P sv0) 28)):=Lib.hid ((hb2.below.block _ (by omega)).trans (heap_keep (heap_alloc_last _ _)))
 have rc:=row_cells ROW.out
 have rf:=fun k=>frozen_of_row w2 w1.heap.size k _ _ ROW.out
 have ROW':=Lib.hid (put_row (p':={P with id:=ID}) (s':=sv0) 4 (.int .i64 ID) ROW.out rfl)
 have Q0:=Lib.hid ((Below.heap_setCell w2 ⟨w1.heap.size,4,none⟩ (.int .i64 ID) w.heap.size (by show w.heap.size≠w1.heap.size;omega)).trans ((hb2.below.block _ (by omega)).trans (heap_keep (heap_keep R0.out))))
 have HB2:=Lib.hid hb2
 clear hb2 hr2
 go_wp2_with (first
  | ((with_reducible show wpList _ _ _ (⟨_,.load 28 (.tmp 5),_,_,_,_⟩ :: _) _ _);refine ld_pk (w1.heap.size) (by rfl) (by rfl) (pkC ({P with id:=ID}) (sv0)) _ _ (by exact ROW'.out) (by rfl) ?_)
  | ((with_reducible show wpList _ _ _ (⟨_,.store 28 (.tmp 4) _,_,_,_,_⟩ :: _) _ _);refine stR (w.heap.size) _ (pkC ({P with id:=ID}) (sv0)) (by rfl) (by rfl) (by exact Q0.out) (by rfl) (by rfl) (pkc_one _ _) ?_))
 refine bodyPost_ret (v:=.agg _) (results_cell_row (by rfl) _ _ (w.heap.size) 28 _ (0,0) _ (by rfl) (setRow_heap _ _ _ _ _ _ (by exact Q0.out)) Try.underlying28 (by rfl) (by exact pk_sz)) (by rfl) ⟨sv0,rfl,?_⟩
 exact par_fin (w1.heap.size+1) (by omega) (nil_row rfl rfl (by show P.pay.length=0;rw [FF.out.2.2.1];rfl) (by show Lib.byteCells P.pay=[];rw [FF.out.2.2.1];rfl)) (nil_row rfl rfl (by show P.wpay.length=0;rw [FF.out.2.2.2.1];rfl) (by show Lib.byteCells P.wpay=[];rw [FF.out.2.2.2.1];rfl)) (nil_row rfl rfl (by show P.pass.length=0;rw [FF.out.2.2.2.2.1];rfl) (by show Lib.byteCells P.pass=[];rw [FF.out.2.2.2.2.1];rfl)) (nil_row rfl rfl (by show P.subs.length=0;rw [FF.out.2.2.2.2.2.1];rfl) (by show subCells P.subs=[];rw [FF.out.2.2.2.2.2.1];rfl)) (nil_row rfl rfl (by show P.codes.length=0;rw [FF.out.2.2.2.2.2.2];rfl) (by show intCells P.codes=[];rw [FF.out.2.2.2.2.2.2];rfl)) ((((B1.out.alloc (by omega) _).alloc (by simp;omega) _).trans (HB2.out.below.mono (by omega))).setCell (p:=⟨w1.heap.size,4,none⟩) (by show w.heap.size≤w1.heap.size;omega) _) _
theorem parse_6 (c:Int)(h0:0≤c)(h1:c≤255)(hj:c / 16=6)(l:List UInt8)(ad:Addr)(cap:Nat)(w:World)(hv:BytesAt w w.heap.size (.slice (some ad) l.length cap) l)(hm:l.length≤1000000) :
  Calls Try.prog 54 #[.int .u8 c,.slice (some ad) l.length cap] w (ParPost w (parR c l)):=by
 have HH:=Lib.hid (fun W=>headOf_any c h0 h1 W)
 have F:=hdP_f c
 have k1:((hdP c).kind==1)=false:=by rw [F.1,hj];rfl
 have k2:((hdP c).kind==2)=false:=by rw [F.1,hj];rfl
 have k3:((hdP c).kind==3)=false:=by rw [F.1,hj];rfl
 have k4:((hdP c).kind==4)=false:=by rw [F.1,hj];rfl
 have k5:((hdP c).kind==5)=false:=by rw [F.1,hj];rfl
 have k6:((hdP c).kind==6)=true:=by rw [F.1,hj];rfl
 have k7:((hdP c).kind==7)=false:=by rw [F.1,hj];rfl
 have k11:((hdP c).kind==11)=false:=by rw [F.1,hj];rfl
 have k8:((hdP c).kind==8)=false:=by rw [F.1,hj];rfl
 have k10:((hdP c).kind==10)=false:=by rw [F.1,hj];rfl
 have k9:((hdP c).kind==9)=false:=by rw [F.1,hj];rfl
 have EQ:parR c l={hdP c with id:=numL (l.take 2)}:=by
  unfold parR
  simp only [k1,k2,k3,k4,k5,k6,k7,k11,k8,k10,k9]
  try rfl
 rw [EQ]
 have FF:=Lib.hid F
 clear EQ F hj
 generalize hdP c=P at *
 have HV:=Lib.hid hv
 clear hv
 go_enter Try.func54,Try.ntmps54
 go_wp2_with fail
 refine (HH.out _).mono ?_
 rintro e w1 ⟨rfl,hb1⟩
 have r0:=heap_below hb1 (heap_alloc_last _ _)
 have R0:=Lib.hid r0
 have z1:w.heap.size<w1.heap.size:=by have:=hb1.size;simp at this;omega
 have B1:Hid (Below w.heap.size w w1):=Lib.hid (thn ((Below.refl w.heap.size w).alloc (Nat.le_refl _) _) hb1)
 clear r0 hb1 HH
 go_wp2_with ((with_reducible show wpList _ _ _ (⟨_,.store 28 (.tmp 5) _,_,_,_,_⟩ :: _) _ _);refine stLst (w1.heap.size) (by rfl) _ (pkC P sv0) (by rfl) (by rfl) (by rfl) (by rfl) (pkc_one _ _) ?_)
 refine (number_any w.heap.size (w1.heap.size+1) ad cap 2 l _ ⟨heap_last2 _ _ _,HV.out.below ((B1.out.alloc (by omega) _).alloc (by simp;omega) _),by omega⟩ (by omega)).mono ?_
 generalize numL (l.take 2)=ID at *
 rintro e w2 ⟨rfl,⟨ad2,c2,hr2⟩,hb2⟩
 have ROW:Hid (w2.heap[w1.heap.size]? = some (.cells (pkC P sv0) 28)):=Lib.hid ((hb2.below.block _ (by omega)).trans (heap_keep (heap_alloc_last _ _)))
 have rc:=row_cells ROW.out
 have rf:=fun k=>frozen_of_row w2 w1.heap.size k _ _ ROW.out
 have ROW':=Lib.hid (put_row (p':={P with id:=ID}) (s':=sv0) 4 (.int .i64 ID) ROW.out rfl)
 have Q0:=Lib.hid ((Below.heap_setCell w2 ⟨w1.heap.size,4,none⟩ (.int .i64 ID) w.heap.size (by show w.heap.size≠w1.heap.size;omega)).trans ((hb2.below.block _ (by omega)).trans (heap_keep (heap_keep R0.out))))
 have HB2:=Lib.hid hb2
 clear hb2 hr2
 go_wp2_with (first
  | ((with_reducible show wpList _ _ _ (⟨_,.load 28 (.tmp 5),_,_,_,_⟩ :: _) _ _);refine ld_pk (w1.heap.size) (by rfl) (by rfl) (pkC ({P with id:=ID}) (sv0)) _ _ (by exact ROW'.out) (by rfl) ?_)
  | ((with_reducible show wpList _ _ _ (⟨_,.store 28 (.tmp 4) _,_,_,_,_⟩ :: _) _ _);refine stR (w.heap.size) _ (pkC ({P with id:=ID}) (sv0)) (by rfl) (by rfl) (by exact Q0.out) (by rfl) (by rfl) (pkc_one _ _) ?_))
 refine bodyPost_ret (v:=.agg _) (results_cell_row (by rfl) _ _ (w.heap.size) 28 _ (0,0) _ (by rfl) (setRow_heap _ _ _ _ _ _ (by exact Q0.out)) Try.underlying28 (by rfl) (by exact pk_sz)) (by rfl) ⟨sv0,rfl,?_⟩
 exact par_fin (w1.heap.size+1) (by omega) (nil_row rfl rfl (by show P.pay.length=0;rw [FF.out.2.2.1];rfl) (by show Lib.byteCells P.pay=[];rw [FF.out.2.2.1];rfl)) (nil_row rfl rfl (by show P.wpay.length=0;rw [FF.out.2.2.2.1];rfl) (by show Lib.byteCells P.wpay=[];rw [FF.out.2.2.2.1];rfl)) (nil_row rfl rfl (by show P.pass.length=0;rw [FF.out.2.2.2.2.1];rfl) (by show Lib.byteCells P.pass=[];rw [FF.out.2.2.2.2.1];rfl)) (nil_row rfl rfl (by show P.subs.length=0;rw [FF.out.2.2.2.2.2.1];rfl) (by show subCells P.subs=[];rw [FF.out.2.2.2.2.2.1];rfl)) (nil_row rfl rfl (by show P.codes.length=0;rw [FF.out.2.2.2.2.2.2];rfl) (by show intCells P.codes=[];rw [FF.out.2.2.2.2.2.2];rfl)) ((((B1.out.alloc (by omega) _).alloc (by simp;omega) _).trans (HB2.out.below.mono (by omega))).setCell (p:=⟨w1.heap.size,4,none⟩) (by show w.heap.size≤w1.heap.size;omega) _) _
theorem parse_7 (c:Int)(h0:0≤c)(h1:c≤255)(hj:c / 16=7)(l:List UInt8)(ad:Addr)(cap:Nat)(w:World)(hv:BytesAt w w.heap.size (.slice (some ad) l.length cap) l)(hm:l.length≤1000000) :
  Calls Try.prog 54 #[.int .u8 c,.slice (some ad) l.length cap] w (ParPost w (parR c l)):=by
 have HH:=Lib.hid (fun W=>headOf_any c h0 h1 W)
 have F:=hdP_f c
 have k1:((hdP c).kind==1)=false:=by rw [F.1,hj];rfl
 have k2:((hdP c).kind==2)=false:=by rw [F.1,hj];rfl
 have k3:((hdP c).kind==3)=false:=by rw [F.1,hj];rfl
 have k4:((hdP c).kind==4)=false:=by rw [F.1,hj];rfl
 have k5:((hdP c).kind==5)=false:=by rw [F.1,hj];rfl
 have k6:((hdP c).kind==6)=false:=by rw [F.1,hj];rfl
 have k7:((hdP c).kind==7)=true:=by rw [F.1,hj];rfl
 have k11:((hdP c).kind==11)=false:=by rw [F.1,hj];rfl
 have k8:((hdP c).kind==8)=false:=by rw [F.1,hj];rfl
 have k10:((hdP c).kind==10)=false:=by rw [F.1,hj];rfl
 have k9:((hdP c).kind==9)=false:=by rw [F.1,hj];rfl
 have EQ:parR c l={hdP c with id:=numL (l.take 2)}:=by
  unfold parR
  simp only [k1,k2,k3,k4,k5,k6,k7,k11,k8,k10,k9]
  try rfl
 rw [EQ]
 have FF:=Lib.hid F
 clear EQ F hj
 generalize hdP c=P at *
 have HV:=Lib.hid hv
 clear hv
 go_enter Try.func54,Try.ntmps54
 go_wp2_with fail
 refine (HH.out _).mono ?_
 rintro e w1 ⟨rfl,hb1⟩
 have r0:=heap_below hb1 (heap_alloc_last _ _)
 have R0:=Lib.hid r0
 have z1:w.heap.size<w1.heap.size:=by have:=hb1.size;simp at this;omega
 have B1:Hid (Below w.heap.size w w1):=Lib.hid (thn ((Below.refl w.heap.size w).alloc (Nat.le_refl _) _) hb1)
 clear r0 hb1 HH
 go_wp2_with ((with_reducible show wpList _ _ _ (⟨_,.store 28 (.tmp 5) _,_,_,_,_⟩ :: _) _ _);refine stLst (w1.heap.size) (by rfl) _ (pkC P sv0) (by rfl) (by rfl) (by rfl) (by rfl) (pkc_one _ _) ?_)
 refine (number_any w.heap.size (w1.heap.size+1) ad cap 2 l _ ⟨heap_last2 _ _ _,HV.out.below ((B1.out.alloc (by omega) _).alloc (by simp;omega) _),by omega⟩ (by omega)).mono ?_
 generalize numL (l.take 2)=ID at *
 rintro e w2 ⟨rfl,⟨ad2,c2,hr2⟩,hb2⟩
 have ROW:Hid (w2.heap[w1.heap.size]? = some (.cells (pkC P sv0) 28)):=Lib.hid ((hb2.below.block _ (by omega)).trans (heap_keep (heap_alloc_last _ _)))
 have rc:=row_cells ROW.out
 have rf:=fun k=>frozen_of_row w2 w1.heap.size k _ _ ROW.out
 have ROW':=Lib.hid (put_row (p':={P with id:=ID}) (s':=sv0) 4 (.int .i64 ID) ROW.out rfl)
 have Q0:=Lib.hid ((Below.heap_setCell w2 ⟨w1.heap.size,4,none⟩ (.int .i64 ID) w.heap.size (by show w.heap.size≠w1.heap.size;omega)).trans ((hb2.below.block _ (by omega)).trans (heap_keep (heap_keep R0.out))))
 have HB2:=Lib.hid hb2
 clear hb2 hr2
 go_wp2_with (first
  | ((with_reducible show wpList _ _ _ (⟨_,.load 28 (.tmp 5),_,_,_,_⟩ :: _) _ _);refine ld_pk (w1.heap.size) (by rfl) (by rfl) (pkC ({P with id:=ID}) (sv0)) _ _ (by exact ROW'.out) (by rfl) ?_)
  | ((with_reducible show wpList _ _ _ (⟨_,.store 28 (.tmp 4) _,_,_,_,_⟩ :: _) _ _);refine stR (w.heap.size) _ (pkC ({P with id:=ID}) (sv0)) (by rfl) (by rfl) (by exact Q0.out) (by rfl) (by rfl) (pkc_one _ _) ?_))
 refine bodyPost_ret (v:=.agg _) (results_cell_row (by rfl) _ _ (w.heap.size) 28 _ (0,0) _ (by rfl) (setRow_heap _ _ _ _ _ _ (by exact Q0.out)) Try.underlying28 (by rfl) (by exact pk_sz)) (by rfl) ⟨sv0,rfl,?_⟩
 exact par_fin (w1.heap.size+1) (by omega) (nil_row rfl rfl (by show P.pay.length=0;rw [FF.out.2.2.1];rfl) (by show Lib.byteCells P.pay=[];rw [FF.out.2.2.1];rfl)) (nil_row rfl rfl (by show P.wpay.length=0;rw [FF.out.2.2.2.1];rfl) (by show Lib.byteCells P.wpay=[];rw [FF.out.2.2.2.1];rfl)) (nil_row rfl rfl (by show P.pass.length=0;rw [FF.out.2.2.2.2.1];rfl) (by show Lib.byteCells P.pass=[];rw [FF.out.2.2.2.2.1];rfl)) (nil_row rfl rfl (by show P.subs.length=0;rw [FF.out.2.2.2.2.2.1];rfl) (by show subCells P.subs=[];rw [FF.out.2.2.2.2.2.1];rfl)) (nil_row rfl rfl (by show P.codes.length=0;rw [FF.out.2.2.2.2.2.2];rfl) (by show intCells P.codes=[];rw [FF.out.2.2.2.2.2.2];rfl)) ((((B1.out.alloc (by omega) _).alloc (by simp;omega) _).trans (HB2.out.below.mono (by omega))).setCell (p:=⟨w1.heap.size,4,none⟩) (by show w.heap.size≤w1.heap.size;omega) _) _
theorem parse_11 (c:Int)(h0:0≤c)(h1:c≤255)(hj:c / 16=11)(l:List UInt8)(ad:Addr)(cap:Nat)(w:World)(hv:BytesAt w w.heap.size (.slice (some ad) l.length cap) l)(hm:l.length≤1000000) :
  Calls Try.prog 54 #[.int .u8 c,.slice (some ad) l.length cap] w (ParPost w (parR c l)):=by
 have HH:=Lib.hid (fun W=>headOf_any c h0 h1 W)
 have F:=hdP_f c
 have k1:((hdP c).kind==1)=false:=by rw [F.1,hj];rfl
 have k2:((hdP c).kind==2)=false:=by rw [F.1,hj];rfl
 have k3:((hdP c).kind==3)=false:=by rw [F.1,hj];rfl
 have k4:((hdP c).kind==4)=false:=by rw [F.1,hj];rfl
 have k5:((hdP c).kind==5)=false:=by rw [F.1,hj];rfl
 have k6:((hdP c).kind==6)=false:=by rw [F.1,hj];rfl
 have k7:((hdP c).kind==7)=false:=by rw [F.1,hj];rfl
 have k11:((hdP c).kind==11)=true:=by rw [F.1,hj];rfl
 have k8:((hdP c).kind==8)=false:=by rw [F.1,hj];rfl
 have k10:((hdP c).kind==10)=false:=by rw [F.1,hj];rfl
 have k9:((hdP c).kind==9)=false:=by rw [F.1,hj];rfl
 have EQ:parR c l={hdP c with id:=numL (l.take 2)}:=by
  unfold parR
  simp only [k1,k2,k3,k4,k5,k6,k7,k11,k8,k10,k9]
  try rfl
 rw [EQ]
 have FF:=Lib.hid F
 clear EQ F hj
 generalize hdP c=P at *
 have HV:=Lib.hid hv
 clear hv
 go_enter Try.func54,Try.ntmps54
 go_wp2_with fail
 refine (HH.out _).mono ?_
 rintro e w1 ⟨rfl,hb1⟩
 have r0:=heap_below hb1 (heap_alloc_last _ _)
 have R0:=Lib.hid r0
 have z1:w.heap.size<w1.heap.size:=by have:=hb1.size;simp at this;omega
 have B1:Hid (Below w.heap.size w w1):=Lib.hid (thn ((Below.refl w.heap.size w).alloc (Nat.le_refl _) _) hb1)
 clear r0 hb1 HH
 go_wp2_with ((with_reducible show wpList _ _ _ (⟨_,.store 28 (.tmp 5) _,_,_,_,_⟩ :: _) _ _);refine stLst (w1.heap.size) (by rfl) _ (pkC P sv0) (by rfl) (by rfl) (by rfl) (by rfl) (pkc_one _ _) ?_)
 refine (number_any w.heap.size (w1.heap.size+1) ad cap 2 l _ ⟨heap_last2 _ _ _,HV.out.below ((B1.out.alloc (by omega) _).alloc (by simp;omega) _),by omega⟩ (by omega)).mono ?_
 generalize numL (l.take 2)=ID at *
 rintro e w2 ⟨rfl,⟨ad2,c2,hr2⟩,hb2⟩
 have ROW:Hid (w2.heap[w1.heap.size]? = some (.cells (pkC P sv0) 28)):=Lib.hid ((hb2.below.block _ (by omega)).trans (heap_keep (heap_alloc_last _ _)))
 have rc:=row_cells ROW.out
 have rf:=fun k=>frozen_of_row w2 w1.heap.size k _ _ ROW.out
 have ROW':=Lib.hid (put_row (p':={P with id:=ID}) (s':=sv0) 4 (.int .i64 ID) ROW.out rfl)
 have Q0:=Lib.hid ((Below.heap_setCell w2 ⟨w1.heap.size,4,none⟩ (.int .i64 ID) w.heap.size (by show w.heap.size≠w1.heap.size;omega)).trans ((hb2.below.block _ (by omega)).trans (heap_keep (heap_keep R0.out))))
 have HB2:=Lib.hid hb2
 clear hb2 hr2
 go_wp2_with (first
  | ((with_reducible show wpList _ _ _ (⟨_,.load 28 (.tmp 5),_,_,_,_⟩ :: _) _ _);refine ld_pk (w1.heap.size) (by rfl) (by rfl) (pkC ({P with id:=ID}) (sv0)) _ _ (by exact ROW'.out) (by rfl) ?_)
  | ((with_reducible show wpList _ _ _ (⟨_,.store 28 (.tmp 4) _,_,_,_,_⟩ :: _) _ _);refine stR (w.heap.size) _ (pkC ({P with id:=ID}) (sv0)) (by rfl) (by rfl) (by exact Q0.out) (by rfl) (by rfl) (pkc_one _ _) ?_))
 refine bodyPost_ret (v:=.agg _) (results_cell_row (by rfl) _ _ (w.heap.size) 28 _ (0,0) _ (by rfl) (setRow_heap _ _ _ _ _ _ (by exact Q0.out)) Try.underlying28 (by rfl) (by exact pk_sz)) (by rfl) ⟨sv0,rfl,?_⟩
 exact par_fin (w1.heap.size+1) (by omega) (nil_row rfl rfl (by show P.pay.length=0;rw [FF.out.2.2.1];rfl) (by show Lib.byteCells P.pay=[];rw [FF.out.2.2.1];rfl)) (nil_row rfl rfl (by show P.wpay.length=0;rw [FF.out.2.2.2.1];rfl) (by show Lib.byteCells P.wpay=[];rw [FF.out.2.2.2.1];rfl)) (nil_row rfl rfl (by show P.pass.length=0;rw [FF.out.2.2.2.2.1];rfl) (by show Lib.byteCells P.pass=[];rw [FF.out.2.2.2.2.1];rfl)) (nil_row rfl rfl (by show P.subs.length=0;rw [FF.out.2.2.2.2.2.1];rfl) (by show subCells P.subs=[];rw [FF.out.2.2.2.2.2.1];rfl)) (nil_row rfl rfl (by show P.codes.length=0;rw [FF.out.2.2.2.2.2.2];rfl) (by show intCells P.codes=[];rw [FF.out.2.2.2.2.2.2];rfl)) ((((B1.out.alloc (by omega) _).alloc (by simp;omega) _).trans (HB2.out.below.mono (by omega))).setCell (p:=⟨w1.heap.size,4,none⟩) (by show w.heap.size≤w1.heap.size;omega) _) _
theorem parse_2 (c:Int)(h0:0≤c)(h1:c≤255)(hj:c / 16=2)(l:List UInt8)(ad:Addr)(cap:Nat)(w:World)(hv:BytesAt w w.heap.size (.slice (some ad) l.length cap) l)(hm:l.length≤1000000) :
  Calls Try.prog 54 #[.int .u8 c,.slice (some ad) l.length cap] w (ParPost w (parR c l)):=by
 have HH:=Lib.hid (fun W=>headOf_any c h0 h1 W)
 have F:=hdP_f c
 have k1:((hdP c).kind==1)=false:=by rw [F.1,hj];rfl
 have k2:((hdP c).kind==2)=true:=by rw [F.1,hj];rfl
 have k3:((hdP c).kind==3)=false:=by rw [F.1,hj];rfl
 have k4:((hdP c).kind==4)=false:=by rw [F.1,hj];rfl
 have k5:((hdP c).kind==5)=false:=by rw [F.1,hj];rfl
 have k6:((hdP c).kind==6)=false:=by rw [F.1,hj];rfl
 have k7:((hdP c).kind==7)=false:=by rw [F.1,hj];rfl
 have k11:((hdP c).kind==11)=false:=by rw [F.1,hj];rfl
 have k8:((hdP c).kind==8)=false:=by rw [F.1,hj];rfl
 have k10:((hdP c).kind==10)=false:=by rw [F.1,hj];rfl
 have k9:((hdP c).kind==9)=false:=by rw [F.1,hj];rfl
 have EQ:parR c l={hdP c with pres:=numL (l.take 1)%2==1,code:=numL ((l.drop 1).take 1)}:=by
  unfold parR
  simp only [k1,k2,k3,k4,k5,k6,k7,k11,k8,k10,k9]
  try rfl
 rw [EQ]
 obtain ⟨n0,n1⟩:=num1_in l
 have hbit:=bit_one ⟨(numL (l.take 1)).toNat,by omega⟩
 simp only [Int.toNat_of_nonneg n0] at hbit
 have FF:=Lib.hid F
 clear EQ F hj
 generalize hdP c=P at *
 have HV:=Lib.hid hv
 clear hv
 go_enter Try.func54,Try.ntmps54
 go_wp2_with fail
 refine (HH.out _).mono ?_
 rintro e w1 ⟨rfl,hb1⟩
 have r0:=heap_below hb1 (heap_alloc_last _ _)
 have R0:=Lib.hid r0
 have z1:w.heap.size<w1.heap.size:=by have:=hb1.size;simp at this;omega
 have B1:Hid (Below w.heap.size w w1):=Lib.hid (thn ((Below.refl w.heap.size w).alloc (Nat.le_refl _) _) hb1)
 clear r0 hb1 HH
 have NA:=Lib.hid (fun W a1 c1 h=>number_any w.heap.size (w1.heap.size+1) a1 c1 1 l W h (by omega))
 have NB:=Lib.hid (fun W a1 c1 h=>number_any w.heap.size (w1.heap.size+1) a1 c1 1 (l.drop 1) W h (by omega))
 generalize numL (l.take 1)=N at *
 generalize numL ((l.drop 1).take 1)=M at *
 generalize (N%2==1)=D at *
 go_wp2_with ((with_reducible show wpList _ _ _ (⟨_,.store 28 (.tmp 5) _,_,_,_,_⟩ :: _) _ _);refine stLst (w1.heap.size) (by rfl) _ (pkC P sv0) (by rfl) (by rfl) (by rfl) (by rfl) (pkc_one _ _) ?_)
 refine (NA.out _ _ _ ⟨heap_last2 _ _ _,HV.out.below ((B1.out.alloc (by omega) _).alloc (by simp;omega) _),by omega⟩).mono ?_
 rintro e w2 ⟨rfl,⟨ad2,c2,hr2⟩,hb2⟩
 have ROW:Hid (w2.heap[w1.heap.size]? = some (.cells (pkC P sv0) 28)):=Lib.hid ((hb2.below.block _ (by omega)).trans (heap_keep (heap_alloc_last _ _)))
 have rc:=row_cells ROW.out
 have rf:=fun k=>frozen_of_row w2 w1.heap.size k _ _ ROW.out
 have hc2:=hr2.cell
 have hf2:=hr2.frozen
 have ROW':=Lib.hid (put_row (p':={P with pres:=D}) (s':=sv0) 20 (.bool D) ROW.out rfl)
 have HR2:=Lib.hid (hr2.put (by omega:w.heap.size≤w1.heap.size) (by omega) (i:=20) (.bool D))
 have HB2:=Lib.hid hb2
 clear hb2 hr2
 go_wp2_with fail
 refine (NB.out _ _ _ HR2.out).mono ?_
 rintro e w3 ⟨rfl,⟨ad3,c3,hr3⟩,hb3⟩
 clear rc rf hc2 hf2
 have RW3:=Lib.hid ((hb3.below.block _ (by omega)).trans ROW'.out)
 have rc:=row_cells RW3.out
 have rf:=fun k=>frozen_of_row w3 w1.heap.size k _ _ RW3.out
 have RW4:=Lib.hid (put_row (p':={P with pres:=D,code:=M}) (s':=sv0) 21 (.int .i64 M) RW3.out rfl)
 have Q0:=Lib.hid ((Below.heap_setCell w3 ⟨w1.heap.size,21,none⟩ (.int .i64 M) w.heap.size (by show w.heap.size≠w1.heap.size;omega)).trans ((hb3.below.block _ (by omega)).trans ((Below.heap_setCell w2 ⟨w1.heap.size,20,none⟩ (.bool D) w.heap.size (by show w.heap.size≠w1.heap.size;omega)).trans ((HB2.out.below.block _ (by omega)).trans (heap_keep (heap_keep R0.out))))))
 have HB3:=Lib.hid hb3
 clear hb3 hr3
 go_wp2_with (first
  | ((with_reducible show wpList _ _ _ (⟨_,.load 28 (.tmp 5),_,_,_,_⟩ :: _) _ _);refine ld_pk (w1.heap.size) (by rfl) (by rfl) (pkC ({P with pres:=D,code:=M}) (sv0)) _ _ (by exact RW4.out) (by rfl) ?_)
  | ((with_reducible show wpList _ _ _ (⟨_,.store 28 (.tmp 4) _,_,_,_,_⟩ :: _) _ _);refine stR (w.heap.size) _ (pkC ({P with pres:=D,code:=M}) (sv0)) (by rfl) (by rfl) (by exact Q0.out) (by rfl) (by rfl) (pkc_one _ _) ?_))
 refine bodyPost_ret (v:=.agg _) (results_cell_row (by rfl) _ _ (w.heap.size) 28 _ (0,0) _ (by rfl) (setRow_heap _ _ _ _ _ _ (by exact Q0.out)) Try.underlying28 (by rfl) (by exact pk_sz)) (by rfl) ⟨sv0,rfl,?_⟩
 exact par_fin (w1.heap.size+1) (by omega) (nil_row rfl rfl (by show P.pay.length=0;rw [FF.out.2.2.1];rfl) (by show Lib.byteCells P.pay=[];rw [FF.out.2.2.1];rfl)) (nil_row rfl rfl (by show P.wpay.length=0;rw [FF.out.2.2.2.1];rfl) (by show Lib.byteCells P.wpay=[];rw [FF.out.2.2.2.1];rfl)) (nil_row rfl rfl (by show P.pass.length=0;rw [FF.out.2.2.2.2.1];rfl) (by show Lib.byteCells P.pass=[];rw [FF.out.2.2.2.2.1];rfl)) (nil_row rfl rfl (by show P.subs.length=0;rw [FF.out.2.2.2.2.2.1];rfl) (by show subCells P.subs=[];rw [FF.out.2.2.2.2.2.1];rfl)) (nil_row rfl rfl (by show P.codes.length=0;rw [FF.out.2.2.2.2.2.2];rfl) (by show intCells P.codes=[];rw [FF.out.2.2.2.2.2.2];rfl)) ((((((B1.out.alloc (by omega) _).alloc (by simp;omega) _).trans (HB2.out.below.mono (by omega))).setCell (p:=⟨w1.heap.size,20,none⟩) (by show w.heap.size≤w1.heap.size;omega) _).trans (HB3.out.below.mono (by omega))).setCell (p:=⟨w1.heap.size,21,none⟩) (by show w.heap.size≤w1.heap.size;omega) _) _
theorem parse_8 (c:Int)(h0:0≤c)(h1:c≤255)(hj:c / 16=8)(l:List UInt8)(ad:Addr)(cap:Nat)(w:World)(hv:BytesAt w w.heap.size (.slice (some ad) l.length cap) l)(hm:l.length≤1000000) :
  Calls Try.prog 54 #[.int .u8 c,.slice (some ad) l.length cap] w (ParPost w (parR c l)):=by
 have HH:=Lib.hid (fun W=>headOf_any c h0 h1 W)
 have F:=hdP_f c
 have k1:((hdP c).kind==1)=false:=by rw [F.1,hj];rfl
 have k2:((hdP c).kind==2)=false:=by rw [F.1,hj];rfl
 have k3:((hdP c).kind==3)=false:=by rw [F.1,hj];rfl
 have k4:((hdP c).kind==4)=false:=by rw [F.1,hj];rfl
 have k5:((hdP c).kind==5)=false:=by rw [F.1,hj];rfl
 have k6:((hdP c).kind==6)=false:=by rw [F.1,hj];rfl
 have k7:((hdP c).kind==7)=false:=by rw [F.1,hj];rfl
 have k11:((hdP c).kind==11)=false:=by rw [F.1,hj];rfl
 have k8:((hdP c).kind==8)=true:=by rw [F.1,hj];rfl
 have k10:((hdP c).kind==10)=false:=by rw [F.1,hj];rfl
 have k9:((hdP c).kind==9)=false:=by rw [F.1,hj];rfl
 have EQ:parR c l={hdP c with id:=numL (l.take 2),subs:=subsR true (l.drop 2)}:=by
  unfold parR
  simp only [k1,k2,k3,k4,k5,k6,k7,k11,k8,k10,k9]
  try rfl
 rw [EQ]
 have FF:=Lib.hid F
 clear EQ F hj
 generalize hdP c=P at *
 have HV:=Lib.hid hv
 clear hv
 go_enter Try.func54,Try.ntmps54
 go_wp2_with fail
 refine (HH.out _).mono ?_
 rintro e w1 ⟨rfl,hb1⟩
 have r0:=heap_below hb1 (heap_alloc_last _ _)
 have R0:=Lib.hid r0
 have z1:w.heap.size<w1.heap.size:=by have:=hb1.size;simp at this;omega
 have B1:Hid (Below w.heap.size w w1):=Lib.hid (thn ((Below.refl w.heap.size w).alloc (Nat.le_refl _) _) hb1)
 clear r0 hb1 HH
 have NA:=Lib.hid (fun W a1 c1 h=>number_any w.heap.size (w1.heap.size+1) a1 c1 2 l W h (by omega))
 generalize numL (l.take 2)=ID at *
 go_wp2_with ((with_reducible show wpList _ _ _ (⟨_,.store 28 (.tmp 5) _,_,_,_,_⟩ :: _) _ _);refine stLst (w1.heap.size) (by rfl) _ (pkC P sv0) (by rfl) (by rfl) (by rfl) (by rfl) (pkc_one _ _) ?_)
 refine (NA.out _ _ _ ⟨heap_last2 _ _ _,HV.out.below ((B1.out.alloc (by omega) _).alloc (by simp;omega) _),by omega⟩).mono ?_
 rintro e w2 ⟨rfl,⟨ad2,c2,hr2⟩,hb2⟩
 have ROW:Hid (w2.heap[w1.heap.size]? = some (.cells (pkC P sv0) 28)):=Lib.hid ((hb2.below.block _ (by omega)).trans (heap_keep (heap_alloc_last _ _)))
 have rc:=row_cells ROW.out
 have rf:=fun k=>frozen_of_row w2 w1.heap.size k _ _ ROW.out
 have hc2:=hr2.cell
 have hf2:=hr2.frozen
 have ROW':=Lib.hid (put_row (p':={P with id:=ID}) (s':=sv0) 4 (.int .i64 ID) ROW.out rfl)
 have HR2:=Lib.hid (hr2.put (by omega:w.heap.size≤w1.heap.size) (by omega) (i:=4) (.int .i64 ID))
 have HB2:=Lib.hid hb2
 clear hb2 hr2
 go_wp2_with fail
 refine (subs_any w.heap.size (w1.heap.size+1) ad2 c2 (l.drop 2) _ HR2.out true (by rw [List.length_drop];omega)).mono ?_
 generalize subsR true (l.drop 2)=RR at *
 rintro e w3 ⟨A',c',n,rfl,rfl,o3,T3⟩
 have T3B:=fun b (hb:b<w1.heap.size+1)=>T3.below.block b hb
 have TM:=T3.below.mono (show w.heap.size≤w1.heap.size+1 by omega)
 clear rc rf hc2 hf2
 have RW3:=Lib.hid ((T3B _ (by omega)).trans ROW'.out)
 have rc:=row_cells RW3.out
 have rf:=fun k=>frozen_of_row w3 w1.heap.size k _ _ RW3.out
 have RW4:=Lib.hid (put_row (p':={P with id:=ID,subs:=RR}) (s':={sv0 with sA:=A',sC:=c'}) 22 (.slice A' RR.length c') RW3.out rfl)
 have Q0:=Lib.hid ((Below.heap_setCell w3 ⟨w1.heap.size,22,none⟩ (.slice A' RR.length c') w.heap.size (by show w.heap.size≠w1.heap.size;omega)).trans ((T3B _ (by omega)).trans ((Below.heap_setCell w2 ⟨w1.heap.size,4,none⟩ (.int .i64 ID) w.heap.size (by show w.heap.size≠w1.heap.size;omega)).trans ((HB2.out.below.block _ (by omega)).trans (heap_keep (heap_keep R0.out))))))
 have HB3:=Lib.hid TM
 have O3:=Lib.hid (own_put (o3) (by have:=HB2.out.below.size;simp at this ⊢;omega:w1.heap.size<_) 22 (.slice A' RR.length c'))
 clear T3 o3 T3B TM
 go_wp2_with (first
  | ((with_reducible show wpList _ _ _ (⟨_,.load 28 (.tmp 5),_,_,_,_⟩ :: _) _ _);refine ld_pk (w1.heap.size) (by rfl) (by rfl) (pkC ({P with id:=ID,subs:=RR}) ({sv0 with sA:=A',sC:=c'})) _ _ (by exact RW4.out) (by rfl) ?_)
  | ((with_reducible show wpList _ _ _ (⟨_,.store 28 (.tmp 4) _,_,_,_,_⟩ :: _) _ _);refine stR (w.heap.size) _ (pkC ({P with id:=ID,subs:=RR}) ({sv0 with sA:=A',sC:=c'})) (by rfl) (by rfl) (by exact Q0.out) (by rfl) (by rfl) (pkc_one _ _) ?_))
 refine bodyPost_ret (v:=.agg _) (results_cell_row (by rfl) _ _ (w.heap.size) 28 _ (0,0) _ (by rfl) (setRow_heap _ _ _ _ _ _ (by exact Q0.out)) Try.underlying28 (by rfl) (by exact pk_sz)) (by rfl) ⟨{sv0 with sA:=A',sC:=c'},rfl,?_⟩
 exact par_fin (w1.heap.size+1) (by omega) (nil_row rfl rfl (by show P.pay.length=0;rw [FF.out.2.2.1];rfl) (by show Lib.byteCells P.pay=[];rw [FF.out.2.2.1];rfl)) (nil_row rfl rfl (by show P.wpay.length=0;rw [FF.out.2.2.2.1];rfl) (by show Lib.byteCells P.wpay=[];rw [FF.out.2.2.2.1];rfl)) (nil_row rfl rfl (by show P.pass.length=0;rw [FF.out.2.2.2.2.1];rfl) (by show Lib.byteCells P.pass=[];rw [FF.out.2.2.2.2.1];rfl)) (own_mono3 O3.out (by have:=HB2.out.below.size;simp at this ⊢;omega)) (nil_row rfl rfl (by show P.codes.length=0;rw [FF.out.2.2.2.2.2.2];rfl) (by show intCells P.codes=[];rw [FF.out.2.2.2.2.2.2];rfl)) ((((((B1.out.alloc (by omega) _).alloc (by simp;omega) _).trans (HB2.out.below.mono (by omega))).setCell (p:=⟨w1.heap.size,4,none⟩) (by show w.heap.size≤w1.heap.size;omega) _).trans (HB3.out)).setCell (p:=⟨w1.heap.size,22,none⟩) (by show w.heap.size≤w1.heap.size;omega) _) _
theorem parse_10 (c:Int)(h0:0≤c)(h1:c≤255)(hj:c / 16=10)(l:List UInt8)(ad:Addr)(cap:Nat)(w:World)(hv:BytesAt w w.heap.size (.slice (some ad) l.length cap) l)(hm:l.length≤1000000) :
  Calls Try.prog 54 #[.int .u8 c,.slice (some ad) l.length cap] w (ParPost w (parR c l)):=by
 have HH:=Lib.hid (fun W=>headOf_any c h0 h1 W)
 have F:=hdP_f c
 have k1:((hdP c).kind==1)=false:=by rw [F.1,hj];rfl
 have k2:((hdP c).kind==2)=false:=by rw [F.1,hj];rfl
 have k3:((hdP c).kind==3)=false:=by rw [F.1,hj];rfl
 have k4:((hdP c).kind==4)=false:=by rw [F.1,hj];rfl
 have k5:((hdP c).kind==5)=false:=by rw [F.1,hj];rfl
 have k6:((hdP c).kind==6)=false:=by rw [F.1,hj];rfl
 have k7:((hdP c).kind==7)=false:=by rw [F.1,hj];rfl
 have k11:((hdP c).kind==11)=false:=by rw [F.1,hj];rfl
 have k8:((hdP c).kind==8)=false:=by rw [F.1,hj];rfl
 have k10:((hdP c).kind==10)=true:=by rw [F.1,hj];rfl
 have k9:((hdP c).kind==9)=false:=by rw [F.1,hj];rfl
 have EQ:parR c l={hdP c with id:=numL (l.take 2),subs:=subsR false (l.drop 2)}:=by
  unfold parR
  simp only [k1,k2,k3,k4,k5,k6,k7,k11,k8,k10,k9]
  try rfl
 rw [EQ]
 have FF:=Lib.hid F
 clear EQ F hj
 generalize hdP c=P at *
 have HV:=Lib.hid hv
 clear hv
 go_enter Try.func54,Try.ntmps54
 go_wp2_with fail
 refine (HH.out _).mono ?_
 rintro e w1 ⟨rfl,hb1⟩
 have r0:=heap_below hb1 (heap_alloc_last _ _)
 have R0:=Lib.hid r0
 have z1:w.heap.size<w1.heap.size:=by have:=hb1.size;simp at this;omega
 have B1:Hid (Below w.heap.size w w1):=Lib.hid (thn ((Below.refl w.heap.size w).alloc (Nat.le_refl _) _) hb1)
 clear r0 hb1 HH
 have NA:=Lib.hid (fun W a1 c1 h=>number_any w.heap.size (w1.heap.size+1) a1 c1 2 l W h (by omega))
 generalize numL (l.take 2)=ID at *
 go_wp2_with ((with_reducible show wpList _ _ _ (⟨_,.store 28 (.tmp 5) _,_,_,_,_⟩ :: _) _ _);refine stLst (w1.heap.size) (by rfl) _ (pkC P sv0) (by rfl) (by rfl) (by rfl) (by rfl) (pkc_one _ _) ?_)
 refine (NA.out _ _ _ ⟨heap_last2 _ _ _,HV.out.below ((B1.out.alloc (by omega) _).alloc (by simp;omega) _),by omega⟩).mono ?_
 rintro e w2 ⟨rfl,⟨ad2,c2,hr2⟩,hb2⟩
 have ROW:Hid (w2.heap[w1.heap.size]? = some (.cells (pkC P sv0) 28)):=Lib.hid ((hb2.below.block _ (by omega)).trans (heap_keep (heap_alloc_last _ _)))
 have rc:=row_cells ROW.out
 have rf:=fun k=>frozen_of_row w2 w1.heap.size k _ _ ROW.out
 have hc2:=hr2.cell
 have hf2:=hr2.frozen
 have ROW':=Lib.hid (put_row (p':={P with id:=ID}) (s':=sv0) 4 (.int .i64 ID) ROW.out rfl)
 have HR2:=Lib.hid (hr2.put (by omega:w.heap.size≤w1.heap.size) (by omega) (i:=4) (.int .i64 ID))
 have HB2:=Lib.hid hb2
 clear hb2 hr2
 go_wp2_with fail
 refine (subs_any w.heap.size (w1.heap.size+1) ad2 c2 (l.drop 2) _ HR2.out false (by rw [List.length_drop];omega)).mono ?_
 generalize subsR false (l.drop 2)=RR at *
 rintro e w3 ⟨A',c',n,rfl,rfl,o3,T3⟩
 have T3B:=fun b (hb:b<w1.heap.size+1)=>T3.below.block b hb
 have TM:=T3.below.mono (show w.heap.size≤w1.heap.size+1 by omega)
 clear rc rf hc2 hf2
 have RW3:=Lib.hid ((T3B _ (by omega)).trans ROW'.out)
 have rc:=row_cells RW3.out
 have rf:=fun k=>frozen_of_row w3 w1.heap.size k _ _ RW3.out
 have RW4:=Lib.hid (put_row (p':={P with id:=ID,subs:=RR}) (s':={sv0 with sA:=A',sC:=c'}) 22 (.slice A' RR.length c') RW3.out rfl)
 have Q0:=Lib.hid ((Below.heap_setCell w3 ⟨w1.heap.size,22,none⟩ (.slice A' RR.length c') w.heap.size (by show w.heap.size≠w1.heap.size;omega)).trans ((T3B _ (by omega)).trans ((Below.heap_setCell w2 ⟨w1.heap.size,4,none⟩ (.int .i64 ID) w.heap.size (by show w.heap.size≠w1.heap.size;omega)).trans ((HB2.out.below.block _ (by omega)).trans (heap_keep (heap_keep R0.out))))))
 have HB3:=Lib.hid TM
 have O3:=Lib.hid (own_put (o3) (by have:=HB2.out.below.size;simp at this ⊢;omega:w1.heap.size<_) 22 (.slice A' RR.length c'))
 clear T3 o3 T3B TM
 go_wp2_with (first
  | ((with_reducible show wpList _ _ _ (⟨_,.load 28 (.tmp 5),_,_,_,_⟩ :: _) _ _);refine ld_pk (w1.heap.size) (by rfl) (by rfl) (pkC ({P with id:=ID,subs:=RR}) ({sv0 with sA:=A',sC:=c'})) _ _ (by exact RW4.out) (by rfl) ?_)
  | ((with_reducible show wpList _ _ _ (⟨_,.store 28 (.tmp 4) _,_,_,_,_⟩ :: _) _ _);refine stR (w.heap.size) _ (pkC ({P with id:=ID,subs:=RR}) ({sv0 with sA:=A',sC:=c'})) (by rfl) (by rfl) (by exact Q0.out) (by rfl) (by rfl) (pkc_one _ _) ?_))
 refine bodyPost_ret (v:=.agg _) (results_cell_row (by rfl) _ _ (w.heap.size) 28 _ (0,0) _ (by rfl) (setRow_heap _ _ _ _ _ _ (by exact Q0.out)) Try.underlying28 (by rfl) (by exact pk_sz)) (by rfl) ⟨{sv0 with sA:=A',sC:=c'},rfl,?_⟩
 exact par_fin (w1.heap.size+1) (by omega) (nil_row rfl rfl (by show P.pay.length=0;rw [FF.out.2.2.1];rfl) (by show Lib.byteCells P.pay=[];rw [FF.out.2.2.1];rfl)) (nil_row rfl rfl (by show P.wpay.length=0;rw [FF.out.2.2.2.1];rfl) (by show Lib.byteCells P.wpay=[];rw [FF.out.2.2.2.1];rfl)) (nil_row rfl rfl (by show P.pass.length=0;rw [FF.out.2.2.2.2.1];rfl) (by show Lib.byteCells P.pass=[];rw [FF.out.2.2.2.2.1];rfl)) (own_mono3 O3.out (by have:=HB2.out.below.size;simp at this ⊢;omega)) (nil_row rfl rfl (by show P.codes.length=0;rw [FF.out.2.2.2.2.2.2];rfl) (by show intCells P.codes=[];rw [FF.out.2.2.2.2.2.2];rfl)) ((((((B1.out.alloc (by omega) _).alloc (by simp;omega) _).trans (HB2.out.below.mono (by omega))).setCell (p:=⟨w1.heap.size,4,none⟩) (by show w.heap.size≤w1.heap.size;omega) _).trans (HB3.out)).setCell (p:=⟨w1.heap.size,22,none⟩) (by show w.heap.size≤w1.heap.size;omega) _) _
theorem parse_9 (c:Int)(h0:0≤c)(h1:c≤255)(hj:c / 16=9)(l:List UInt8)(ad:Addr)(cap:Nat)(w:World)(hv:BytesAt w w.heap.size (.slice (some ad) l.length cap) l)(hm:l.length≤1000000) :
  Calls Try.prog 54 #[.int .u8 c,.slice (some ad) l.length cap] w (ParPost w (parR c l)):=by
 have HH:=Lib.hid (fun W=>headOf_any c h0 h1 W)
 have F:=hdP_f c
 have k1:((hdP c).kind==1)=false:=by rw [F.1,hj];rfl
 have k2:((hdP c).kind==2)=false:=by rw [F.1,hj];rfl
 have k3:((hdP c).kind==3)=false:=by rw [F.1,hj];rfl
 have k4:((hdP c).kind==4)=false:=by rw [F.1,hj];rfl
 have k5:((hdP c).kind==5)=false:=by rw [F.1,hj];rfl
 have k6:((hdP c).kind==6)=false:=by rw [F.1,hj];rfl
 have k7:((hdP c).kind==7)=false:=by rw [F.1,hj];rfl
 have k11:((hdP c).kind==11)=false:=by rw [F.1,hj];rfl
 have k8:((hdP c).kind==8)=false:=by rw [F.1,hj];rfl
 have k10:((hdP c).kind==10)=false:=by rw [F.1,hj];rfl
 have k9:((hdP c).kind==9)=true:=by rw [F.1,hj];rfl
 have EQ:parR c l={hdP c with id:=numL (l.take 2),codes:=codesR (l.drop 2)}:=by
  unfold parR
  simp only [k1,k2,k3,k4,k5,k6,k7,k11,k8,k10,k9]
  try rfl
 rw [EQ]
 have FF:=Lib.hid F
 clear EQ F hj
 generalize hdP c=P at *
 have HV:=Lib.hid hv
 clear hv
 go_enter Try.func54,Try.ntmps54
 go_wp2_with fail
 refine (HH.out _).mono ?_
 rintro e w1 ⟨rfl,hb1⟩
 have r0:=heap_below hb1 (heap_alloc_last _ _)
 have R0:=Lib.hid r0
 have z1:w.heap.size<w1.heap.size:=by have:=hb1.size;simp at this;omega
 have B1:Hid (Below w.heap.size w w1):=Lib.hid (thn ((Below.refl w.heap.size w).alloc (Nat.le_refl _) _) hb1)
 clear r0 hb1 HH
 have NA:=Lib.hid (fun W a1 c1 h=>number_any w.heap.size (w1.heap.size+1) a1 c1 2 l W h (by omega))
 generalize numL (l.take 2)=ID at *
 go_wp2_with ((with_reducible show wpList _ _ _ (⟨_,.store 28 (.tmp 5) _,_,_,_,_⟩ :: _) _ _);refine stLst (w1.heap.size) (by rfl) _ (pkC P sv0) (by rfl) (by rfl) (by rfl) (by rfl) (pkc_one _ _) ?_)
 refine (NA.out _ _ _ ⟨heap_last2 _ _ _,HV.out.below ((B1.out.alloc (by omega) _).alloc (by simp;omega) _),by omega⟩).mono ?_
 rintro e w2 ⟨rfl,⟨ad2,c2,hr2⟩,hb2⟩
 have ROW:Hid (w2.heap[w1.heap.size]? = some (.cells (pkC P sv0) 28)):=Lib.hid ((hb2.below.block _ (by omega)).trans (heap_keep (heap_alloc_last _ _)))
 have rc:=row_cells ROW.out
 have rf:=fun k=>frozen_of_row w2 w1.heap.size k _ _ ROW.out
 have hc2:=hr2.cell
 have hf2:=hr2.frozen
 have ROW':=Lib.hid (put_row (p':={P with id:=ID}) (s':=sv0) 4 (.int .i64 ID) ROW.out rfl)
 have HR2:=Lib.hid (hr2.put (by omega:w.heap.size≤w1.heap.size) (by omega) (i:=4) (.int .i64 ID))
 have HB2:=Lib.hid hb2
 clear hb2 hr2
 go_wp2_with fail
 refine (codes_any w.heap.size (w1.heap.size+1) ad2 c2 (l.drop 2) _ HR2.out (codesR (l.drop 2)).length (by unfold codesR;rw [List.length_map]) (by unfold codesR;rw [List.length_map,List.length_drop];omega)).mono ?_
 generalize codesR (l.drop 2)=RR at *
 rintro e w3 ⟨A',c',rfl,o3,T3⟩
 have sz2:=HB2.out.below.size
 have T3B:=fun b (hb:b<w1.heap.size+1)=>T3.block b (by simp at sz2 ⊢;omega)
 have TM:=T3.mono (show w.heap.size≤_ by simp at sz2 ⊢;omega)
 clear rc rf hc2 hf2
 have RW3:=Lib.hid ((T3B _ (by omega)).trans ROW'.out)
 have rc:=row_cells RW3.out
 have rf:=fun k=>frozen_of_row w3 w1.heap.size k _ _ RW3.out
 have RW4:=Lib.hid (put_row (p':={P with id:=ID,codes:=RR}) (s':={sv0 with cA:=A',cC:=c'}) 23 (.slice A' RR.length c') RW3.out rfl)
 have Q0:=Lib.hid ((Below.heap_setCell w3 ⟨w1.heap.size,23,none⟩ (.slice A' RR.length c') w.heap.size (by show w.heap.size≠w1.heap.size;omega)).trans ((T3B _ (by omega)).trans ((Below.heap_setCell w2 ⟨w1.heap.size,4,none⟩ (.int .i64 ID) w.heap.size (by show w.heap.size≠w1.heap.size;omega)).trans ((HB2.out.below.block _ (by omega)).trans (heap_keep (heap_keep R0.out))))))
 have HB3:=Lib.hid TM
 have O3:=Lib.hid (own_put (o3) (by have:=HB2.out.below.size;simp at this ⊢;omega:w1.heap.size<_) 23 (.slice A' RR.length c'))
 clear T3 o3 T3B TM
 go_wp2_with (first
  | ((with_reducible show wpList _ _ _ (⟨_,.load 28 (.tmp 5),_,_,_,_⟩ :: _) _ _);refine ld_pk (w1.heap.size) (by rfl) (by rfl) (pkC ({P with id:=ID,codes:=RR}) ({sv0 with cA:=A',cC:=c'})) _ _ (by exact RW4.out) (by rfl) ?_)
  | ((with_reducible show wpList _ _ _ (⟨_,.store 28 (.tmp 4) _,_,_,_,_⟩ :: _) _ _);refine stR (w.heap.size) _ (pkC ({P with id:=ID,codes:=RR}) ({sv0 with cA:=A',cC:=c'})) (by rfl) (by rfl) (by exact Q0.out) (by rfl) (by rfl) (pkc_one _ _) ?_))
 refine bodyPost_ret (v:=.agg _) (results_cell_row (by rfl) _ _ (w.heap.size) 28 _ (0,0) _ (by rfl) (setRow_heap _ _ _ _ _ _ (by exact Q0.out)) Try.underlying28 (by rfl) (by exact pk_sz)) (by rfl) ⟨{sv0 with cA:=A',cC:=c'},rfl,?_⟩
 exact par_fin (w1.heap.size+1) (by omega) (nil_row rfl rfl (by show P.pay.length=0;rw [FF.out.2.2.1];rfl) (by show Lib.byteCells P.pay=[];rw [FF.out.2.2.1];rfl)) (nil_row rfl rfl (by show P.wpay.length=0;rw [FF.out.2.2.2.1];rfl) (by show Lib.byteCells P.wpay=[];rw [FF.out.2.2.2.1];rfl)) (nil_row rfl rfl (by show P.pass.length=0;rw [FF.out.2.2.2.2.1];rfl) (by show Lib.byteCells P.pass=[];rw [FF.out.2.2.2.2.1];rfl)) (nil_row rfl rfl (by show P.subs.length=0;rw [FF.out.2.2.2.2.2.1];rfl) (by show subCells P.subs=[];rw [FF.out.2.2.2.2.2.1];rfl)) (own_mono3 O3.out (by have:=HB2.out.below.size;simp at this ⊢;omega)) ((((((B1.out.alloc (by omega) _).alloc (by simp;omega) _).trans (HB2.out.below.mono (by omega))).setCell (p:=⟨w1.heap.size,4,none⟩) (by show w.heap.size≤w1.heap.size;omega) _).trans (HB3.out)).setCell (p:=⟨w1.heap.size,23,none⟩) (by show w.heap.size≤w1.heap.size;omega) _) _
theorem parse_any (c:Int)(h0:0≤c)(h1:c≤255)(ha:1≤c / 16)(hb:c / 16≤14)(l:List UInt8)(ad:Addr)(cap:Nat)(w:World)(hv:BytesAt w w.heap.size (.slice (some ad) l.length cap) l)(hm:l.length≤1000000) :
  Calls Try.prog 54 #[.int .u8 c,.slice (some ad) l.length cap] w (ParPost w (parR c l)):=by
 have:c / 16=1∨c / 16=2∨c / 16=3∨c / 16=4∨c / 16=5∨c / 16=6∨c / 16=7∨c / 16=8∨c / 16=9∨c / 16=10∨c / 16=11∨c / 16=12∨c / 16=13∨c / 16=14:=by omega
 rcases this with hj | hj | hj | hj | hj | hj | hj | hj | hj | hj | hj | hj | hj | hj
 ·exact parse_1 c h0 h1 hj l ad cap w hv
 ·exact parse_2 c h0 h1 hj l ad cap w hv hm
 ·exact parse_3 c h0 h1 hj l ad cap w hv hm
 ·exact parse_4 c h0 h1 hj l ad cap w hv hm
 ·exact parse_5 c h0 h1 hj l ad cap w hv hm
 ·exact parse_6 c h0 h1 hj l ad cap w hv hm
 ·exact parse_7 c h0 h1 hj l ad cap w hv hm
 ·exact parse_8 c h0 h1 hj l ad cap w hv hm
 ·exact parse_9 c h0 h1 hj l ad cap w hv hm
 ·exact parse_10 c h0 h1 hj l ad cap w hv hm
 ·exact parse_11 c h0 h1 hj l ad cap w hv hm
 ·exact parse_12 c h0 h1 hj l ad cap w hv hm
 ·exact parse_13 c h0 h1 hj l ad cap w hv hm
 ·exact parse_14 c h0 h1 hj l ad cap w hv hm
theorem results_row2 {fn:Func} {p u v:Tmp} {ty:TypeId} (h:fn.results=#[.cell p ty,.tmp u,.tmp v]) (tmps:Array Value) (w:World) (g:Nat) (cs:Array Value)
  (hp:tmps.getD p undef=.pointer (some ⟨g,0,none⟩)) (hl:(loadVar ty ⟨g,0,none⟩).run Try.prog w=.ok (.agg cs) w) :
  (results fn tmps).run Try.prog w=.ok (.tuple #[.agg cs,tmps.getD u undef,tmps.getD v undef]) w:=by
 have hp':tmps[p]?.getD undef=.pointer (some ⟨g,0,none⟩):=by simpa using hp
 simp [results,h,hp',asAddr,hl]
theorem ldv_pk {w:World}{g:Nat}{p:Pk}{s:Sv}(h:w.heap[g]? = some (.cells (pkC p s) 28 (0,0))):(loadVar 28 ⟨g,0,none⟩).run Try.prog w=.ok (.agg (pkC p s)) w :=
 run_loadVar_row w g _ 28 (pkC p s) (0,0) _ h Try.underlying28 rfl pk_sz
def slV (ad:Addr) (cap i j:Nat):Value:=.slice (some (if cap=i then ad else ad.add i)) (j - i) (cap - i)
theorem sl_exec {a:Act}{o:Oper}{x l h:Operand}{ad:Addr}{n cap:Nat}{i j:Int}(ho:o.op=.slice 22 x (some l) (some h) none)(hx:a.eval x=.slice (some ad) n cap)(hl:a.eval l=.int .i64 i)(hh:a.eval h=.int .i64 j)(h0:0≤i)(h1:i≤j)(h2:j≤cap)(W:World) :
  (execOp a.eval o).run Try.prog W=.ok (.value (slV ad cap i.toNat j.toNat)) W:=by
 have hs:(sizeOf (Try.prog.elem 22)).run Try.prog W=.ok 1 W:=by kernel_rfl
 have e:sliced (some ad) i.toNat j.toNat cap 1=slV ad cap i.toNat j.toNat:=by
  unfold sliced slV
  split <;> simp
 unfold execOp
 simp only [ho,hx,hl,hh,Option.map_some,Option.map_none]
 simp [run_sliceAt_slice _ _ _ _ _ _ (show Try.prog.underlying 22=some (.slice (Try.prog.elem 22)) by kernel_rfl),run_slice_lh W _ _ _ _ (show Try.prog.underlying 22=some (.slice (Try.prog.elem 22)) by kernel_rfl) _ _ i j h0 h1 h2,hs,e]
theorem sl_at {w:World}{B:Nat}{ad:Addr}{n cap:Nat}{l:List UInt8}(h:BytesAt w B (.slice (some ad) n cap) l)(i j:Nat)(hij:i≤j)(hj:j≤l.length):BytesAt w B (slV ad cap i j) ((l.take j).drop i):=by
 have h1:=BytesAt.tk h j hj
 have hlen:(l.take j).length=j:=by rw [List.length_take];omega
 unfold slV
 by_cases hc:cap=i
 ·have hcj:j≤cap:=by
   obtain ⟨A',c',hv,hc',hm,_⟩:=h
   injection hv with v1 v2 v3
   omega
  have e:(l.take j).drop i=[]:=List.drop_eq_nil_of_le (by omega)
  rw [if_pos hc,e,show j - i=0 by omega,show cap - i=0 by omega]
  exact BytesAt.void w B ad 0 (by decide)
 ·rw [if_neg hc]
  have h2:=BytesAt.drop h1 i (by omega)
  rw [hlen] at h2
  exact h2
def RdPost (w:World) (t:Pk×Int×Int) (e:Ending) (w':World):Prop :=
 ∃s,e=.returned (.tuple #[pkV t.1 s,.int .i64 t.2.1,.int .i64 t.2.2])∧PkOwn w' w.heap.size t.1 s∧Below w.heap.size w w'
theorem pk0_at (w:World)(B:Nat):PkAt w B pk0 sv0:=⟨bytes_nil _ _,bytes_nil _ _,bytes_nil _ _,subs_nil _ _,ints_nil _ _⟩
theorem sv0_nil:NilOk sv0:=⟨fun _=>rfl,fun _=>rfl,fun _=>rfl⟩
theorem wread_bad (A:Option Addr)(cap:Nat)(b:List UInt8)(B:Nat)(w:World)(hB:B≤w.heap.size)(hv:BytesAt w B (.slice A b.length cap) b)(hm:b.length≤1000000)(x y z:Int)(hT:bndP b=(x,y,z))(hz:z≠0) :
  Calls Try.prog 23 #[.slice A b.length cap] w (RdPost w (pk0,0,z)):=by
 have HB:=Lib.hid (bounds_any A cap b B (w.alloc (.cells (pkC pk0 sv0) 28)) (by simp;omega) (hv.to hB ((Below.refl _ _).alloc (Nat.le_refl _) _)) hm x y z hT)
 have hzb:(z != 0)=true:=by simpa using hz
 clear hT hv hz
 generalize b.length=n at *
 go_enter Try.func23,Try.ntmps23
 go_wp2_with fail
 refine HB.out.mono ?_
 rintro e w1 ⟨rfl,hb1⟩
 have r0:=heap_below hb1 (heap_alloc_last _ _)
 go_wp2_with ((with_reducible show wpList _ _ _ (⟨_,.store 28 (.tmp 2) _,_,_,_,_⟩ :: _) _ _);refine stR (w.heap.size) _ (pkC pk0 sv0) (by rfl) (by rfl) (by exact r0) (by rfl) (by rfl) (pkc_one _ _) ?_)
 refine bodyPost_ret (results_row2 (by rfl) _ _ (w.heap.size) _ (by rfl) (ldv_pk (setRow_heap _ _ _ _ _ _ (by exact r0)))) (by rfl) ⟨sv0,rfl,pk0_own _ _,?_⟩
 exact below_setRow (thn ((Below.refl _ _).alloc (Nat.le_refl _) _) hb1) (Nat.le_refl _) _
theorem rhead_bits:∀y:Fin 256,bits .and .u8 (y.val:Int) 15=(y.val:Int)%16∧bits .and .i64 ((y.val:Int)%16 / 2) 3=(y.val:Int) / 2%4∧(bits .and .i64 ((y.val:Int)%16) 8==0)=((y.val:Int) / 8%2==0):=by decide +kernel
theorem rhead_any (c:Int)(h0:0≤c)(h1:c≤255)(w:World) :
  Calls Try.prog 56 #[.int .u8 c] w fun e w'=>e=.returned (.bool (rbegP c))∧w=w':=by
 obtain ⟨b15,b3,b8⟩:=rhead_bits ⟨c.toNat,by omega⟩
 simp only [Int.toNat_of_nonneg h0] at b15 b3 b8
 have f0:0≤c%16∧c%16≤15:=by omega
 have k0:0≤c / 16∧c / 16≤15:=by omega
 have q0:0≤c / 2%4∧c / 2%4≤3:=by omega
 have hv:rbegP c=if c / 16==0 || c / 16==15 then false else if c / 16==3 then c / 2%4 != 3 && (c / 8%2==0 || c / 2%4 != 0) else if c / 16==6 || c / 16==8 || c / 16==10 then c%16==2 else c%16==0:=rfl
 generalize rbegP c=R at hv ⊢
 rw [←b3] at hv q0
 rw [←b8] at hv
 clear b3 b8
 generalize c%16=f at *
 generalize hq:bits .and .i64 (f / 2) 3=q at *
 generalize hm:(bits .and .i64 f 8==0)=m at *
 rcases e0:(c / 16==0) with _ | _
 rotate_left 1
 ·rw [e0] at hv
  have HV:=Lib.hid hv
  clear hv
  go_enter Try.func56,Try.ntmps56
  go_wp2_with fail
  go_ret
  exact ⟨ret_bool (by rw [HV.out];rfl),rfl⟩
 rcases e15:(c / 16==15) with _ | _
 rotate_left 1
 ·rw [e0,e15] at hv
  have HV:=Lib.hid hv
  clear hv
  go_enter Try.func56,Try.ntmps56
  go_wp2_with fail
  go_ret
  exact ⟨ret_bool (by rw [HV.out];rfl),rfl⟩
 rcases e3:(c / 16==3) with _ | _
 rotate_left 1
 ·rw [e0,e15,e3] at hv
  have HV:=Lib.hid hv
  clear hv
  rcases a1:(q != 3) with _ | _ <;> rcases a2:m with _ | _ <;> rcases a3:(q != 0) with _ | _ <;> rw [a1,a2,a3] at HV <;> subst a2
  all_goals
   go_enter Try.func56,Try.ntmps56
   go_wp2_with fail
   go_ret
   exact ⟨ret_bool (by rw [HV.out];rfl),rfl⟩
 rw [e0,e15,e3] at hv
 rcases e6:(c / 16==6) with _ | _ <;> rcases e8:(c / 16==8) with _ | _ <;> rcases e10:(c / 16==10) with _ | _ <;> rw [e6,e8,e10] at hv <;> have HV:=Lib.hid hv <;> clear hv
 all_goals
  go_enter Try.func56,Try.ntmps56
  go_wp2_with fail
  go_ret
  exact ⟨ret_bool (by rw [HV.out];rfl),rfl⟩
end Go.Proofs.Ytnhpacaoobpkhaa
