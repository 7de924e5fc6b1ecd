import Derived.Test.YtnhpacaoobpkhaaDTool
namespace Go.Proofs.Ytnhpacaoobpkhaa
open Go.RowKit Go.Lib
set_option linter.unusedSimpArgs false
set_option linter.unusedVariables false
set_option maxRecDepth 100000
set_option maxHeartbeats 8000000
@[simp,go_sem] theorem sbD_kind (P:Pk) (i:Int) (L:List (ByteArray×Int)):(sbD P i L).kind=P.kind:=rfl
@[simp,go_sem] theorem sbD_subs (P:Pk) (i:Int) (L:List (ByteArray×Int)):(sbD P i L).subs=L:=rfl
@[simp,go_sem] theorem svD_A (A:Option Addr) (C:Nat):(svD A C).sA=A:=rfl
@[simp,go_sem] theorem svD_C (A:Option Addr) (C:Nat):(svD A C).sC=C:=rfl
theorem ne_kk {bb l:List UInt8}{kk:Nat}(hk:kk≤bb.length)(hs:bb.drop kk=l)(hne:l≠[]):(kk:Int)<(bb.length:Int):=by
 have:l.length=bb.length - kk:=by rw [←hs,List.length_drop]
 have h2:0<l.length:=List.length_pos_iff.2 hne
 omega
theorem eq_kn {bb l:List UInt8}{kk:Nat}(hk:kk≤bb.length)(hs:bb.drop kk=l)(he:l=[]):decide (kk<bb.length)=false:=by
 have:l.length=bb.length - kk:=by rw [←hs,List.length_drop]
 rw [he,List.length_nil] at this
 exact decide_eq_false (by omega)
theorem eq_kk {bb l:List UInt8}{kk:Nat}(hk:kk≤bb.length)(hs:bb.drop kk=l)(he:l=[]):decide ((kk:Int)<(bb.length:Int))=false:=by
 have:l.length=bb.length - kk:=by rw [←hs,List.length_drop]
 rw [he,List.length_nil] at this
 exact decide_eq_false (by omega)
theorem dpar_8 (c:Int)(h0:0≤c)(h1:c≤255)(hj:c / 16=8)(B r:Nat)(S:PS)(w:World)(h:PtS w B r S) :
  Calls Try.prog 58 #[.int .u8 c,.pointer (some ⟨r,0,none⟩)] w (DParPost w B r (parD c S).1 (parD c S).2):=by
 have k1:((docP c).kind==1)=false:=by rw [docP_k,hj];rfl
 have m1:(c / 16==1)=false:=by rw [hj];rfl
 have k2:((docP c).kind==2)=false:=by rw [docP_k,hj];rfl
 have m2:(c / 16==2)=false:=by rw [hj];rfl
 have k3:((docP c).kind==3)=false:=by rw [docP_k,hj];rfl
 have m3:(c / 16==3)=false:=by rw [hj];rfl
 have k8:((docP c).kind==8)=true:=by rw [docP_k,hj];rfl
 have m8:(c / 16==8)=true:=by rw [hj];rfl
 have k9:((docP c).kind==9)=false:=by rw [docP_k,hj];rfl
 have m9:(c / 16==9)=false:=by rw [hj];rfl
 have k10:((docP c).kind==10)=false:=by rw [docP_k,hj];rfl
 have m10:(c / 16==10)=false:=by rw [hj];rfl
 have k12:((docP c).kind==12)=false:=by rw [docP_k,hj];rfl
 have m12:(c / 16==12)=false:=by rw [hj];rfl
 have k13:((docP c).kind==13)=false:=by rw [docP_k,hj];rfl
 have m13:(c / 16==13)=false:=by rw [hj];rfl
 have k14:((docP c).kind==14)=false:=by rw [docP_k,hj];rfl
 have m14:(c / 16==14)=false:=by rw [hj];rfl
 have EQ:parD c S=(sbD (docP c) (nmD 2 S).1 (subsD true (nmD 2 S).2).1,(subsD true (nmD 2 S).2).2):=by
  unfold parD
  simp only [m1,m2,m3,m8,m9,m10,m12,m13,m14,if_true,if_false,Bool.false_eq_true,Bool.or_self,Bool.or_true,Bool.true_or,Bool.or_false,Bool.false_or]
  try rfl
 rw [EQ]
 have H0:=Lib.hid (DSt.start w B r (docP c) S h rfl rfl rfl rfl rfl)
 have hlt:=h.lt
 have PP:=h
 clear EQ hj h m1 m2 m3 m8 m9 m10 m12 m13 m14
 have L0:=PP.le
 clear PP
 obtain ⟨⟨ID,S1⟩,e1⟩:∃a,nmD 2 S=a:=⟨_,rfl⟩
 have L1:=Lib.hid (nm_le e1 L0)
 have N2:=Lib.hid (fun W q=>number_e B r 2 (by omega) e1 W q)
 rw [e1]
 simp only
 clear e1 L0
 go_enter Try.func58,Try.ntmps58
 go_wp2_with ((with_reducible show wpList _ _ _ (⟨_,.store 28 (.tmp 5) _,_,_,_,_⟩ :: _) _ _);refine stLst (w.heap.size+1) (by simp) _ (pkC (docP c) sv0) (by rfl) (by rfl) (by rfl) (by rfl) (pkc_one _ _) ?_)
 go_wp2_with fail
 refine (N2.out _ (H0.out).part).mono ?_
 rintro e w1 ⟨rfl,h1,t1⟩
 have H1:Hid (DSt w B r w.heap.size (docP c) (sv0) (S1) w1):=Lib.hid ((H0.out).call h1 t1)
 have rc1:=H1.out.cells
 have rf1:=H1.out.frz
 clear h1 t1
 have HZ:Hid (DSt w B r w.heap.size (sbD (docP c) ID []) (svD none 0) S1 (w1.setCell ⟨w.heap.size+1,4,none⟩ (.int .i64 ID))):=Lib.hid ((H1.out).put (p':={docP c with id:=ID}) (s':=sv0) 4 (.int .i64 ID) rfl (fun X=>⟨X.pay,X.payn,X.wpay,X.pass,X.subs,X.codes⟩))
 go_wp2_with fail
 go_loopw [] (fun wr=>∃(done:List (ByteArray×Int)) (rest:PS) (A':Option Addr) (c':Nat),Hid (DSt w B r w.heap.size (sbD (docP c) ID done) (svD A' c') rest wr)∧Hid (subsD true S1=(done++(subsD true rest).1,(subsD true rest).2))∧Hid (done.length+rest.1.length≤1000000+(if rest.2 then 1 else 0))) (fun wr=>leftD r wr)
 case atStart=>exact ⟨[],S1,none,0,HZ,Lib.hid rfl,Lib.hid (by have:=L1.out;simp only [List.length_nil];omega)⟩
 case round =>
  obtain ⟨done,rest,A',c',hD,hL,hb3⟩:=hrel
  clear HZ H1 rc1 rf1 N2 L1 H0
  have rc:=hD.out.cells
  have rf:=hD.out.frz
  obtain ⟨l,bad⟩:=rest
  have HM1:=Lib.hid (leftD_at hD.out.part)
  obtain ⟨ad,cc,bb,kk,hp,hs⟩:=hD.out.part
  obtain ⟨c0,c1,c2,hf⟩:=hp.cells
  have hk:=hp.within
  have hsm:=hp.small
  simp only at hs c2
  rcases bad with _ | _
  rotate_left 1
  ·have HE:=hD
   have E1:Hid (subsD true S1=(done,(l,true))):=Lib.hid (by rw [hL.out,subsD_end _ _ (.inl rfl)];simp)
   clear hL hb3 hp hs HM1
   generalize bb.length=n at *
   go_wp2_with fail
   go_quiet (fail)
   go_wp2_with fail
   refine wp_loop_rounds 1 ?_
   rw [rounds_succ]
   go_wp2_with fail
   go_quiet (fail)
   go_wp2_with (first
    | ((with_reducible show wpList _ _ _ (⟨_,.load 28 (.tmp 5),_,_,_,_⟩ :: _) _ _);refine ld_pk (w.heap.size+1) (by rfl) (by rfl) (pkC (sbD (docP c) ID done) (svD A' c')) _ _ (by exact (((HE.out.drew _)).drew _).row) (by rfl) ?_)
    | ((with_reducible show wpList _ _ _ (⟨_,.store 28 (.tmp 4) _,_,_,_,_⟩ :: _) _ _);refine stR (w.heap.size) _ (pkC (sbD (docP c) ID done) (svD A' c')) (by rfl) (by rfl) (by exact (((HE.out.drew _)).drew _).res) (by rfl) (by rfl) (pkc_one _ _) ?_))
   refine bodyPost_ret (v:=.agg _) (results_cell_row (by rfl) _ _ (w.heap.size) 28 _ (0,0) _ (by rfl) (setRow_heap _ _ _ _ _ _ (by exact ((((HE.out.drew _)).drew _)).res)) Try.underlying28 (by rfl) (by exact pk_sz)) (by rfl) ?_
   rw [E1.out]
   exact ((((HE.out.drew _)).drew _)).done _
  by_cases hne:l=[]
  ·have HE:=hD
   have hd:=eq_kk hk hs hne
   have hd2:=eq_kn hk hs hne
   have E1:Hid (subsD true S1=(done,(l,false))):=Lib.hid (by rw [hL.out,subsD_end _ _ (.inr hne)];simp)
   clear hL hb3 hp hs HM1 hne
   generalize bb.length=n at *
   go_wp2_with fail
   go_quiet (fail)
   go_wp2_with fail
   refine wp_loop_rounds 1 ?_
   rw [rounds_succ]
   go_wp2_with fail
   go_quiet (fail)
   go_wp2_with (first
    | ((with_reducible show wpList _ _ _ (⟨_,.load 28 (.tmp 5),_,_,_,_⟩ :: _) _ _);refine ld_pk (w.heap.size+1) (by rfl) (by rfl) (pkC (sbD (docP c) ID done) (svD A' c')) _ _ (by exact (((HE.out.drew _)).drew _).row) (by rfl) ?_)
    | ((with_reducible show wpList _ _ _ (⟨_,.store 28 (.tmp 4) _,_,_,_,_⟩ :: _) _ _);refine stR (w.heap.size) _ (pkC (sbD (docP c) ID done) (svD A' c')) (by rfl) (by rfl) (by exact (((HE.out.drew _)).drew _).res) (by rfl) (by rfl) (pkc_one _ _) ?_))
   refine bodyPost_ret (v:=.agg _) (results_cell_row (by rfl) _ _ (w.heap.size) 28 _ (0,0) _ (by rfl) (setRow_heap _ _ _ _ _ _ (by exact ((((HE.out.drew _)).drew _)).res)) Try.underlying28 (by rfl) (by exact pk_sz)) (by rfl) ?_
   rw [E1.out]
   exact ((((HE.out.drew _)).drew _)).done _
  have hd:=ne_kk hk hs hne
  have hmore:=subsD_more true (l,false) (by simp [hne])
  have lg:=lpD_good (l,false)
  obtain ⟨z1,z2,z3⟩:=lpD_sz (l,false)
  obtain ⟨⟨X,S2⟩,e2⟩:∃a,lpD (l,false)=a:=⟨_,rfl⟩
  have G:=Lib.hid (fun W q=>lump_e B r e2 W q)
  rw [e2] at hmore lg z1 z2 z3
  simp only at hmore lg z1 z2 z3
  have hl0:0<l.length:=List.length_pos_iff.2 hne
  obtain ⟨⟨y,S3⟩,e3⟩:∃a,nmD 1 S2=a:=⟨_,rfl⟩
  have G3:=Lib.hid (fun W q=>number_e B r 1 (by omega) e3 W q)
  have z4:=nmD_le 1 S2
  have z5:S2.2=true→S3.2=true:=fun q=>by have h:=tkD_was 1 S2 q;unfold nmD at e3;rw [h] at e3;have:=congrArg (fun z=>z.2.2) e3;exact this.symm
  rw [e3] at hmore z4
  simp only [if_true] at hmore z4
  have HS:Hid (subsD true S1=((done++[(bytesOfL X,y)])++(subsD true S3).1,(subsD true S3).2)):=Lib.hid (by rw [hL.out,hmore];simp)
  have HN:Hid ((done++[(bytesOfL X,y)]).length+S3.1.length≤1000000+(if S3.2 then 1 else 0)∧(if S3.2 then 0 else S3.1.length)<l.length∧done.length≤1000000):=Lib.hid (by
   have h3:=hb3.out
   simp only [Bool.false_eq_true,if_false] at h3
   rw [List.length_append]
   rcases g2:S2.2 with _ | _
   ·have:=lg g2
    refine ⟨?_,?_,by omega⟩
    ·simp only [List.length_cons,List.length_nil];split <;> omega
    ·split <;> omega
   ·have:=z5 g2
    rw [this]
    refine ⟨?_,?_,by omega⟩
    ·simp only [List.length_cons,List.length_nil,if_true];omega
    ·simp only [if_true];omega)
  clear e3 z4 z5
  clear hmore lg z1 z2 z3 e2 hL hb3 hp hs hl0 hne
  generalize bb.length=n at *
  generalize bytesOfL X=x at *
  generalize hdn:done.length=dn at *
  have HDN:=Lib.hid hdn
  clear hdn
  go_wp2_with fail
  go_quiet (fail)
  go_wp2_with fail
  refine (G.out _ (hD.out.drew _).part).mono ?_
  rintro e w2 ⟨rfl,h2,t2⟩
  have H2:Hid (DSt w B r w.heap.size (sbD (docP c) ID done) (svD A' c') S2 w2):=Lib.hid ((hD.out.drew _).call h2 t2)
  clear rc rf c0 c1 c2 hf h2 t2 hd hk hsm
  have rc:=H2.out.cells
  have rf:=H2.out.frz
  have hlt2:r<w2.heap.size:=by have:=H2.out.size;have:=H2.out.lt;omega
  have HA:=Lib.hid (H2.out.below ((Below.refl _ _).alloc (Nat.le_refl _) (.cells #[.string x,.int .i64 0] 70)))
  have rcA:=HA.out.cells
  have rfA:=HA.out.frz
  go_wp2_with fail
  refine (G3.out _ HA.out.part).mono ?_
  rintro e w3 ⟨rfl,h3,t3⟩
  have hrow:w3.heap[w2.heap.size]? = some (.cells #[.string x,.int .i64 0] 70):=by rw [t3.above _ (by omega) (by simp)];exact heap_alloc_last w2 _
  have q0:w3.cell? ⟨w2.heap.size,0,none⟩=some (.string x):=by simp [World.cell?,hrow]
  have q1:w3.cell? ⟨w2.heap.size,1,none⟩=some (.int .i64 0):=by simp [World.cell?,hrow]
  have f0:w3.frozen? ⟨w2.heap.size,0,none⟩=false:=by simp [World.frozen?,hrow]
  have f1:w3.frozen? ⟨w2.heap.size,1,none⟩=false:=by simp [World.frozen?,hrow]
  have HV:Hid (DSt w B r w.heap.size (sbD (docP c) ID done) (svD A' c') S3 (w3.setCell ⟨w2.heap.size,1,none⟩ (.int .i64 y))):=Lib.hid (H2.out.call (h3.keep ((Below.refl _ w3).setCell (p:=⟨w2.heap.size,1,none⟩) (by show r+1≤w2.heap.size;omega) _)) ((((RdTo.refl r w2).alloc hlt2 _).trans t3).setAbove hlt2 (Nat.le_refl _) _))
  have hgs:w2.heap.size<w3.heap.size:=by have:=t3.below.size;simp at this;omega
  have hne2:w2.heap.size≠w.heap.size+1:=by have:=H2.out.size;omega
  have rcv:=HV.out.cells
  clear h3 t3 rc rf hrow HA G3 rcA rfA
  have V22:w3.cell? ⟨w.heap.size+1,22,none⟩=some (.slice A' dn c'):=by have q:=rcv 22;rw [World.cell?_setCell_far _ _ _ _ hne2] at q;rw [q];show some (Value.slice A' done.length c')=_;rw [HDN.out]
  have V0:w3.cell? ⟨w.heap.size+1,0,none⟩=some (.int .i64 (docP c).kind):=by have q:=rcv 0;rw [World.cell?_setCell_far _ _ _ _ hne2] at q;exact q
  clear rcv
  have hown:(w3.setCell ⟨w2.heap.size,1,none⟩ (.int .i64 y)).ownsRow (w.heap.size+2) 70 2 (.slice A' done.length c') done.length (subCells done):=HV.out.rows.subs
  have hvs:w.heap.size+2≤(w3.setCell ⟨w2.heap.size,1,none⟩ (.int .i64 y)).heap.size:=by have:=HV.out.size;omega
  have HO:=Lib.hid (And.intro hown hvs)
  clear hown hvs
  have hdn:=HDN.out
  subst hdn
  go_wp2_with (at_builtin;go_must (refine aps_wp (w.heap.size+2) A' c' done w3.heap.size x (y) (by rfl) (by rfl) (HO.out.1.alloc _) (by simpa using heap_alloc_last (w3.setCell ⟨w2.heap.size,1,none⟩ (.int .i64 y)) _) HN.out.2.2 (by have:=HO.out.2;simp at this ⊢;omega) ?_))
  intro A2 C2 w4 ho4 hb4
  have hb5:Below (w.heap.size+2) (w3.setCell ⟨w2.heap.size,1,none⟩ (.int .i64 y)) w4:=((Below.refl _ _).alloc HO.out.2 _).trans hb4
  have H4:=Lib.hid (DSt.pushS (A':=A2) (C':=C2) (x:=(x,y)) HV.out hb5 ⟨rfl,rfl,rfl,rfl⟩ ho4)
  have row4:=(HV.out.to_ hb5).2.2.2.1
  have rc4:=row_cells row4
  have rf4:=fun k=>frozen_of_row w4 (w.heap.size+1) k _ _ row4
  have HM2:=Lib.hid (leftD_at H4.out.part)
  clear ho4 hb4 hb5 row4
  go_wp2_with fail
  go_roundw
  case rel=>exact ⟨done++[(x,y)],S3,A2,C2,H4,HS,Lib.hid HN.out.1⟩
  case measure=>rw [HM1.out,HM2.out];exact HN.out.2.1
theorem dpar_10 (c:Int)(h0:0≤c)(h1:c≤255)(hj:c / 16=10)(B r:Nat)(S:PS)(w:World)(h:PtS w B r S) :
  Calls Try.prog 58 #[.int .u8 c,.pointer (some ⟨r,0,none⟩)] w (DParPost w B r (parD c S).1 (parD c S).2):=by
 have k1:((docP c).kind==1)=false:=by rw [docP_k,hj];rfl
 have m1:(c / 16==1)=false:=by rw [hj];rfl
 have k2:((docP c).kind==2)=false:=by rw [docP_k,hj];rfl
 have m2:(c / 16==2)=false:=by rw [hj];rfl
 have k3:((docP c).kind==3)=false:=by rw [docP_k,hj];rfl
 have m3:(c / 16==3)=false:=by rw [hj];rfl
 have k8:((docP c).kind==8)=false:=by rw [docP_k,hj];rfl
 have m8:(c / 16==8)=false:=by rw [hj];rfl
 have k9:((docP c).kind==9)=false:=by rw [docP_k,hj];rfl
 have m9:(c / 16==9)=false:=by rw [hj];rfl
 have k10:((docP c).kind==10)=true:=by rw [docP_k,hj];rfl
 have m10:(c / 16==10)=true:=by rw [hj];rfl
 have k12:((docP c).kind==12)=false:=by rw [docP_k,hj];rfl
 have m12:(c / 16==12)=false:=by rw [hj];rfl
 have k13:((docP c).kind==13)=false:=by rw [docP_k,hj];rfl
 have m13:(c / 16==13)=false:=by rw [hj];rfl
 have k14:((docP c).kind==14)=false:=by rw [docP_k,hj];rfl
 have m14:(c / 16==14)=false:=by rw [hj];rfl
 have EQ:parD c S=(sbD (docP c) (nmD 2 S).1 (subsD false (nmD 2 S).2).1,(subsD false (nmD 2 S).2).2):=by
  unfold parD
  simp only [m1,m2,m3,m8,m9,m10,m12,m13,m14,if_true,if_false,Bool.false_eq_true,Bool.or_self,Bool.or_true,Bool.true_or,Bool.or_false,Bool.false_or]
  try rfl
 rw [EQ]
 have H0:=Lib.hid (DSt.start w B r (docP c) S h rfl rfl rfl rfl rfl)
 have hlt:=h.lt
 have PP:=h
 clear EQ hj h m1 m2 m3 m8 m9 m10 m12 m13 m14
 have L0:=PP.le
 clear PP
 obtain ⟨⟨ID,S1⟩,e1⟩:∃a,nmD 2 S=a:=⟨_,rfl⟩
 have L1:=Lib.hid (nm_le e1 L0)
 have N2:=Lib.hid (fun W q=>number_e B r 2 (by omega) e1 W q)
 rw [e1]
 simp only
 clear e1 L0
 go_enter Try.func58,Try.ntmps58
 go_wp2_with ((with_reducible show wpList _ _ _ (⟨_,.store 28 (.tmp 5) _,_,_,_,_⟩ :: _) _ _);refine stLst (w.heap.size+1) (by simp) _ (pkC (docP c) sv0) (by rfl) (by rfl) (by rfl) (by rfl) (pkc_one _ _) ?_)
 go_wp2_with fail
 refine (N2.out _ (H0.out).part).mono ?_
 rintro e w1 ⟨rfl,h1,t1⟩
 have H1:Hid (DSt w B r w.heap.size (docP c) (sv0) (S1) w1):=Lib.hid ((H0.out).call h1 t1)
 have rc1:=H1.out.cells
 have rf1:=H1.out.frz
 clear h1 t1
 have HZ:Hid (DSt w B r w.heap.size (sbD (docP c) ID []) (svD none 0) S1 (w1.setCell ⟨w.heap.size+1,4,none⟩ (.int .i64 ID))):=Lib.hid ((H1.out).put (p':={docP c with id:=ID}) (s':=sv0) 4 (.int .i64 ID) rfl (fun X=>⟨X.pay,X.payn,X.wpay,X.pass,X.subs,X.codes⟩))
 go_wp2_with fail
 go_loopw [] (fun wr=>∃(done:List (ByteArray×Int)) (rest:PS) (A':Option Addr) (c':Nat),Hid (DSt w B r w.heap.size (sbD (docP c) ID done) (svD A' c') rest wr)∧Hid (subsD false S1=(done++(subsD false rest).1,(subsD false rest).2))∧Hid (done.length+rest.1.length≤1000000+(if rest.2 then 1 else 0))) (fun wr=>leftD r wr)
 case atStart=>exact ⟨[],S1,none,0,HZ,Lib.hid rfl,Lib.hid (by have:=L1.out;simp only [List.length_nil];omega)⟩
 case round =>
  obtain ⟨done,rest,A',c',hD,hL,hb3⟩:=hrel
  clear HZ H1 rc1 rf1 N2 L1 H0
  have rc:=hD.out.cells
  have rf:=hD.out.frz
  obtain ⟨l,bad⟩:=rest
  have HM1:=Lib.hid (leftD_at hD.out.part)
  obtain ⟨ad,cc,bb,kk,hp,hs⟩:=hD.out.part
  obtain ⟨c0,c1,c2,hf⟩:=hp.cells
  have hk:=hp.within
  have hsm:=hp.small
  simp only at hs c2
  rcases bad with _ | _
  rotate_left 1
  ·have HE:=hD
   have E1:Hid (subsD false S1=(done,(l,true))):=Lib.hid (by rw [hL.out,subsD_end _ _ (.inl rfl)];simp)
   clear hL hb3 hp hs HM1
   generalize bb.length=n at *
   go_wp2_with fail
   go_quiet (fail)
   go_wp2_with fail
   refine wp_loop_rounds 1 ?_
   rw [rounds_succ]
   go_wp2_with fail
   go_quiet (fail)
   go_wp2_with (first
    | ((with_reducible show wpList _ _ _ (⟨_,.load 28 (.tmp 5),_,_,_,_⟩ :: _) _ _);refine ld_pk (w.heap.size+1) (by rfl) (by rfl) (pkC (sbD (docP c) ID done) (svD A' c')) _ _ (by exact (((HE.out.drew _)).drew _).row) (by rfl) ?_)
    | ((with_reducible show wpList _ _ _ (⟨_,.store 28 (.tmp 4) _,_,_,_,_⟩ :: _) _ _);refine stR (w.heap.size) _ (pkC (sbD (docP c) ID done) (svD A' c')) (by rfl) (by rfl) (by exact (((HE.out.drew _)).drew _).res) (by rfl) (by rfl) (pkc_one _ _) ?_))
   refine bodyPost_ret (v:=.agg _) (results_cell_row (by rfl) _ _ (w.heap.size) 28 _ (0,0) _ (by rfl) (setRow_heap _ _ _ _ _ _ (by exact ((((HE.out.drew _)).drew _)).res)) Try.underlying28 (by rfl) (by exact pk_sz)) (by rfl) ?_
   rw [E1.out]
   exact ((((HE.out.drew _)).drew _)).done _
  by_cases hne:l=[]
  ·have HE:=hD
   have hd:=eq_kk hk hs hne
   have hd2:=eq_kn hk hs hne
   have E1:Hid (subsD false S1=(done,(l,false))):=Lib.hid (by rw [hL.out,subsD_end _ _ (.inr hne)];simp)
   clear hL hb3 hp hs HM1 hne
   generalize bb.length=n at *
   go_wp2_with fail
   go_quiet (fail)
   go_wp2_with fail
   refine wp_loop_rounds 1 ?_
   rw [rounds_succ]
   go_wp2_with fail
   go_quiet (fail)
   go_wp2_with (first
    | ((with_reducible show wpList _ _ _ (⟨_,.load 28 (.tmp 5),_,_,_,_⟩ :: _) _ _);refine ld_pk (w.heap.size+1) (by rfl) (by rfl) (pkC (sbD (docP c) ID done) (svD A' c')) _ _ (by exact (((HE.out.drew _)).drew _).row) (by rfl) ?_)
    | ((with_reducible show wpList _ _ _ (⟨_,.store 28 (.tmp 4) _,_,_,_,_⟩ :: _) _ _);refine stR (w.heap.size) _ (pkC (sbD (docP c) ID done) (svD A' c')) (by rfl) (by rfl) (by exact (((HE.out.drew _)).drew _).res) (by rfl) (by rfl) (pkc_one _ _) ?_))
   refine bodyPost_ret (v:=.agg _) (results_cell_row (by rfl) _ _ (w.heap.size) 28 _ (0,0) _ (by rfl) (setRow_heap _ _ _ _ _ _ (by exact ((((HE.out.drew _)).drew _)).res)) Try.underlying28 (by rfl) (by exact pk_sz)) (by rfl) ?_
   rw [E1.out]
   exact ((((HE.out.drew _)).drew _)).done _
  have hd:=ne_kk hk hs hne
  have hmore:=subsD_more false (l,false) (by simp [hne])
  have lg:=lpD_good (l,false)
  obtain ⟨z1,z2,z3⟩:=lpD_sz (l,false)
  obtain ⟨⟨X,S2⟩,e2⟩:∃a,lpD (l,false)=a:=⟨_,rfl⟩
  have G:=Lib.hid (fun W q=>lump_e B r e2 W q)
  rw [e2] at hmore lg z1 z2 z3
  simp only at hmore lg z1 z2 z3
  have hl0:0<l.length:=List.length_pos_iff.2 hne
  simp only [Bool.false_eq_true,if_false] at hmore
  have HS:Hid (subsD false S1=((done++[(bytesOfL X,0)])++(subsD false S2).1,(subsD false S2).2)):=Lib.hid (by rw [hL.out,hmore];simp)
  have HN:Hid ((done++[(bytesOfL X,(0:Int))]).length+S2.1.length≤1000000+(if S2.2 then 1 else 0)∧(if S2.2 then 0 else S2.1.length)<l.length∧done.length≤1000000):=Lib.hid (by
   have h3:=hb3.out
   simp only [Bool.false_eq_true,if_false] at h3
   rw [List.length_append]
   rcases g2:S2.2 with _ | _
   ·have:=lg g2
    refine ⟨?_,?_,by omega⟩
    ·simp only [List.length_cons,List.length_nil];split <;> omega
    ·split <;> omega
   ·refine ⟨?_,?_,by omega⟩
    ·simp only [List.length_cons,List.length_nil,if_true];omega
    ·simp only [if_true];omega)
  clear hmore lg z1 z2 z3 e2 hL hb3 hp hs hl0 hne
  generalize bb.length=n at *
  generalize bytesOfL X=x at *
  generalize hdn:done.length=dn at *
  have HDN:=Lib.hid hdn
  clear hdn
  go_wp2_with fail
  go_quiet (fail)
  go_wp2_with fail
  refine (G.out _ (hD.out.drew _).part).mono ?_
  rintro e w2 ⟨rfl,h2,t2⟩
  have H2:Hid (DSt w B r w.heap.size (sbD (docP c) ID done) (svD A' c') S2 w2):=Lib.hid ((hD.out.drew _).call h2 t2)
  clear rc rf c0 c1 c2 hf h2 t2 hd hk hsm
  have rc:=H2.out.cells
  have rf:=H2.out.frz
  have hlt2:r<w2.heap.size:=by have:=H2.out.size;have:=H2.out.lt;omega
  have HV:=Lib.hid (H2.out.below ((Below.refl _ _).alloc (Nat.le_refl _) (.cells #[.string x,.int .i64 0] 70)))
  have rcA:=HV.out.cells
  have V22:(w2.alloc (.cells #[.string x,.int .i64 0] 70)).cell? ⟨w.heap.size+1,22,none⟩=some (.slice A' dn c'):=by rw [rcA 22];show some (Value.slice A' done.length c')=_;rw [HDN.out]
  have hgs:=H2.out.size
  have hown:(w2.alloc (.cells #[.string x,.int .i64 0] 70)).ownsRow (w.heap.size+2) 70 2 (.slice A' done.length c') done.length (subCells done):=HV.out.rows.subs
  have hvs:w.heap.size+2≤(w2.alloc (.cells #[.string x,.int .i64 0] 70)).heap.size:=by have:=HV.out.size;omega
  have HO:=Lib.hid (And.intro hown hvs)
  clear hown hvs
  have hdn:=HDN.out
  subst hdn
  go_wp2_with (at_builtin;go_must (refine aps_wp (w.heap.size+2) A' c' done (w2.heap.size+1) x (0) (by rfl) (by rfl) (HO.out.1.alloc _) (by simpa using heap_alloc_last (w2.alloc (.cells #[.string x,.int .i64 0] 70)) _) HN.out.2.2 (by have:=HO.out.2;simp at this ⊢;omega) ?_))
  intro A2 C2 w4 ho4 hb4
  have hb5:Below (w.heap.size+2) (w2.alloc (.cells #[.string x,.int .i64 0] 70)) w4:=((Below.refl _ _).alloc HO.out.2 _).trans hb4
  have H4:=Lib.hid (DSt.pushS (A':=A2) (C':=C2) (x:=(x,0)) HV.out hb5 ⟨rfl,rfl,rfl,rfl⟩ ho4)
  have row4:=(HV.out.to_ hb5).2.2.2.1
  have rc4:=row_cells row4
  have rf4:=fun k=>frozen_of_row w4 (w.heap.size+1) k _ _ row4
  have HM2:=Lib.hid (leftD_at H4.out.part)
  clear ho4 hb4 hb5 row4
  go_wp2_with fail
  go_roundw
  case rel=>exact ⟨done++[(x,0)],S2,A2,C2,H4,HS,Lib.hid HN.out.1⟩
  case measure=>rw [HM1.out,HM2.out];exact HN.out.2.1
end Go.Proofs.Ytnhpacaoobpkhaa
