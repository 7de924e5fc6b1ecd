import Derived.Test.YtnhpacaoobpkhaaDSub8
import Derived.Deep.RegionHeld3
namespace Go.Proofs.Ytnhpacaoobpkhaa
open Go.RowKit Go.Lib
set_option linter.unusedSimpArgs false
set_option linter.unusedVariables false
set_option maxRecDepth 100000
set_option maxHeartbeats 8000000
@[simp,go_sem] theorem cdD_kind (P:Pk) (i:Int) (L:List Int):(cdD P i L).kind=P.kind:=rfl
@[simp,go_sem] theorem cdD_codes (P:Pk) (i:Int) (L:List Int):(cdD P i L).codes=L:=rfl
@[simp,go_sem] theorem svE_A (A:Option Addr) (C:Nat):(svE A C).cA=A:=rfl
@[simp,go_sem] theorem svE_C (A:Option Addr) (C:Nat):(svE A C).cC=C:=rfl
theorem nm_cons (x:UInt8)(l:List UInt8):nmD 1 (x :: l,false)=((x.toNat:Int),(l,false)):=by
 unfold nmD
 rw [tkD_ok _ _ (by simp)]
 simp [numL]
theorem dpar_9 (c:Int)(h0:0≤c)(h1:c≤255)(hj:c / 16=9)(B r:Nat)(S:PS)(w:World)(h:PtS w B r S) :
  Calls Try.prog 58 #[.int .u8 c,.pointer (some ⟨r,0,none⟩)] w (DParPost w B r (parD c S).1 (parD c S).2):=by
 have k1:((docP c).kind==1)=false:=by rw [docP_k,hj];rfl
 have m1:(c / 16==1)=false:=by rw [hj];rfl
 have k2:((docP c).kind==2)=false:=by rw [docP_k,hj];rfl
 have m2:(c / 16==2)=false:=by rw [hj];rfl
 have k3:((docP c).kind==3)=false:=by rw [docP_k,hj];rfl
 have m3:(c / 16==3)=false:=by rw [hj];rfl
 have k8:((docP c).kind==8)=false:=by rw [docP_k,hj];rfl
 have m8:(c / 16==8)=false:=by rw [hj];rfl
 have k9:((docP c).kind==9)=true:=by rw [docP_k,hj];rfl
 have m9:(c / 16==9)=true:=by rw [hj];rfl
 have k10:((docP c).kind==10)=false:=by rw [docP_k,hj];rfl
 have m10:(c / 16==10)=false:=by rw [hj];rfl
 have k12:((docP c).kind==12)=false:=by rw [docP_k,hj];rfl
 have m12:(c / 16==12)=false:=by rw [hj];rfl
 have k13:((docP c).kind==13)=false:=by rw [docP_k,hj];rfl
 have m13:(c / 16==13)=false:=by rw [hj];rfl
 have k14:((docP c).kind==14)=false:=by rw [docP_k,hj];rfl
 have m14:(c / 16==14)=false:=by rw [hj];rfl
 have EQ:parD c S=(if (nmD 2 S).2.2 then (cdD (docP c) (nmD 2 S).1 [],(nmD 2 S).2) else (cdD (docP c) (nmD 2 S).1 (codesR (nmD 2 S).2.1),([],false))):=by
  unfold parD
  simp only [m1,m2,m3,m8,m9,m10,m12,m13,m14,if_true,if_false,Bool.false_eq_true,Bool.or_self,Bool.or_true,Bool.true_or,Bool.or_false,Bool.false_or]
  split <;> rfl
 rw [EQ]
 have H0:=Lib.hid (DSt.start w B r (docP c) S h rfl rfl rfl rfl rfl)
 have hlt:=h.lt
 have PP:=h
 clear EQ hj h m1 m2 m3 m8 m9 m10 m12 m13 m14
 have L0:=PP.le
 clear PP
 obtain ⟨⟨ID,S1⟩,e1⟩:∃a,nmD 2 S=a:=⟨_,rfl⟩
 have L1:=Lib.hid (nm_le e1 L0)
 have N2:=Lib.hid (fun W q=>number_e B r 2 (by omega) e1 W q)
 rw [e1]
 simp only
 obtain ⟨RR,hRR⟩:∃RR:Pk×PS,RR=(if S1.2 then (cdD (docP c) ID [],S1) else (cdD (docP c) ID (codesR S1.1),([],false))):=⟨_,rfl⟩
 rw [←hRR]
 have HRR:=Lib.hid hRR
 clear e1 L0 hRR
 go_enter Try.func58,Try.ntmps58
 go_wp2_with ((with_reducible show wpList _ _ _ (⟨_,.store 28 (.tmp 5) _,_,_,_,_⟩ :: _) _ _);refine stLst (w.heap.size+1) (by simp) _ (pkC (docP c) sv0) (by rfl) (by rfl) (by rfl) (by rfl) (pkc_one _ _) ?_)
 go_wp2_with fail
 refine (N2.out _ (H0.out).part).mono ?_
 rintro e w1 ⟨rfl,h1,t1⟩
 have H1:Hid (DSt w B r w.heap.size (docP c) (sv0) (S1) w1):=Lib.hid ((H0.out).call h1 t1)
 have rc1:=H1.out.cells
 have rf1:=H1.out.frz
 clear h1 t1
 go_wp2_with fail
 refine wp_loop_rounds 1 ?_
 rw [rounds_succ]
 go_wp2_with fail
 go_quiet (fail)
 go_wp2_with fail
 have HZ0:Hid (∀n,DSt w B r w.heap.size (cdD (docP c) ID []) (svE none 0) S1 ((w1.setCell ⟨w.heap.size+1,4,none⟩ (.int .i64 ID)).drewN n)):=Lib.hid (fun n=>((((H1.out).put (p':={docP c with id:=ID}) (s':=sv0) 4 (.int .i64 ID) rfl (fun X=>⟨X.pay,X.payn,X.wpay,X.pass,X.subs,X.codes⟩))).drew n))
 go_loopw [] (fun wr=>∃(done:List Int) (rest:PS) (A':Option Addr) (c':Nat),Hid (DSt w B r w.heap.size (cdD (docP c) ID done) (svE A' c') rest wr)∧Hid (RR=(if rest.2 then (cdD (docP c) ID done,rest) else (cdD (docP c) ID (done++codesR rest.1),([],false))))∧Hid (done.length+rest.1.length≤1000000)) (fun wr=>leftD r wr)
 case atStart=>exact ⟨[],S1,none,0,Lib.hid (HZ0.out _),Lib.hid (by rw [HRR.out];rfl),Lib.hid (by have:=L1.out;simp only [List.length_nil];omega)⟩
 case round =>
  obtain ⟨done,rest,A',c',hD,hL,hb3⟩:=hrel
  clear HZ0 H1 rc1 rf1 N2 L1 H0 HRR
  have rc:=hD.out.cells
  have rf:=hD.out.frz
  obtain ⟨l,bad⟩:=rest
  have HM1:=Lib.hid (leftD_at hD.out.part)
  obtain ⟨ad,cc,bb,kk,hp,hs⟩:=hD.out.part
  obtain ⟨c0,c1,c2,hf⟩:=hp.cells
  have hk:=hp.within
  have hsm:=hp.small
  simp only at hs c2
  rcases bad with _ | _
  rotate_left 1
  ·have HE:=hD
   have E1:Hid (RR=(cdD (docP c) ID done,(l,true))):=Lib.hid (by rw [hL.out];rfl)
   clear hL hb3 hp hs HM1
   generalize bb.length=n at *
   go_wp2_with fail
   go_quiet (fail)
   go_wp2_with (first
    | ((with_reducible show wpList _ _ _ (⟨_,.load 28 (.tmp 5),_,_,_,_⟩ :: _) _ _);refine ld_pk (w.heap.size+1) (by rfl) (by rfl) (pkC (cdD (docP c) ID done) (svE A' c')) _ _ (by exact (HE.out.drew _).row) (by rfl) ?_)
    | ((with_reducible show wpList _ _ _ (⟨_,.store 28 (.tmp 4) _,_,_,_,_⟩ :: _) _ _);refine stR (w.heap.size) _ (pkC (cdD (docP c) ID done) (svE A' c')) (by rfl) (by rfl) (by exact (HE.out.drew _).res) (by rfl) (by rfl) (pkc_one _ _) ?_))
   refine bodyPost_ret (v:=.agg _) (results_cell_row (by rfl) _ _ (w.heap.size) 28 _ (0,0) _ (by rfl) (setRow_heap _ _ _ _ _ _ (by exact ((HE.out.drew _)).res)) Try.underlying28 (by rfl) (by exact pk_sz)) (by rfl) ?_
   rw [E1.out]
   exact ((HE.out.drew _)).done _
  by_cases hne:l=[]
  ·have HE:=hD
   have hd:=eq_kk hk hs hne
   have hd2:=eq_kn hk hs hne
   have E1:Hid (RR=(cdD (docP c) ID done,(l,false))):=Lib.hid (by rw [hL.out,hne];simp [codesR])
   clear hL hb3 hp hs HM1 hne
   generalize bb.length=n at *
   go_wp2_with fail
   go_quiet (fail)
   go_wp2_with (first
    | ((with_reducible show wpList _ _ _ (⟨_,.load 28 (.tmp 5),_,_,_,_⟩ :: _) _ _);refine ld_pk (w.heap.size+1) (by rfl) (by rfl) (pkC (cdD (docP c) ID done) (svE A' c')) _ _ (by exact (HE.out.drew _).row) (by rfl) ?_)
    | ((with_reducible show wpList _ _ _ (⟨_,.store 28 (.tmp 4) _,_,_,_,_⟩ :: _) _ _);refine stR (w.heap.size) _ (pkC (cdD (docP c) ID done) (svE A' c')) (by rfl) (by rfl) (by exact (HE.out.drew _).res) (by rfl) (by rfl) (pkc_one _ _) ?_))
   refine bodyPost_ret (v:=.agg _) (results_cell_row (by rfl) _ _ (w.heap.size) 28 _ (0,0) _ (by rfl) (setRow_heap _ _ _ _ _ _ (by exact ((HE.out.drew _)).res)) Try.underlying28 (by rfl) (by exact pk_sz)) (by rfl) ?_
   rw [E1.out]
   exact ((HE.out.drew _)).done _
  have hd:=ne_kk hk hs hne
  obtain ⟨x,l2,rfl⟩:∃x l2,l=x :: l2:=by
   cases l with
   | nil=>exact absurd rfl hne
   | cons x l2=>exact ⟨x,l2,rfl⟩
  have G:=Lib.hid (fun W q=>number_e B r 1 (by omega) (nm_cons x l2) W q)
  have HS:Hid (RR=(cdD (docP c) ID ((done++[(x.toNat:Int)])++codesR l2),([],false))):=Lib.hid (by rw [hL.out];simp [codesR])
  have HN:Hid ((done++[(x.toNat:Int)]).length+l2.length≤1000000∧done.length≤1000000):=Lib.hid (by
   have h3:=hb3.out
   simp only [List.length_cons] at h3
   simp only [List.length_append,List.length_cons,List.length_nil]
   omega)
  clear hL hb3 hp hs hne
  generalize bb.length=n at *
  generalize (x.toNat:Int)=y at *
  go_wp2_with fail
  go_quiet (fail)
  go_wp2_with fail
  have HV0:=Lib.hid (hD.out.drew nq)
  generalize wr.drewN nq=V0 at HV0 ⊢
  clear rc rf c0 c1 c2 hf hd hk hsm
  refine wp_region_held_drew (S:=fun _=>True) (by rfl) trivial ?_
  intro _
  have HV:=Lib.hid (HV0.out.drew 1)
  change Hid (DSt w B r w.heap.size (cdD (docP c) ID done) (svE A' c') (x :: l2,false) V0.drew) at HV
  generalize V0.drew=V at HV ⊢
  clear HV0 hD
  have rcV:=HV.out.cells
  have V23:V.cell? ⟨w.heap.size+1,23,none⟩=some (.slice A' done.length c'):=rcV 23
  clear rcV
  refine wpAnyH_take (i:=0) (oi:=⟨some 81,.fieldAddr 28 (.tmp 5) 20,0,"hubbubref3.go:264",#[],none⟩) (v:=.pointer (some ⟨w.heap.size+1,23,none⟩)) rfl (by kernel_rfl) (by kernel_rfl) (by kernel_rfl) (fun _ _ _ h=>h) (.inl ⟨by kernel_rfl,fun W hW=>by go_simp⟩) trivial ?_
  simp only [Act.put,List.setIfInBounds_toArray,List.set_cons_zero,List.set_cons_succ]
  refine wpAnyH_take (i:=2) (oi:=⟨some 83,.move (.tmp 1),89,"hubbubref3.go:264",#[],none⟩) (v:=.pointer (some ⟨r,0,none⟩)) rfl (by kernel_rfl) (by kernel_rfl) (by kernel_rfl) (fun _ _ _ h=>h) (.inl ⟨by kernel_rfl,fun W hW=>by go_simp⟩) trivial ?_
  simp only [Act.put,List.setIfInBounds_toArray,List.set_cons_zero,List.set_cons_succ]
  refine wpAnyH_ready (rs:=[1,3]) (by kernel_rfl) (by simp) (AllReadyH.cons (o:=⟨some 82,.load 26 (.tmp 81),26,"hubbubref3.go:264",#[⟨0,.data⟩],none⟩) rfl ?_ (AllReadyH.cons (o:=⟨some 84,.call ⟨.value (.func 91),#[.tmp 83,.const (.int .i64 1)],#[89,3]⟩,3,"hubbubref3.go:264",#[⟨2,.data⟩],none⟩) rfl ?_ (AllReadyH.nil)))
  ·skip
   intro K' hK
   rw [if_pos (by kernel_rfl)]
   go_wp2_with fail
   refine hK.out _ _ trivial ?_
   clear hK K'
   intro _
   refine wpAnyH_ready (rs:=[3]) (by kernel_rfl) (by simp) (AllReadyH.cons (o:=⟨some 84,.call ⟨.value (.func 91),#[.tmp 83,.const (.int .i64 1)],#[89,3]⟩,3,"hubbubref3.go:264",#[⟨2,.data⟩],none⟩) rfl ?_ (AllReadyH.nil))
   intro K' hK
   rw [if_pos (by kernel_rfl)]
   go_wp2_with fail
   refine (G.out _ HV.out.part).mono ?_
   rintro e w2 ⟨rfl,h2,t2⟩
   have H2:Hid (DSt w B r w.heap.size (cdD (docP c) ID done) (svE A' c') (l2,false) w2):=Lib.hid (HV.out.call h2 t2)
   have V23b:w2.cell? ⟨w.heap.size+1,23,none⟩=some (.slice A' done.length c'):=H2.out.cells 23
   have hsz:=H2.out.size
   clear h2 t2 V23
   go_wp2_with fail
   refine hK.out _ _ trivial ?_
   clear hK K'
   intro _
   refine wpAnyH_ready (rs:=[4]) (by kernel_rfl) (by simp) (AllReadyH.cons (o:=⟨some 85,.buildSlice 26 1 #[(0,.tmp 84)],26,"hubbubref3.go:264",#[⟨3,.data⟩],none⟩) rfl ?_ (AllReadyH.nil))
   intro K' hK
   rw [if_pos (by kernel_rfl)]
   go_wp2_with fail
   refine hK.out _ _ trivial ?_
   clear hK K'
   intro _
   have V23c:(w2.alloc (.cells #[.int .i64 y] 3)).cell? ⟨w.heap.size+1,23,none⟩=some (.slice A' done.length c'):=by rw [World.cell?_alloc_some _ _ _ (by rw [V23b];rfl)];exact V23b
   refine wpAnyH_ready (rs:=[5]) (by kernel_rfl) (by simp) (AllReadyH.cons (o:=⟨some 86,.call ⟨.builtin .append,#[.tmp 82,.tmp 85],#[26,26]⟩,26,"hubbubref3.go:264",#[⟨1,.data⟩,⟨4,.data⟩,⟨3,.chain⟩],none⟩) rfl ?_ (AllReadyH.nil))
   intro K' hK
   rw [if_pos (by kernel_rfl)]
   refine api_wp (w.heap.size+2) A' c' done w2.heap.size y (by rfl) (by rfl) ((show w2.ownsRow (w.heap.size+2) 3 1 (.slice A' done.length c') done.length (intCells done) from H2.out.rows.codes).alloc _) (heap_alloc_last w2 _) HN.out.2 (by simp;omega) ?_
   intro A2 C2 w4 ho4 hb4
   have hb5:Below (w.heap.size+2) w2 w4:=((Below.refl _ _).alloc (by omega) _).trans hb4
   have H4:=Lib.hid (DSt.pushC (A':=A2) (C':=C2) (x:=y) H2.out hb5 ⟨rfl,rfl,rfl,rfl⟩ ho4)
   have row4:=(H2.out.to_ hb5).2.2.2.1
   have rc4:=row_cells row4
   have rf4:=fun k=>frozen_of_row w4 (w.heap.size+1) k _ _ row4
   have HM2:=Lib.hid (leftD_at H4.out.part)
   clear ho4 hb4 hb5 row4
   refine hK.out _ _ trivial ?_
   clear hK K'
   intro _
   refine wpAnyH_ready (rs:=[6]) (by kernel_rfl) (by simp) (AllReadyH.cons (o:=⟨some 87,.fieldAddr 28 (.tmp 5) 20,0,"hubbubref3.go:264",#[⟨0,.phase⟩,⟨1,.phase⟩,⟨2,.phase⟩,⟨3,.phase⟩,⟨4,.phase⟩,⟨5,.phase⟩],none⟩) rfl ?_ (AllReadyH.nil))
   intro K' hK
   rw [if_pos (by kernel_rfl)]
   go_wp2_with fail
   refine hK.out _ _ trivial ?_
   clear hK K'
   intro _
   refine wpAnyH_ready (rs:=[7]) (by kernel_rfl) (by simp) (AllReadyH.cons (o:=⟨none,.store 26 (.tmp 87) (.tmp 86),0,"hubbubref3.go:264",#[⟨6,.data⟩,⟨5,.data⟩,⟨5,.chain⟩,⟨0,.phase⟩,⟨1,.phase⟩,⟨2,.phase⟩,⟨3,.phase⟩,⟨4,.phase⟩,⟨5,.phase⟩],none⟩) rfl ?_ (AllReadyH.nil))
   intro K' hK
   rw [if_pos (by kernel_rfl)]
   go_wp2_with fail
   refine hK.out _ _ trivial ?_
   clear hK K'
   intro _
   refine wpAnyH_done (by kernel_rfl) ?_ _
   go_wp2_with fail
   go_roundw
   case rel=>exact ⟨done++[y],(l2,false),A2,C2,H4,HS,Lib.hid HN.out.1⟩
   case measure=>rw [HM1.out,HM2.out];simp
  ·skip
   intro K' hK
   rw [if_pos (by kernel_rfl)]
   go_wp2_with fail
   refine (G.out _ HV.out.part).mono ?_
   rintro e w2 ⟨rfl,h2,t2⟩
   have H2:Hid (DSt w B r w.heap.size (cdD (docP c) ID done) (svE A' c') (l2,false) w2):=Lib.hid (HV.out.call h2 t2)
   have V23b:w2.cell? ⟨w.heap.size+1,23,none⟩=some (.slice A' done.length c'):=H2.out.cells 23
   have hsz:=H2.out.size
   clear h2 t2 V23
   go_wp2_with fail
   refine hK.out _ _ trivial ?_
   clear hK K'
   intro _
   refine wpAnyH_ready (rs:=[1,4]) (by kernel_rfl) (by simp) (AllReadyH.cons (o:=⟨some 82,.load 26 (.tmp 81),26,"hubbubref3.go:264",#[⟨0,.data⟩],none⟩) rfl ?_ (AllReadyH.cons (o:=⟨some 85,.buildSlice 26 1 #[(0,.tmp 84)],26,"hubbubref3.go:264",#[⟨3,.data⟩],none⟩) rfl ?_ (AllReadyH.nil)))
   ·skip
    intro K' hK
    rw [if_pos (by kernel_rfl)]
    go_wp2_with fail
    refine hK.out _ _ trivial ?_
    clear hK K'
    intro _
    refine wpAnyH_ready (rs:=[4]) (by kernel_rfl) (by simp) (AllReadyH.cons (o:=⟨some 85,.buildSlice 26 1 #[(0,.tmp 84)],26,"hubbubref3.go:264",#[⟨3,.data⟩],none⟩) rfl ?_ (AllReadyH.nil))
    intro K' hK
    rw [if_pos (by kernel_rfl)]
    go_wp2_with fail
    refine hK.out _ _ trivial ?_
    clear hK K'
    intro _
    have V23c:(w2.alloc (.cells #[.int .i64 y] 3)).cell? ⟨w.heap.size+1,23,none⟩=some (.slice A' done.length c'):=by rw [World.cell?_alloc_some _ _ _ (by rw [V23b];rfl)];exact V23b
    refine wpAnyH_ready (rs:=[5]) (by kernel_rfl) (by simp) (AllReadyH.cons (o:=⟨some 86,.call ⟨.builtin .append,#[.tmp 82,.tmp 85],#[26,26]⟩,26,"hubbubref3.go:264",#[⟨1,.data⟩,⟨4,.data⟩,⟨3,.chain⟩],none⟩) rfl ?_ (AllReadyH.nil))
    intro K' hK
    rw [if_pos (by kernel_rfl)]
    refine api_wp (w.heap.size+2) A' c' done w2.heap.size y (by rfl) (by rfl) ((show w2.ownsRow (w.heap.size+2) 3 1 (.slice A' done.length c') done.length (intCells done) from H2.out.rows.codes).alloc _) (heap_alloc_last w2 _) HN.out.2 (by simp;omega) ?_
    intro A2 C2 w4 ho4 hb4
    have hb5:Below (w.heap.size+2) w2 w4:=((Below.refl _ _).alloc (by omega) _).trans hb4
    have H4:=Lib.hid (DSt.pushC (A':=A2) (C':=C2) (x:=y) H2.out hb5 ⟨rfl,rfl,rfl,rfl⟩ ho4)
    have row4:=(H2.out.to_ hb5).2.2.2.1
    have rc4:=row_cells row4
    have rf4:=fun k=>frozen_of_row w4 (w.heap.size+1) k _ _ row4
    have HM2:=Lib.hid (leftD_at H4.out.part)
    clear ho4 hb4 hb5 row4
    refine hK.out _ _ trivial ?_
    clear hK K'
    intro _
    refine wpAnyH_ready (rs:=[6]) (by kernel_rfl) (by simp) (AllReadyH.cons (o:=⟨some 87,.fieldAddr 28 (.tmp 5) 20,0,"hubbubref3.go:264",#[⟨0,.phase⟩,⟨1,.phase⟩,⟨2,.phase⟩,⟨3,.phase⟩,⟨4,.phase⟩,⟨5,.phase⟩],none⟩) rfl ?_ (AllReadyH.nil))
    intro K' hK
    rw [if_pos (by kernel_rfl)]
    go_wp2_with fail
    refine hK.out _ _ trivial ?_
    clear hK K'
    intro _
    refine wpAnyH_ready (rs:=[7]) (by kernel_rfl) (by simp) (AllReadyH.cons (o:=⟨none,.store 26 (.tmp 87) (.tmp 86),0,"hubbubref3.go:264",#[⟨6,.data⟩,⟨5,.data⟩,⟨5,.chain⟩,⟨0,.phase⟩,⟨1,.phase⟩,⟨2,.phase⟩,⟨3,.phase⟩,⟨4,.phase⟩,⟨5,.phase⟩],none⟩) rfl ?_ (AllReadyH.nil))
    intro K' hK
    rw [if_pos (by kernel_rfl)]
    go_wp2_with fail
    refine hK.out _ _ trivial ?_
    clear hK K'
    intro _
    refine wpAnyH_done (by kernel_rfl) ?_ _
    go_wp2_with fail
    go_roundw
    case rel=>exact ⟨done++[y],(l2,false),A2,C2,H4,HS,Lib.hid HN.out.1⟩
    case measure=>rw [HM1.out,HM2.out];simp
   ·skip
    intro K' hK
    rw [if_pos (by kernel_rfl)]
    go_wp2_with fail
    refine hK.out _ _ trivial ?_
    clear hK K'
    intro _
    have V23c:(w2.alloc (.cells #[.int .i64 y] 3)).cell? ⟨w.heap.size+1,23,none⟩=some (.slice A' done.length c'):=by rw [World.cell?_alloc_some _ _ _ (by rw [V23b];rfl)];exact V23b
    refine wpAnyH_ready (rs:=[1]) (by kernel_rfl) (by simp) (AllReadyH.cons (o:=⟨some 82,.load 26 (.tmp 81),26,"hubbubref3.go:264",#[⟨0,.data⟩],none⟩) rfl ?_ (AllReadyH.nil))
    intro K' hK
    rw [if_pos (by kernel_rfl)]
    go_wp2_with fail
    refine hK.out _ _ trivial ?_
    clear hK K'
    intro _
    refine wpAnyH_ready (rs:=[5]) (by kernel_rfl) (by simp) (AllReadyH.cons (o:=⟨some 86,.call ⟨.builtin .append,#[.tmp 82,.tmp 85],#[26,26]⟩,26,"hubbubref3.go:264",#[⟨1,.data⟩,⟨4,.data⟩,⟨3,.chain⟩],none⟩) rfl ?_ (AllReadyH.nil))
    intro K' hK
    rw [if_pos (by kernel_rfl)]
    refine api_wp (w.heap.size+2) A' c' done w2.heap.size y (by rfl) (by rfl) ((show w2.ownsRow (w.heap.size+2) 3 1 (.slice A' done.length c') done.length (intCells done) from H2.out.rows.codes).alloc _) (heap_alloc_last w2 _) HN.out.2 (by simp;omega) ?_
    intro A2 C2 w4 ho4 hb4
    have hb5:Below (w.heap.size+2) w2 w4:=((Below.refl _ _).alloc (by omega) _).trans hb4
    have H4:=Lib.hid (DSt.pushC (A':=A2) (C':=C2) (x:=y) H2.out hb5 ⟨rfl,rfl,rfl,rfl⟩ ho4)
    have row4:=(H2.out.to_ hb5).2.2.2.1
    have rc4:=row_cells row4
    have rf4:=fun k=>frozen_of_row w4 (w.heap.size+1) k _ _ row4
    have HM2:=Lib.hid (leftD_at H4.out.part)
    clear ho4 hb4 hb5 row4
    refine hK.out _ _ trivial ?_
    clear hK K'
    intro _
    refine wpAnyH_ready (rs:=[6]) (by kernel_rfl) (by simp) (AllReadyH.cons (o:=⟨some 87,.fieldAddr 28 (.tmp 5) 20,0,"hubbubref3.go:264",#[⟨0,.phase⟩,⟨1,.phase⟩,⟨2,.phase⟩,⟨3,.phase⟩,⟨4,.phase⟩,⟨5,.phase⟩],none⟩) rfl ?_ (AllReadyH.nil))
    intro K' hK
    rw [if_pos (by kernel_rfl)]
    go_wp2_with fail
    refine hK.out _ _ trivial ?_
    clear hK K'
    intro _
    refine wpAnyH_ready (rs:=[7]) (by kernel_rfl) (by simp) (AllReadyH.cons (o:=⟨none,.store 26 (.tmp 87) (.tmp 86),0,"hubbubref3.go:264",#[⟨6,.data⟩,⟨5,.data⟩,⟨5,.chain⟩,⟨0,.phase⟩,⟨1,.phase⟩,⟨2,.phase⟩,⟨3,.phase⟩,⟨4,.phase⟩,⟨5,.phase⟩],none⟩) rfl ?_ (AllReadyH.nil))
    intro K' hK
    rw [if_pos (by kernel_rfl)]
    go_wp2_with fail
    refine hK.out _ _ trivial ?_
    clear hK K'
    intro _
    refine wpAnyH_done (by kernel_rfl) ?_ _
    go_wp2_with fail
    go_roundw
    case rel=>exact ⟨done++[y],(l2,false),A2,C2,H4,HS,Lib.hid HN.out.1⟩
    case measure=>rw [HM1.out,HM2.out];simp
end Go.Proofs.Ytnhpacaoobpkhaa
