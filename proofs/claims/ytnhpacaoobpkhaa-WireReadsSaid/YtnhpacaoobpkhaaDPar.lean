import Derived.Test.YtnhpacaoobpkhaaDTool
import Derived.StillTailTactics
namespace Go.Proofs.Ytnhpacaoobpkhaa
open Go.RowKit Go.Lib
set_option linter.unusedSimpArgs false
set_option linter.unusedVariables false
set_option maxRecDepth 100000
set_option maxHeartbeats 8000000
theorem dpar_12 (c:Int)(h0:0≤c)(h1:c≤255)(hj:c / 16=12)(B r:Nat)(S:PS)(w:World)(h:PtS w B r S) :
  Calls Try.prog 58 #[.int .u8 c,.pointer (some ⟨r,0,none⟩)] w (DParPost w B r (parD c S).1 (parD c S).2):=by
 have k1:((docP c).kind==1)=false:=by rw [docP_k,hj];rfl
 have m1:(c / 16==1)=false:=by rw [hj];rfl
 have k2:((docP c).kind==2)=false:=by rw [docP_k,hj];rfl
 have m2:(c / 16==2)=false:=by rw [hj];rfl
 have k3:((docP c).kind==3)=false:=by rw [docP_k,hj];rfl
 have m3:(c / 16==3)=false:=by rw [hj];rfl
 have k8:((docP c).kind==8)=false:=by rw [docP_k,hj];rfl
 have m8:(c / 16==8)=false:=by rw [hj];rfl
 have k9:((docP c).kind==9)=false:=by rw [docP_k,hj];rfl
 have m9:(c / 16==9)=false:=by rw [hj];rfl
 have k10:((docP c).kind==10)=false:=by rw [docP_k,hj];rfl
 have m10:(c / 16==10)=false:=by rw [hj];rfl
 have k12:((docP c).kind==12)=true:=by rw [docP_k,hj];rfl
 have m12:(c / 16==12)=true:=by rw [hj];rfl
 have k13:((docP c).kind==13)=false:=by rw [docP_k,hj];rfl
 have m13:(c / 16==13)=false:=by rw [hj];rfl
 have k14:((docP c).kind==14)=false:=by rw [docP_k,hj];rfl
 have m14:(c / 16==14)=false:=by rw [hj];rfl
 have EQ:parD c S=(docP c,S):=by
  unfold parD
  simp only [m1,m2,m3,m8,m9,m10,m12,m13,m14,if_true,if_false,Bool.false_eq_true,Bool.or_self,Bool.or_true,Bool.true_or,Bool.or_false,Bool.false_or]
  try rfl
 rw [EQ]
 have H0:=Lib.hid (DSt.start w B r (docP c) S h rfl rfl rfl rfl rfl)
 have hlt:=h.lt
 clear EQ hj h m1 m2 m3 m8 m9 m10 m12 m13 m14
 go_enter Try.func58,Try.ntmps58
 go_wp2_with (first
  | ((with_reducible show wpList _ _ _ (⟨_,.store 28 (.tmp 5) _,_,_,_,_⟩ :: _) _ _);refine stLst (w.heap.size+1) (by simp) _ (pkC (docP c) sv0) (by rfl) (by rfl) (by rfl) (by rfl) (pkc_one _ _) ?_)
  | ((with_reducible show wpList _ _ _ (⟨_,.load 28 (.tmp 5),_,_,_,_⟩ :: _) _ _);refine ld_pk (w.heap.size+1) (by rfl) (by rfl) (pkC (docP c) (sv0)) _ _ (by exact H0.out.row) (by rfl) ?_)
  | ((with_reducible show wpList _ _ _ (⟨_,.store 28 (.tmp 4) _,_,_,_,_⟩ :: _) _ _);refine stR (w.heap.size) _ (pkC (docP c) (sv0)) (by rfl) (by rfl) (by exact H0.out.res) (by rfl) (by rfl) (pkc_one _ _) ?_))
 refine bodyPost_ret (v:=.agg _) (results_cell_row (by rfl) _ _ (w.heap.size) 28 _ (0,0) _ (by rfl) (setRow_heap _ _ _ _ _ _ (by exact (H0.out).res)) Try.underlying28 (by rfl) (by exact pk_sz)) (by rfl) ?_
 exact (H0.out).done _
theorem dpar_13 (c:Int)(h0:0≤c)(h1:c≤255)(hj:c / 16=13)(B r:Nat)(S:PS)(w:World)(h:PtS w B r S) :
  Calls Try.prog 58 #[.int .u8 c,.pointer (some ⟨r,0,none⟩)] w (DParPost w B r (parD c S).1 (parD c S).2):=by
 have k1:((docP c).kind==1)=false:=by rw [docP_k,hj];rfl
 have m1:(c / 16==1)=false:=by rw [hj];rfl
 have k2:((docP c).kind==2)=false:=by rw [docP_k,hj];rfl
 have m2:(c / 16==2)=false:=by rw [hj];rfl
 have k3:((docP c).kind==3)=false:=by rw [docP_k,hj];rfl
 have m3:(c / 16==3)=false:=by rw [hj];rfl
 have k8:((docP c).kind==8)=false:=by rw [docP_k,hj];rfl
 have m8:(c / 16==8)=false:=by rw [hj];rfl
 have k9:((docP c).kind==9)=false:=by rw [docP_k,hj];rfl
 have m9:(c / 16==9)=false:=by rw [hj];rfl
 have k10:((docP c).kind==10)=false:=by rw [docP_k,hj];rfl
 have m10:(c / 16==10)=false:=by rw [hj];rfl
 have k12:((docP c).kind==12)=false:=by rw [docP_k,hj];rfl
 have m12:(c / 16==12)=false:=by rw [hj];rfl
 have k13:((docP c).kind==13)=true:=by rw [docP_k,hj];rfl
 have m13:(c / 16==13)=true:=by rw [hj];rfl
 have k14:((docP c).kind==14)=false:=by rw [docP_k,hj];rfl
 have m14:(c / 16==14)=false:=by rw [hj];rfl
 have EQ:parD c S=(docP c,S):=by
  unfold parD
  simp only [m1,m2,m3,m8,m9,m10,m12,m13,m14,if_true,if_false,Bool.false_eq_true,Bool.or_self,Bool.or_true,Bool.true_or,Bool.or_false,Bool.false_or]
  try rfl
 rw [EQ]
 have H0:=Lib.hid (DSt.start w B r (docP c) S h rfl rfl rfl rfl rfl)
 have hlt:=h.lt
 clear EQ hj h m1 m2 m3 m8 m9 m10 m12 m13 m14
 go_enter Try.func58,Try.ntmps58
 go_wp2_with (first
  | ((with_reducible show wpList _ _ _ (⟨_,.store 28 (.tmp 5) _,_,_,_,_⟩ :: _) _ _);refine stLst (w.heap.size+1) (by simp) _ (pkC (docP c) sv0) (by rfl) (by rfl) (by rfl) (by rfl) (pkc_one _ _) ?_)
  | ((with_reducible show wpList _ _ _ (⟨_,.load 28 (.tmp 5),_,_,_,_⟩ :: _) _ _);refine ld_pk (w.heap.size+1) (by rfl) (by rfl) (pkC (docP c) (sv0)) _ _ (by exact H0.out.row) (by rfl) ?_)
  | ((with_reducible show wpList _ _ _ (⟨_,.store 28 (.tmp 4) _,_,_,_,_⟩ :: _) _ _);refine stR (w.heap.size) _ (pkC (docP c) (sv0)) (by rfl) (by rfl) (by exact H0.out.res) (by rfl) (by rfl) (pkc_one _ _) ?_))
 refine bodyPost_ret (v:=.agg _) (results_cell_row (by rfl) _ _ (w.heap.size) 28 _ (0,0) _ (by rfl) (setRow_heap _ _ _ _ _ _ (by exact (H0.out).res)) Try.underlying28 (by rfl) (by exact pk_sz)) (by rfl) ?_
 exact (H0.out).done _
theorem dpar_14 (c:Int)(h0:0≤c)(h1:c≤255)(hj:c / 16=14)(B r:Nat)(S:PS)(w:World)(h:PtS w B r S) :
  Calls Try.prog 58 #[.int .u8 c,.pointer (some ⟨r,0,none⟩)] w (DParPost w B r (parD c S).1 (parD c S).2):=by
 have k1:((docP c).kind==1)=false:=by rw [docP_k,hj];rfl
 have m1:(c / 16==1)=false:=by rw [hj];rfl
 have k2:((docP c).kind==2)=false:=by rw [docP_k,hj];rfl
 have m2:(c / 16==2)=false:=by rw [hj];rfl
 have k3:((docP c).kind==3)=false:=by rw [docP_k,hj];rfl
 have m3:(c / 16==3)=false:=by rw [hj];rfl
 have k8:((docP c).kind==8)=false:=by rw [docP_k,hj];rfl
 have m8:(c / 16==8)=false:=by rw [hj];rfl
 have k9:((docP c).kind==9)=false:=by rw [docP_k,hj];rfl
 have m9:(c / 16==9)=false:=by rw [hj];rfl
 have k10:((docP c).kind==10)=false:=by rw [docP_k,hj];rfl
 have m10:(c / 16==10)=false:=by rw [hj];rfl
 have k12:((docP c).kind==12)=false:=by rw [docP_k,hj];rfl
 have m12:(c / 16==12)=false:=by rw [hj];rfl
 have k13:((docP c).kind==13)=false:=by rw [docP_k,hj];rfl
 have m13:(c / 16==13)=false:=by rw [hj];rfl
 have k14:((docP c).kind==14)=true:=by rw [docP_k,hj];rfl
 have m14:(c / 16==14)=true:=by rw [hj];rfl
 have EQ:parD c S=(docP c,S):=by
  unfold parD
  simp only [m1,m2,m3,m8,m9,m10,m12,m13,m14,if_true,if_false,Bool.false_eq_true,Bool.or_self,Bool.or_true,Bool.true_or,Bool.or_false,Bool.false_or]
  try rfl
 rw [EQ]
 have H0:=Lib.hid (DSt.start w B r (docP c) S h rfl rfl rfl rfl rfl)
 have hlt:=h.lt
 clear EQ hj h m1 m2 m3 m8 m9 m10 m12 m13 m14
 go_enter Try.func58,Try.ntmps58
 go_wp2_with (first
  | ((with_reducible show wpList _ _ _ (⟨_,.store 28 (.tmp 5) _,_,_,_,_⟩ :: _) _ _);refine stLst (w.heap.size+1) (by simp) _ (pkC (docP c) sv0) (by rfl) (by rfl) (by rfl) (by rfl) (pkc_one _ _) ?_)
  | ((with_reducible show wpList _ _ _ (⟨_,.load 28 (.tmp 5),_,_,_,_⟩ :: _) _ _);refine ld_pk (w.heap.size+1) (by rfl) (by rfl) (pkC (docP c) (sv0)) _ _ (by exact H0.out.row) (by rfl) ?_)
  | ((with_reducible show wpList _ _ _ (⟨_,.store 28 (.tmp 4) _,_,_,_,_⟩ :: _) _ _);refine stR (w.heap.size) _ (pkC (docP c) (sv0)) (by rfl) (by rfl) (by exact H0.out.res) (by rfl) (by rfl) (pkc_one _ _) ?_))
 refine bodyPost_ret (v:=.agg _) (results_cell_row (by rfl) _ _ (w.heap.size) 28 _ (0,0) _ (by rfl) (setRow_heap _ _ _ _ _ _ (by exact (H0.out).res)) Try.underlying28 (by rfl) (by exact pk_sz)) (by rfl) ?_
 exact (H0.out).done _
theorem dpar_4 (c:Int)(h0:0≤c)(h1:c≤255)(hj:c / 16=4)(B r:Nat)(S:PS)(w:World)(h:PtS w B r S) :
  Calls Try.prog 58 #[.int .u8 c,.pointer (some ⟨r,0,none⟩)] w (DParPost w B r (parD c S).1 (parD c S).2):=by
 have k1:((docP c).kind==1)=false:=by rw [docP_k,hj];rfl
 have m1:(c / 16==1)=false:=by rw [hj];rfl
 have k2:((docP c).kind==2)=false:=by rw [docP_k,hj];rfl
 have m2:(c / 16==2)=false:=by rw [hj];rfl
 have k3:((docP c).kind==3)=false:=by rw [docP_k,hj];rfl
 have m3:(c / 16==3)=false:=by rw [hj];rfl
 have k8:((docP c).kind==8)=false:=by rw [docP_k,hj];rfl
 have m8:(c / 16==8)=false:=by rw [hj];rfl
 have k9:((docP c).kind==9)=false:=by rw [docP_k,hj];rfl
 have m9:(c / 16==9)=false:=by rw [hj];rfl
 have k10:((docP c).kind==10)=false:=by rw [docP_k,hj];rfl
 have m10:(c / 16==10)=false:=by rw [hj];rfl
 have k12:((docP c).kind==12)=false:=by rw [docP_k,hj];rfl
 have m12:(c / 16==12)=false:=by rw [hj];rfl
 have k13:((docP c).kind==13)=false:=by rw [docP_k,hj];rfl
 have m13:(c / 16==13)=false:=by rw [hj];rfl
 have k14:((docP c).kind==14)=false:=by rw [docP_k,hj];rfl
 have m14:(c / 16==14)=false:=by rw [hj];rfl
 have EQ:parD c S=({docP c with id:=(nmD 2 S).1},(nmD 2 S).2):=by
  unfold parD
  simp only [m1,m2,m3,m8,m9,m10,m12,m13,m14,if_true,if_false,Bool.false_eq_true,Bool.or_self,Bool.or_true,Bool.true_or,Bool.or_false,Bool.false_or]
  try rfl
 rw [EQ]
 have H0:=Lib.hid (DSt.start w B r (docP c) S h rfl rfl rfl rfl rfl)
 have hlt:=h.lt
 clear EQ hj h m1 m2 m3 m8 m9 m10 m12 m13 m14
 have N2:=Lib.hid (fun W (q:PtS W B r S)=>number_d B r 2 S W q (by omega))
 generalize nmD 2 S=A at *
 obtain ⟨ID,S1⟩:=A
 simp only at *
 go_enter Try.func58,Try.ntmps58
 go_wp2_with ((with_reducible show wpList _ _ _ (⟨_,.store 28 (.tmp 5) _,_,_,_,_⟩ :: _) _ _);refine stLst (w.heap.size+1) (by simp) _ (pkC (docP c) sv0) (by rfl) (by rfl) (by rfl) (by rfl) (pkc_one _ _) ?_)
 go_wp2_with fail
 refine (N2.out _ (H0.out).part).mono ?_
 rintro e w1 ⟨rfl,h1,t1⟩
 have H1:Hid (DSt w B r w.heap.size (docP c) (sv0) (S1) w1):=Lib.hid ((H0.out).call h1 t1)
 have rc1:=H1.out.cells
 have rf1:=H1.out.frz
 clear h1 t1
 go_wp2_with fail
 refine wp_loop_rounds 1 ?_
 rw [rounds_succ]
 go_wp2_with fail
 go_quiet (fail)
 go_wp2_with fail
 refine wp_loop_rounds 1 ?_
 rw [rounds_succ]
 go_wp2_with fail
 go_quiet (fail)
 go_wp2_with (first
  | ((with_reducible show wpList _ _ _ (⟨_,.store 28 (.tmp 5) _,_,_,_,_⟩ :: _) _ _);refine stLst (w.heap.size+1) (by simp) _ (pkC (docP c) sv0) (by rfl) (by rfl) (by rfl) (by rfl) (pkc_one _ _) ?_)
  | ((with_reducible show wpList _ _ _ (⟨_,.load 28 (.tmp 5),_,_,_,_⟩ :: _) _ _);refine ld_pk (w.heap.size+1) (by rfl) (by rfl) (pkC ({docP c with id:=ID}) (sv0)) _ _ (by exact ((((((H1.out).put (p':={docP c with id:=ID}) (s':=sv0) 4 (.int .i64 ID) rfl (fun X=>⟨X.pay,X.payn,X.wpay,X.pass,X.subs,X.codes⟩))).drew _)).drew _).row) (by rfl) ?_)
  | ((with_reducible show wpList _ _ _ (⟨_,.store 28 (.tmp 4) _,_,_,_,_⟩ :: _) _ _);refine stR (w.heap.size) _ (pkC ({docP c with id:=ID}) (sv0)) (by rfl) (by rfl) (by exact ((((((H1.out).put (p':={docP c with id:=ID}) (s':=sv0) 4 (.int .i64 ID) rfl (fun X=>⟨X.pay,X.payn,X.wpay,X.pass,X.subs,X.codes⟩))).drew _)).drew _).res) (by rfl) (by rfl) (pkc_one _ _) ?_))
 refine bodyPost_ret (v:=.agg _) (results_cell_row (by rfl) _ _ (w.heap.size) 28 _ (0,0) _ (by rfl) (setRow_heap _ _ _ _ _ _ (by exact (((((((H1.out).put (p':={docP c with id:=ID}) (s':=sv0) 4 (.int .i64 ID) rfl (fun X=>⟨X.pay,X.payn,X.wpay,X.pass,X.subs,X.codes⟩))).drew _)).drew _)).res)) Try.underlying28 (by rfl) (by exact pk_sz)) (by rfl) ?_
 exact (((((((H1.out).put (p':={docP c with id:=ID}) (s':=sv0) 4 (.int .i64 ID) rfl (fun X=>⟨X.pay,X.payn,X.wpay,X.pass,X.subs,X.codes⟩))).drew _)).drew _)).done _
theorem dpar_5 (c:Int)(h0:0≤c)(h1:c≤255)(hj:c / 16=5)(B r:Nat)(S:PS)(w:World)(h:PtS w B r S) :
  Calls Try.prog 58 #[.int .u8 c,.pointer (some ⟨r,0,none⟩)] w (DParPost w B r (parD c S).1 (parD c S).2):=by
 have k1:((docP c).kind==1)=false:=by rw [docP_k,hj];rfl
 have m1:(c / 16==1)=false:=by rw [hj];rfl
 have k2:((docP c).kind==2)=false:=by rw [docP_k,hj];rfl
 have m2:(c / 16==2)=false:=by rw [hj];rfl
 have k3:((docP c).kind==3)=false:=by rw [docP_k,hj];rfl
 have m3:(c / 16==3)=false:=by rw [hj];rfl
 have k8:((docP c).kind==8)=false:=by rw [docP_k,hj];rfl
 have m8:(c / 16==8)=false:=by rw [hj];rfl
 have k9:((docP c).kind==9)=false:=by rw [docP_k,hj];rfl
 have m9:(c / 16==9)=false:=by rw [hj];rfl
 have k10:((docP c).kind==10)=false:=by rw [docP_k,hj];rfl
 have m10:(c / 16==10)=false:=by rw [hj];rfl
 have k12:((docP c).kind==12)=false:=by rw [docP_k,hj];rfl
 have m12:(c / 16==12)=false:=by rw [hj];rfl
 have k13:((docP c).kind==13)=false:=by rw [docP_k,hj];rfl
 have m13:(c / 16==13)=false:=by rw [hj];rfl
 have k14:((docP c).kind==14)=false:=by rw [docP_k,hj];rfl
 have m14:(c / 16==14)=false:=by rw [hj];rfl
 have EQ:parD c S=({docP c with id:=(nmD 2 S).1},(nmD 2 S).2):=by
  unfold parD
  simp only [m1,m2,m3,m8,m9,m10,m12,m13,m14,if_true,if_false,Bool.false_eq_true,Bool.or_self,Bool.or_true,Bool.true_or,Bool.or_false,Bool.false_or]
  try rfl
 rw [EQ]
 have H0:=Lib.hid (DSt.start w B r (docP c) S h rfl rfl rfl rfl rfl)
 have hlt:=h.lt
 clear EQ hj h m1 m2 m3 m8 m9 m10 m12 m13 m14
 have N2:=Lib.hid (fun W (q:PtS W B r S)=>number_d B r 2 S W q (by omega))
 generalize nmD 2 S=A at *
 obtain ⟨ID,S1⟩:=A
 simp only at *
 go_enter Try.func58,Try.ntmps58
 go_wp2_with ((with_reducible show wpList _ _ _ (⟨_,.store 28 (.tmp 5) _,_,_,_,_⟩ :: _) _ _);refine stLst (w.heap.size+1) (by simp) _ (pkC (docP c) sv0) (by rfl) (by rfl) (by rfl) (by rfl) (pkc_one _ _) ?_)
 go_wp2_with fail
 refine (N2.out _ (H0.out).part).mono ?_
 rintro e w1 ⟨rfl,h1,t1⟩
 have H1:Hid (DSt w B r w.heap.size (docP c) (sv0) (S1) w1):=Lib.hid ((H0.out).call h1 t1)
 have rc1:=H1.out.cells
 have rf1:=H1.out.frz
 clear h1 t1
 go_wp2_with fail
 refine wp_loop_rounds 1 ?_
 rw [rounds_succ]
 go_wp2_with fail
 go_quiet (fail)
 go_wp2_with fail
 refine wp_loop_rounds 1 ?_
 rw [rounds_succ]
 go_wp2_with fail
 go_quiet (fail)
 go_wp2_with (first
  | ((with_reducible show wpList _ _ _ (⟨_,.store 28 (.tmp 5) _,_,_,_,_⟩ :: _) _ _);refine stLst (w.heap.size+1) (by simp) _ (pkC (docP c) sv0) (by rfl) (by rfl) (by rfl) (by rfl) (pkc_one _ _) ?_)
  | ((with_reducible show wpList _ _ _ (⟨_,.load 28 (.tmp 5),_,_,_,_⟩ :: _) _ _);refine ld_pk (w.heap.size+1) (by rfl) (by rfl) (pkC ({docP c with id:=ID}) (sv0)) _ _ (by exact ((((((H1.out).put (p':={docP c with id:=ID}) (s':=sv0) 4 (.int .i64 ID) rfl (fun X=>⟨X.pay,X.payn,X.wpay,X.pass,X.subs,X.codes⟩))).drew _)).drew _).row) (by rfl) ?_)
  | ((with_reducible show wpList _ _ _ (⟨_,.store 28 (.tmp 4) _,_,_,_,_⟩ :: _) _ _);refine stR (w.heap.size) _ (pkC ({docP c with id:=ID}) (sv0)) (by rfl) (by rfl) (by exact ((((((H1.out).put (p':={docP c with id:=ID}) (s':=sv0) 4 (.int .i64 ID) rfl (fun X=>⟨X.pay,X.payn,X.wpay,X.pass,X.subs,X.codes⟩))).drew _)).drew _).res) (by rfl) (by rfl) (pkc_one _ _) ?_))
 refine bodyPost_ret (v:=.agg _) (results_cell_row (by rfl) _ _ (w.heap.size) 28 _ (0,0) _ (by rfl) (setRow_heap _ _ _ _ _ _ (by exact (((((((H1.out).put (p':={docP c with id:=ID}) (s':=sv0) 4 (.int .i64 ID) rfl (fun X=>⟨X.pay,X.payn,X.wpay,X.pass,X.subs,X.codes⟩))).drew _)).drew _)).res)) Try.underlying28 (by rfl) (by exact pk_sz)) (by rfl) ?_
 exact (((((((H1.out).put (p':={docP c with id:=ID}) (s':=sv0) 4 (.int .i64 ID) rfl (fun X=>⟨X.pay,X.payn,X.wpay,X.pass,X.subs,X.codes⟩))).drew _)).drew _)).done _
theorem dpar_6 (c:Int)(h0:0≤c)(h1:c≤255)(hj:c / 16=6)(B r:Nat)(S:PS)(w:World)(h:PtS w B r S) :
  Calls Try.prog 58 #[.int .u8 c,.pointer (some ⟨r,0,none⟩)] w (DParPost w B r (parD c S).1 (parD c S).2):=by
 have k1:((docP c).kind==1)=false:=by rw [docP_k,hj];rfl
 have m1:(c / 16==1)=false:=by rw [hj];rfl
 have k2:((docP c).kind==2)=false:=by rw [docP_k,hj];rfl
 have m2:(c / 16==2)=false:=by rw [hj];rfl
 have k3:((docP c).kind==3)=false:=by rw [docP_k,hj];rfl
 have m3:(c / 16==3)=false:=by rw [hj];rfl
 have k8:((docP c).kind==8)=false:=by rw [docP_k,hj];rfl
 have m8:(c / 16==8)=false:=by rw [hj];rfl
 have k9:((docP c).kind==9)=false:=by rw [docP_k,hj];rfl
 have m9:(c / 16==9)=false:=by rw [hj];rfl
 have k10:((docP c).kind==10)=false:=by rw [docP_k,hj];rfl
 have m10:(c / 16==10)=false:=by rw [hj];rfl
 have k12:((docP c).kind==12)=false:=by rw [docP_k,hj];rfl
 have m12:(c / 16==12)=false:=by rw [hj];rfl
 have k13:((docP c).kind==13)=false:=by rw [docP_k,hj];rfl
 have m13:(c / 16==13)=false:=by rw [hj];rfl
 have k14:((docP c).kind==14)=false:=by rw [docP_k,hj];rfl
 have m14:(c / 16==14)=false:=by rw [hj];rfl
 have EQ:parD c S=({docP c with id:=(nmD 2 S).1},(nmD 2 S).2):=by
  unfold parD
  simp only [m1,m2,m3,m8,m9,m10,m12,m13,m14,if_true,if_false,Bool.false_eq_true,Bool.or_self,Bool.or_true,Bool.true_or,Bool.or_false,Bool.false_or]
  try rfl
 rw [EQ]
 have H0:=Lib.hid (DSt.start w B r (docP c) S h rfl rfl rfl rfl rfl)
 have hlt:=h.lt
 clear EQ hj h m1 m2 m3 m8 m9 m10 m12 m13 m14
 have N2:=Lib.hid (fun W (q:PtS W B r S)=>number_d B r 2 S W q (by omega))
 generalize nmD 2 S=A at *
 obtain ⟨ID,S1⟩:=A
 simp only at *
 go_enter Try.func58,Try.ntmps58
 go_wp2_with ((with_reducible show wpList _ _ _ (⟨_,.store 28 (.tmp 5) _,_,_,_,_⟩ :: _) _ _);refine stLst (w.heap.size+1) (by simp) _ (pkC (docP c) sv0) (by rfl) (by rfl) (by rfl) (by rfl) (pkc_one _ _) ?_)
 go_wp2_with fail
 refine (N2.out _ (H0.out).part).mono ?_
 rintro e w1 ⟨rfl,h1,t1⟩
 have H1:Hid (DSt w B r w.heap.size (docP c) (sv0) (S1) w1):=Lib.hid ((H0.out).call h1 t1)
 have rc1:=H1.out.cells
 have rf1:=H1.out.frz
 clear h1 t1
 go_wp2_with fail
 refine wp_loop_rounds 1 ?_
 rw [rounds_succ]
 go_wp2_with fail
 go_quiet (fail)
 go_wp2_with fail
 refine wp_loop_rounds 1 ?_
 rw [rounds_succ]
 go_wp2_with fail
 go_quiet (fail)
 go_wp2_with (first
  | ((with_reducible show wpList _ _ _ (⟨_,.store 28 (.tmp 5) _,_,_,_,_⟩ :: _) _ _);refine stLst (w.heap.size+1) (by simp) _ (pkC (docP c) sv0) (by rfl) (by rfl) (by rfl) (by rfl) (pkc_one _ _) ?_)
  | ((with_reducible show wpList _ _ _ (⟨_,.load 28 (.tmp 5),_,_,_,_⟩ :: _) _ _);refine ld_pk (w.heap.size+1) (by rfl) (by rfl) (pkC ({docP c with id:=ID}) (sv0)) _ _ (by exact ((((((H1.out).put (p':={docP c with id:=ID}) (s':=sv0) 4 (.int .i64 ID) rfl (fun X=>⟨X.pay,X.payn,X.wpay,X.pass,X.subs,X.codes⟩))).drew _)).drew _).row) (by rfl) ?_)
  | ((with_reducible show wpList _ _ _ (⟨_,.store 28 (.tmp 4) _,_,_,_,_⟩ :: _) _ _);refine stR (w.heap.size) _ (pkC ({docP c with id:=ID}) (sv0)) (by rfl) (by rfl) (by exact ((((((H1.out).put (p':={docP c with id:=ID}) (s':=sv0) 4 (.int .i64 ID) rfl (fun X=>⟨X.pay,X.payn,X.wpay,X.pass,X.subs,X.codes⟩))).drew _)).drew _).res) (by rfl) (by rfl) (pkc_one _ _) ?_))
 refine bodyPost_ret (v:=.agg _) (results_cell_row (by rfl) _ _ (w.heap.size) 28 _ (0,0) _ (by rfl) (setRow_heap _ _ _ _ _ _ (by exact (((((((H1.out).put (p':={docP c with id:=ID}) (s':=sv0) 4 (.int .i64 ID) rfl (fun X=>⟨X.pay,X.payn,X.wpay,X.pass,X.subs,X.codes⟩))).drew _)).drew _)).res)) Try.underlying28 (by rfl) (by exact pk_sz)) (by rfl) ?_
 exact (((((((H1.out).put (p':={docP c with id:=ID}) (s':=sv0) 4 (.int .i64 ID) rfl (fun X=>⟨X.pay,X.payn,X.wpay,X.pass,X.subs,X.codes⟩))).drew _)).drew _)).done _
theorem dpar_7 (c:Int)(h0:0≤c)(h1:c≤255)(hj:c / 16=7)(B r:Nat)(S:PS)(w:World)(h:PtS w B r S) :
  Calls Try.prog 58 #[.int .u8 c,.pointer (some ⟨r,0,none⟩)] w (DParPost w B r (parD c S).1 (parD c S).2):=by
 have k1:((docP c).kind==1)=false:=by rw [docP_k,hj];rfl
 have m1:(c / 16==1)=false:=by rw [hj];rfl
 have k2:((docP c).kind==2)=false:=by rw [docP_k,hj];rfl
 have m2:(c / 16==2)=false:=by rw [hj];rfl
 have k3:((docP c).kind==3)=false:=by rw [docP_k,hj];rfl
 have m3:(c / 16==3)=false:=by rw [hj];rfl
 have k8:((docP c).kind==8)=false:=by rw [docP_k,hj];rfl
 have m8:(c / 16==8)=false:=by rw [hj];rfl
 have k9:((docP c).kind==9)=false:=by rw [docP_k,hj];rfl
 have m9:(c / 16==9)=false:=by rw [hj];rfl
 have k10:((docP c).kind==10)=false:=by rw [docP_k,hj];rfl
 have m10:(c / 16==10)=false:=by rw [hj];rfl
 have k12:((docP c).kind==12)=false:=by rw [docP_k,hj];rfl
 have m12:(c / 16==12)=false:=by rw [hj];rfl
 have k13:((docP c).kind==13)=false:=by rw [docP_k,hj];rfl
 have m13:(c / 16==13)=false:=by rw [hj];rfl
 have k14:((docP c).kind==14)=false:=by rw [docP_k,hj];rfl
 have m14:(c / 16==14)=false:=by rw [hj];rfl
 have EQ:parD c S=({docP c with id:=(nmD 2 S).1},(nmD 2 S).2):=by
  unfold parD
  simp only [m1,m2,m3,m8,m9,m10,m12,m13,m14,if_true,if_false,Bool.false_eq_true,Bool.or_self,Bool.or_true,Bool.true_or,Bool.or_false,Bool.false_or]
  try rfl
 rw [EQ]
 have H0:=Lib.hid (DSt.start w B r (docP c) S h rfl rfl rfl rfl rfl)
 have hlt:=h.lt
 clear EQ hj h m1 m2 m3 m8 m9 m10 m12 m13 m14
 have N2:=Lib.hid (fun W (q:PtS W B r S)=>number_d B r 2 S W q (by omega))
 generalize nmD 2 S=A at *
 obtain ⟨ID,S1⟩:=A
 simp only at *
 go_enter Try.func58,Try.ntmps58
 go_wp2_with ((with_reducible show wpList _ _ _ (⟨_,.store 28 (.tmp 5) _,_,_,_,_⟩ :: _) _ _);refine stLst (w.heap.size+1) (by simp) _ (pkC (docP c) sv0) (by rfl) (by rfl) (by rfl) (by rfl) (pkc_one _ _) ?_)
 go_wp2_with fail
 refine (N2.out _ (H0.out).part).mono ?_
 rintro e w1 ⟨rfl,h1,t1⟩
 have H1:Hid (DSt w B r w.heap.size (docP c) (sv0) (S1) w1):=Lib.hid ((H0.out).call h1 t1)
 have rc1:=H1.out.cells
 have rf1:=H1.out.frz
 clear h1 t1
 go_wp2_with fail
 refine wp_loop_rounds 1 ?_
 rw [rounds_succ]
 go_wp2_with fail
 go_quiet (fail)
 go_wp2_with fail
 refine wp_loop_rounds 1 ?_
 rw [rounds_succ]
 go_wp2_with fail
 go_quiet (fail)
 go_wp2_with (first
  | ((with_reducible show wpList _ _ _ (⟨_,.store 28 (.tmp 5) _,_,_,_,_⟩ :: _) _ _);refine stLst (w.heap.size+1) (by simp) _ (pkC (docP c) sv0) (by rfl) (by rfl) (by rfl) (by rfl) (pkc_one _ _) ?_)
  | ((with_reducible show wpList _ _ _ (⟨_,.load 28 (.tmp 5),_,_,_,_⟩ :: _) _ _);refine ld_pk (w.heap.size+1) (by rfl) (by rfl) (pkC ({docP c with id:=ID}) (sv0)) _ _ (by exact ((((((H1.out).put (p':={docP c with id:=ID}) (s':=sv0) 4 (.int .i64 ID) rfl (fun X=>⟨X.pay,X.payn,X.wpay,X.pass,X.subs,X.codes⟩))).drew _)).drew _).row) (by rfl) ?_)
  | ((with_reducible show wpList _ _ _ (⟨_,.store 28 (.tmp 4) _,_,_,_,_⟩ :: _) _ _);refine stR (w.heap.size) _ (pkC ({docP c with id:=ID}) (sv0)) (by rfl) (by rfl) (by exact ((((((H1.out).put (p':={docP c with id:=ID}) (s':=sv0) 4 (.int .i64 ID) rfl (fun X=>⟨X.pay,X.payn,X.wpay,X.pass,X.subs,X.codes⟩))).drew _)).drew _).res) (by rfl) (by rfl) (pkc_one _ _) ?_))
 refine bodyPost_ret (v:=.agg _) (results_cell_row (by rfl) _ _ (w.heap.size) 28 _ (0,0) _ (by rfl) (setRow_heap _ _ _ _ _ _ (by exact (((((((H1.out).put (p':={docP c with id:=ID}) (s':=sv0) 4 (.int .i64 ID) rfl (fun X=>⟨X.pay,X.payn,X.wpay,X.pass,X.subs,X.codes⟩))).drew _)).drew _)).res)) Try.underlying28 (by rfl) (by exact pk_sz)) (by rfl) ?_
 exact (((((((H1.out).put (p':={docP c with id:=ID}) (s':=sv0) 4 (.int .i64 ID) rfl (fun X=>⟨X.pay,X.payn,X.wpay,X.pass,X.subs,X.codes⟩))).drew _)).drew _)).done _
theorem dpar_11 (c:Int)(h0:0≤c)(h1:c≤255)(hj:c / 16=11)(B r:Nat)(S:PS)(w:World)(h:PtS w B r S) :
  Calls Try.prog 58 #[.int .u8 c,.pointer (some ⟨r,0,none⟩)] w (DParPost w B r (parD c S).1 (parD c S).2):=by
 have k1:((docP c).kind==1)=false:=by rw [docP_k,hj];rfl
 have m1:(c / 16==1)=false:=by rw [hj];rfl
 have k2:((docP c).kind==2)=false:=by rw [docP_k,hj];rfl
 have m2:(c / 16==2)=false:=by rw [hj];rfl
 have k3:((docP c).kind==3)=false:=by rw [docP_k,hj];rfl
 have m3:(c / 16==3)=false:=by rw [hj];rfl
 have k8:((docP c).kind==8)=false:=by rw [docP_k,hj];rfl
 have m8:(c / 16==8)=false:=by rw [hj];rfl
 have k9:((docP c).kind==9)=false:=by rw [docP_k,hj];rfl
 have m9:(c / 16==9)=false:=by rw [hj];rfl
 have k10:((docP c).kind==10)=false:=by rw [docP_k,hj];rfl
 have m10:(c / 16==10)=false:=by rw [hj];rfl
 have k12:((docP c).kind==12)=false:=by rw [docP_k,hj];rfl
 have m12:(c / 16==12)=false:=by rw [hj];rfl
 have k13:((docP c).kind==13)=false:=by rw [docP_k,hj];rfl
 have m13:(c / 16==13)=false:=by rw [hj];rfl
 have k14:((docP c).kind==14)=false:=by rw [docP_k,hj];rfl
 have m14:(c / 16==14)=false:=by rw [hj];rfl
 have EQ:parD c S=({docP c with id:=(nmD 2 S).1},(nmD 2 S).2):=by
  unfold parD
  simp only [m1,m2,m3,m8,m9,m10,m12,m13,m14,if_true,if_false,Bool.false_eq_true,Bool.or_self,Bool.or_true,Bool.true_or,Bool.or_false,Bool.false_or]
  try rfl
 rw [EQ]
 have H0:=Lib.hid (DSt.start w B r (docP c) S h rfl rfl rfl rfl rfl)
 have hlt:=h.lt
 clear EQ hj h m1 m2 m3 m8 m9 m10 m12 m13 m14
 have N2:=Lib.hid (fun W (q:PtS W B r S)=>number_d B r 2 S W q (by omega))
 generalize nmD 2 S=A at *
 obtain ⟨ID,S1⟩:=A
 simp only at *
 go_enter Try.func58,Try.ntmps58
 go_wp2_with ((with_reducible show wpList _ _ _ (⟨_,.store 28 (.tmp 5) _,_,_,_,_⟩ :: _) _ _);refine stLst (w.heap.size+1) (by simp) _ (pkC (docP c) sv0) (by rfl) (by rfl) (by rfl) (by rfl) (pkc_one _ _) ?_)
 go_wp2_with fail
 refine (N2.out _ (H0.out).part).mono ?_
 rintro e w1 ⟨rfl,h1,t1⟩
 have H1:Hid (DSt w B r w.heap.size (docP c) (sv0) (S1) w1):=Lib.hid ((H0.out).call h1 t1)
 have rc1:=H1.out.cells
 have rf1:=H1.out.frz
 clear h1 t1
 go_wp2_with fail
 refine wp_loop_rounds 1 ?_
 rw [rounds_succ]
 go_wp2_with fail
 go_quiet (fail)
 go_wp2_with fail
 refine wp_loop_rounds 1 ?_
 rw [rounds_succ]
 go_wp2_with fail
 go_quiet (fail)
 go_wp2_with (first
  | ((with_reducible show wpList _ _ _ (⟨_,.store 28 (.tmp 5) _,_,_,_,_⟩ :: _) _ _);refine stLst (w.heap.size+1) (by simp) _ (pkC (docP c) sv0) (by rfl) (by rfl) (by rfl) (by rfl) (pkc_one _ _) ?_)
  | ((with_reducible show wpList _ _ _ (⟨_,.load 28 (.tmp 5),_,_,_,_⟩ :: _) _ _);refine ld_pk (w.heap.size+1) (by rfl) (by rfl) (pkC ({docP c with id:=ID}) (sv0)) _ _ (by exact ((((((H1.out).put (p':={docP c with id:=ID}) (s':=sv0) 4 (.int .i64 ID) rfl (fun X=>⟨X.pay,X.payn,X.wpay,X.pass,X.subs,X.codes⟩))).drew _)).drew _).row) (by rfl) ?_)
  | ((with_reducible show wpList _ _ _ (⟨_,.store 28 (.tmp 4) _,_,_,_,_⟩ :: _) _ _);refine stR (w.heap.size) _ (pkC ({docP c with id:=ID}) (sv0)) (by rfl) (by rfl) (by exact ((((((H1.out).put (p':={docP c with id:=ID}) (s':=sv0) 4 (.int .i64 ID) rfl (fun X=>⟨X.pay,X.payn,X.wpay,X.pass,X.subs,X.codes⟩))).drew _)).drew _).res) (by rfl) (by rfl) (pkc_one _ _) ?_))
 refine bodyPost_ret (v:=.agg _) (results_cell_row (by rfl) _ _ (w.heap.size) 28 _ (0,0) _ (by rfl) (setRow_heap _ _ _ _ _ _ (by exact (((((((H1.out).put (p':={docP c with id:=ID}) (s':=sv0) 4 (.int .i64 ID) rfl (fun X=>⟨X.pay,X.payn,X.wpay,X.pass,X.subs,X.codes⟩))).drew _)).drew _)).res)) Try.underlying28 (by rfl) (by exact pk_sz)) (by rfl) ?_
 exact (((((((H1.out).put (p':={docP c with id:=ID}) (s':=sv0) 4 (.int .i64 ID) rfl (fun X=>⟨X.pay,X.payn,X.wpay,X.pass,X.subs,X.codes⟩))).drew _)).drew _)).done _
theorem doc_bits:∀y:Fin 256,(bits .and .u8 (y.val:Int) 8 != 0)=((y.val:Int) / 8%2==1)∧bits .and .u8 ((y.val:Int) / 2) 3=(y.val:Int) / 2%4∧(bits .and .u8 (y.val:Int) 1 != 0)=((y.val:Int)%2==1)∧((y.val:Int)%2 != 0)=((y.val:Int)%2==1):=by decide +kernel
theorem dpar_2 (c:Int)(h0:0≤c)(h1:c≤255)(hj:c / 16=2)(B r:Nat)(S:PS)(w:World)(h:PtS w B r S) :
  Calls Try.prog 58 #[.int .u8 c,.pointer (some ⟨r,0,none⟩)] w (DParPost w B r (parD c S).1 (parD c S).2):=by
 have k1:((docP c).kind==1)=false:=by rw [docP_k,hj];rfl
 have m1:(c / 16==1)=false:=by rw [hj];rfl
 have k2:((docP c).kind==2)=true:=by rw [docP_k,hj];rfl
 have m2:(c / 16==2)=true:=by rw [hj];rfl
 have k3:((docP c).kind==3)=false:=by rw [docP_k,hj];rfl
 have m3:(c / 16==3)=false:=by rw [hj];rfl
 have k8:((docP c).kind==8)=false:=by rw [docP_k,hj];rfl
 have m8:(c / 16==8)=false:=by rw [hj];rfl
 have k9:((docP c).kind==9)=false:=by rw [docP_k,hj];rfl
 have m9:(c / 16==9)=false:=by rw [hj];rfl
 have k10:((docP c).kind==10)=false:=by rw [docP_k,hj];rfl
 have m10:(c / 16==10)=false:=by rw [hj];rfl
 have k12:((docP c).kind==12)=false:=by rw [docP_k,hj];rfl
 have m12:(c / 16==12)=false:=by rw [hj];rfl
 have k13:((docP c).kind==13)=false:=by rw [docP_k,hj];rfl
 have m13:(c / 16==13)=false:=by rw [hj];rfl
 have k14:((docP c).kind==14)=false:=by rw [docP_k,hj];rfl
 have m14:(c / 16==14)=false:=by rw [hj];rfl
 have EQ:parD c S=({docP c with pres:=(nmD 1 S).1==1,code:=(nmD 1 (nmD 1 S).2).1},(nmD 1 (nmD 1 S).2).2):=by
  unfold parD
  simp only [m1,m2,m3,m8,m9,m10,m12,m13,m14,if_true,if_false,Bool.false_eq_true,Bool.or_self,Bool.or_true,Bool.true_or,Bool.or_false,Bool.false_or]
  try rfl
 rw [EQ]
 have H0:=Lib.hid (DSt.start w B r (docP c) S h rfl rfl rfl rfl rfl)
 have hlt:=h.lt
 clear EQ hj h m1 m2 m3 m8 m9 m10 m12 m13 m14
 have N1:=Lib.hid (fun W (q:PtS W B r S)=>number_d B r 1 S W q (by omega))
 generalize nmD 1 S=A at *
 obtain ⟨x,S1⟩:=A
 simp only at *
 have N2:=Lib.hid (fun W (q:PtS W B r S1)=>number_d B r 1 S1 W q (by omega))
 generalize nmD 1 S1=A at *
 obtain ⟨y,S2⟩:=A
 simp only at *
 generalize hD:(x==1)=D at *
 go_enter Try.func58,Try.ntmps58
 go_wp2_with ((with_reducible show wpList _ _ _ (⟨_,.store 28 (.tmp 5) _,_,_,_,_⟩ :: _) _ _);refine stLst (w.heap.size+1) (by simp) _ (pkC (docP c) sv0) (by rfl) (by rfl) (by rfl) (by rfl) (pkc_one _ _) ?_)
 go_wp2_with fail
 refine (N1.out _ (H0.out).part).mono ?_
 rintro e w1 ⟨rfl,h1,t1⟩
 have H1:Hid (DSt w B r w.heap.size (docP c) (sv0) (S1) w1):=Lib.hid ((H0.out).call h1 t1)
 have rc1:=H1.out.cells
 have rf1:=H1.out.frz
 clear h1 t1
 go_wp2_with fail
 refine (N2.out _ (((H1.out).put (p':={docP c with pres:=D}) (s':=sv0) 20 (.bool D) rfl (fun X=>⟨X.pay,X.payn,X.wpay,X.pass,X.subs,X.codes⟩))).part).mono ?_
 rintro e w2 ⟨rfl,h2,t2⟩
 have H2:Hid (DSt w B r w.heap.size ({docP c with pres:=D}) (sv0) (S2) w2):=Lib.hid ((((H1.out).put (p':={docP c with pres:=D}) (s':=sv0) 20 (.bool D) rfl (fun X=>⟨X.pay,X.payn,X.wpay,X.pass,X.subs,X.codes⟩))).call h2 t2)
 have rc2:=H2.out.cells
 have rf2:=H2.out.frz
 clear h2 t2 rc1 rf1
 go_wp2_with (first
  | ((with_reducible show wpList _ _ _ (⟨_,.store 28 (.tmp 5) _,_,_,_,_⟩ :: _) _ _);refine stLst (w.heap.size+1) (by simp) _ (pkC (docP c) sv0) (by rfl) (by rfl) (by rfl) (by rfl) (pkc_one _ _) ?_)
  | ((with_reducible show wpList _ _ _ (⟨_,.load 28 (.tmp 5),_,_,_,_⟩ :: _) _ _);refine ld_pk (w.heap.size+1) (by rfl) (by rfl) (pkC ({docP c with pres:=D,code:=y}) (sv0)) _ _ (by exact ((H2.out).put (p':={docP c with pres:=D,code:=y}) (s':=sv0) 21 (.int .i64 y) rfl (fun X=>⟨X.pay,X.payn,X.wpay,X.pass,X.subs,X.codes⟩)).row) (by rfl) ?_)
  | ((with_reducible show wpList _ _ _ (⟨_,.store 28 (.tmp 4) _,_,_,_,_⟩ :: _) _ _);refine stR (w.heap.size) _ (pkC ({docP c with pres:=D,code:=y}) (sv0)) (by rfl) (by rfl) (by exact ((H2.out).put (p':={docP c with pres:=D,code:=y}) (s':=sv0) 21 (.int .i64 y) rfl (fun X=>⟨X.pay,X.payn,X.wpay,X.pass,X.subs,X.codes⟩)).res) (by rfl) (by rfl) (pkc_one _ _) ?_))
 refine bodyPost_ret (v:=.agg _) (results_cell_row (by rfl) _ _ (w.heap.size) 28 _ (0,0) _ (by rfl) (setRow_heap _ _ _ _ _ _ (by exact (((H2.out).put (p':={docP c with pres:=D,code:=y}) (s':=sv0) 21 (.int .i64 y) rfl (fun X=>⟨X.pay,X.payn,X.wpay,X.pass,X.subs,X.codes⟩))).res)) Try.underlying28 (by rfl) (by exact pk_sz)) (by rfl) ?_
 exact (((H2.out).put (p':={docP c with pres:=D,code:=y}) (s':=sv0) 21 (.int .i64 y) rfl (fun X=>⟨X.pay,X.payn,X.wpay,X.pass,X.subs,X.codes⟩))).done _
theorem dpar_3a (c:Int)(h0:0≤c)(h1:c≤255)(hj:c / 16=3)(B r:Nat)(S:PS)(w:World)(h:PtS w B r S)(hq:(decide (0<c / 2%4))=false) :
  Calls Try.prog 58 #[.int .u8 c,.pointer (some ⟨r,0,none⟩)] w (DParPost w B r (parD c S).1 (parD c S).2):=by
 have k1:((docP c).kind==1)=false:=by rw [docP_k,hj];rfl
 have m1:(c / 16==1)=false:=by rw [hj];rfl
 have k2:((docP c).kind==2)=false:=by rw [docP_k,hj];rfl
 have m2:(c / 16==2)=false:=by rw [hj];rfl
 have k3:((docP c).kind==3)=true:=by rw [docP_k,hj];rfl
 have m3:(c / 16==3)=true:=by rw [hj];rfl
 have k8:((docP c).kind==8)=false:=by rw [docP_k,hj];rfl
 have m8:(c / 16==8)=false:=by rw [hj];rfl
 have k9:((docP c).kind==9)=false:=by rw [docP_k,hj];rfl
 have m9:(c / 16==9)=false:=by rw [hj];rfl
 have k10:((docP c).kind==10)=false:=by rw [docP_k,hj];rfl
 have m10:(c / 16==10)=false:=by rw [hj];rfl
 have k12:((docP c).kind==12)=false:=by rw [docP_k,hj];rfl
 have m12:(c / 16==12)=false:=by rw [hj];rfl
 have k13:((docP c).kind==13)=false:=by rw [docP_k,hj];rfl
 have m13:(c / 16==13)=false:=by rw [hj];rfl
 have k14:((docP c).kind==14)=false:=by rw [docP_k,hj];rfl
 have m14:(c / 16==14)=false:=by rw [hj];rfl
 have hq':(0<c / 2%4)=False:=by simpa using hq
 have EQ:parD c S=({docP c with dup:=c / 8%2==1,qos:=c / 2%4,ret:=c%2==1,top:=bytesOfL (lpD S).1,id:=((0:Int),(lpD S).2).1,pay:=(tkD ((0:Int),(lpD S).2).2.1.length ((0:Int),(lpD S).2).2).1},(tkD ((0:Int),(lpD S).2).2.1.length ((0:Int),(lpD S).2).2).2):=by
  unfold parD
  simp only [m1,m2,m3,m8,m9,m10,m12,m13,m14,if_true,if_false,Bool.false_eq_true,Bool.or_self,Bool.or_true,Bool.true_or,Bool.or_false,Bool.false_or,hq']
  try rfl
 rw [EQ]
 have H0:=Lib.hid (DSt.start w B r (docP c) S h rfl rfl rfl rfl rfl)
 have hlt:=h.lt
 have PP:=h
 clear EQ hj h m1 m2 m3 m8 m9 m10 m12 m13 m14
 obtain ⟨b8,b3,b1,b1'⟩:=doc_bits ⟨c.toNat,by omega⟩
 simp only [Int.toNat_of_nonneg h0] at b8 b3 b1 b1'
 have HX:=Lib.hid (fun W (q:PtS W B r S)=>lump_d B r S W q)
 have q0:0≤c / 2%4:=by omega
 have q1:c / 2%4≤3:=by omega
 generalize lpD S=A at *
 obtain ⟨x,S1⟩:=A
 simp only at *
 generalize bytesOfL x=TP at *
 generalize c / 8%2=d8 at *
 generalize hD:(d8==1)=D at *
 generalize c / 2%4=Q at *
 generalize hR:(c%2==1)=R at *
 clear hq' hD hR
 have H0b:Hid (DSt w B r w.heap.size {docP c with dup:=D,qos:=Q,ret:=R} sv0 S ((w.alloc (.cells (pkC pk0 sv0) 28)).alloc (.cells ((((pkC (docP c) sv0).setIfInBounds 1 (.bool D)).setIfInBounds 3 (.int .i64 Q)).setIfInBounds 2 (.bool R)) 28))):=Lib.hid (by
  have q:=DSt.start w B r {docP c with dup:=D,qos:=Q,ret:=R} S PP rfl rfl rfl rfl rfl
  exact q)
 clear PP
 go_enter Try.func58,Try.ntmps58
 go_wp2_with ((with_reducible show wpList _ _ _ (⟨_,.store 28 (.tmp 5) _,_,_,_,_⟩ :: _) _ _);refine stLst (w.heap.size+1) (by simp) _ (pkC (docP c) sv0) (by rfl) (by rfl) (by rfl) (by rfl) (pkc_one _ _) ?_)
 go_wp2_with fail
 refine (HX.out _ (H0b.out).part).mono ?_
 rintro e w1 ⟨rfl,h1,t1⟩
 have H1:Hid (DSt w B r w.heap.size ({docP c with dup:=D,qos:=Q,ret:=R}) (sv0) (S1) w1):=Lib.hid ((H0b.out).call h1 t1)
 have rc1:=H1.out.cells
 have rf1:=H1.out.frz
 clear h1 t1
 go_wp2_with fail
 have HW:Hid (DSt w B r w.heap.size ({docP c with dup:=D,qos:=Q,ret:=R,top:=TP}) (sv0) (S1) (w1.setCell ⟨w.heap.size+1,5,none⟩ (.string TP))):=Lib.hid (((H1.out).put (p':={docP c with dup:=D,qos:=Q,ret:=R,top:=TP}) (s':=sv0) 5 (.string TP) rfl (fun X=>⟨X.pay,X.payn,X.wpay,X.pass,X.subs,X.codes⟩)))
 clear rc1 rf1
 generalize w1.setCell ⟨w.heap.size+1,5,none⟩ (.string TP)=W at HW ⊢
 obtain ⟨ad,cc,bb,kk,hp,hs⟩:=HW.out.part
 obtain ⟨c0,c1,c2,hf⟩:=hp.cells
 have hk:=hp.within
 have hsm:=hp.small
 have hl:(S1).1.length=bb.length - kk:=by rw [←hs,List.length_drop]
 have HTK:=Lib.hid (fun W2 (q:PtS W2 B r (S1)) (x:Int) (e:x=(bb.length:Int) - (kk:Int))=>rtake_d B r (S1) x (tkD (S1).1.length (S1)) W2 q (by omega) (by omega) (by rw [show x.toNat=(S1).1.length by omega]))
 unfold TkPost at HTK
 generalize tkD (S1).1.length (S1)=T at *
 obtain ⟨PY,S9⟩:=T
 simp only at *
 generalize bb.length=n at *
 clear hs hl hp
 go_still_tail 11,(by kernel_rfl)
 change wpList _ _ _ _ _ W.drew
 have HW2:Hid (DSt w B r w.heap.size ({docP c with dup:=D,qos:=Q,ret:=R,top:=TP}) (sv0) (S1) W.drew):=Lib.hid (HW.out.drew 1)
 generalize W.drew=W2 at HW2 ⊢
 clear c0 c1 c2 hf
 go_wp2_with fail
 refine (HTK.out _ HW2.out.part _ rfl).mono ?_
 rintro e w8 ⟨A',c',rfl,hpay,hnil,h8,t8⟩
 have H8:Hid (DSt w B r w.heap.size ({docP c with dup:=D,qos:=Q,ret:=R,top:=TP}) (sv0) (S9) w8):=Lib.hid (HW2.out.call h8 t8)
 have HPY:=Lib.hid (And.intro hpay hnil)
 have rc8:=H8.out.cells
 have rf8:=H8.out.frz
 clear h8 t8 hpay hnil
 go_wp2_with (first
  | ((with_reducible show wpList _ _ _ (⟨_,.store 28 (.tmp 5) _,_,_,_,_⟩ :: _) _ _);refine stLst (w.heap.size+1) (by simp) _ (pkC (docP c) sv0) (by rfl) (by rfl) (by rfl) (by rfl) (pkc_one _ _) ?_)
  | ((with_reducible show wpList _ _ _ (⟨_,.load 28 (.tmp 5),_,_,_,_⟩ :: _) _ _);refine ld_pk (w.heap.size+1) (by rfl) (by rfl) (pkC ({docP c with dup:=D,qos:=Q,ret:=R,top:=TP,pay:=PY}) ({sv0 with pA:=A',pC:=c'})) _ _ (by exact ((H8.out).put (p':={docP c with dup:=D,qos:=Q,ret:=R,top:=TP,pay:=PY}) (s':={sv0 with pA:=A',pC:=c'}) 6 (.slice A' PY.length c') rfl (fun X=>⟨HPY.out.1,HPY.out.2,X.wpay,X.pass,X.subs,X.codes⟩)).row) (by rfl) ?_)
  | ((with_reducible show wpList _ _ _ (⟨_,.store 28 (.tmp 4) _,_,_,_,_⟩ :: _) _ _);refine stR (w.heap.size) _ (pkC ({docP c with dup:=D,qos:=Q,ret:=R,top:=TP,pay:=PY}) ({sv0 with pA:=A',pC:=c'})) (by rfl) (by rfl) (by exact ((H8.out).put (p':={docP c with dup:=D,qos:=Q,ret:=R,top:=TP,pay:=PY}) (s':={sv0 with pA:=A',pC:=c'}) 6 (.slice A' PY.length c') rfl (fun X=>⟨HPY.out.1,HPY.out.2,X.wpay,X.pass,X.subs,X.codes⟩)).res) (by rfl) (by rfl) (pkc_one _ _) ?_))
 refine bodyPost_ret (v:=.agg _) (results_cell_row (by rfl) _ _ (w.heap.size) 28 _ (0,0) _ (by rfl) (setRow_heap _ _ _ _ _ _ (by exact (((H8.out).put (p':={docP c with dup:=D,qos:=Q,ret:=R,top:=TP,pay:=PY}) (s':={sv0 with pA:=A',pC:=c'}) 6 (.slice A' PY.length c') rfl (fun X=>⟨HPY.out.1,HPY.out.2,X.wpay,X.pass,X.subs,X.codes⟩))).res)) Try.underlying28 (by rfl) (by exact pk_sz)) (by rfl) ?_
 exact (((H8.out).put (p':={docP c with dup:=D,qos:=Q,ret:=R,top:=TP,pay:=PY}) (s':={sv0 with pA:=A',pC:=c'}) 6 (.slice A' PY.length c') rfl (fun X=>⟨HPY.out.1,HPY.out.2,X.wpay,X.pass,X.subs,X.codes⟩))).done _
theorem dpar_3b (c:Int)(h0:0≤c)(h1:c≤255)(hj:c / 16=3)(B r:Nat)(S:PS)(w:World)(h:PtS w B r S)(hq:(decide (0<c / 2%4))=true) :
  Calls Try.prog 58 #[.int .u8 c,.pointer (some ⟨r,0,none⟩)] w (DParPost w B r (parD c S).1 (parD c S).2):=by
 have k1:((docP c).kind==1)=false:=by rw [docP_k,hj];rfl
 have m1:(c / 16==1)=false:=by rw [hj];rfl
 have k2:((docP c).kind==2)=false:=by rw [docP_k,hj];rfl
 have m2:(c / 16==2)=false:=by rw [hj];rfl
 have k3:((docP c).kind==3)=true:=by rw [docP_k,hj];rfl
 have m3:(c / 16==3)=true:=by rw [hj];rfl
 have k8:((docP c).kind==8)=false:=by rw [docP_k,hj];rfl
 have m8:(c / 16==8)=false:=by rw [hj];rfl
 have k9:((docP c).kind==9)=false:=by rw [docP_k,hj];rfl
 have m9:(c / 16==9)=false:=by rw [hj];rfl
 have k10:((docP c).kind==10)=false:=by rw [docP_k,hj];rfl
 have m10:(c / 16==10)=false:=by rw [hj];rfl
 have k12:((docP c).kind==12)=false:=by rw [docP_k,hj];rfl
 have m12:(c / 16==12)=false:=by rw [hj];rfl
 have k13:((docP c).kind==13)=false:=by rw [docP_k,hj];rfl
 have m13:(c / 16==13)=false:=by rw [hj];rfl
 have k14:((docP c).kind==14)=false:=by rw [docP_k,hj];rfl
 have m14:(c / 16==14)=false:=by rw [hj];rfl
 have hq':(0<c / 2%4)=True:=by simpa using hq
 have EQ:parD c S=({docP c with dup:=c / 8%2==1,qos:=c / 2%4,ret:=c%2==1,top:=bytesOfL (lpD S).1,id:=(nmD 2 (lpD S).2).1,pay:=(tkD (nmD 2 (lpD S).2).2.1.length (nmD 2 (lpD S).2).2).1},(tkD (nmD 2 (lpD S).2).2.1.length (nmD 2 (lpD S).2).2).2):=by
  unfold parD
  simp only [m1,m2,m3,m8,m9,m10,m12,m13,m14,if_true,if_false,Bool.false_eq_true,Bool.or_self,Bool.or_true,Bool.true_or,Bool.or_false,Bool.false_or,hq']
  try rfl
 rw [EQ]
 have H0:=Lib.hid (DSt.start w B r (docP c) S h rfl rfl rfl rfl rfl)
 have hlt:=h.lt
 have PP:=h
 clear EQ hj h m1 m2 m3 m8 m9 m10 m12 m13 m14
 obtain ⟨b8,b3,b1,b1'⟩:=doc_bits ⟨c.toNat,by omega⟩
 simp only [Int.toNat_of_nonneg h0] at b8 b3 b1 b1'
 have HX:=Lib.hid (fun W (q:PtS W B r S)=>lump_d B r S W q)
 have q0:0≤c / 2%4:=by omega
 have q1:c / 2%4≤3:=by omega
 generalize lpD S=A at *
 obtain ⟨x,S1⟩:=A
 simp only at *
 generalize bytesOfL x=TP at *
 have N2:=Lib.hid (fun W (q:PtS W B r S1)=>number_d B r 2 S1 W q (by omega))
 generalize nmD 2 S1=A at *
 obtain ⟨ID,S2⟩:=A
 simp only at *
 generalize c / 8%2=d8 at *
 generalize hD:(d8==1)=D at *
 generalize c / 2%4=Q at *
 generalize hR:(c%2==1)=R at *
 clear hq' hD hR
 have H0b:Hid (DSt w B r w.heap.size {docP c with dup:=D,qos:=Q,ret:=R} sv0 S ((w.alloc (.cells (pkC pk0 sv0) 28)).alloc (.cells ((((pkC (docP c) sv0).setIfInBounds 1 (.bool D)).setIfInBounds 3 (.int .i64 Q)).setIfInBounds 2 (.bool R)) 28))):=Lib.hid (by
  have q:=DSt.start w B r {docP c with dup:=D,qos:=Q,ret:=R} S PP rfl rfl rfl rfl rfl
  exact q)
 clear PP
 go_enter Try.func58,Try.ntmps58
 go_wp2_with ((with_reducible show wpList _ _ _ (⟨_,.store 28 (.tmp 5) _,_,_,_,_⟩ :: _) _ _);refine stLst (w.heap.size+1) (by simp) _ (pkC (docP c) sv0) (by rfl) (by rfl) (by rfl) (by rfl) (pkc_one _ _) ?_)
 go_wp2_with fail
 refine (HX.out _ (H0b.out).part).mono ?_
 rintro e w1 ⟨rfl,h1,t1⟩
 have H1:Hid (DSt w B r w.heap.size ({docP c with dup:=D,qos:=Q,ret:=R}) (sv0) (S1) w1):=Lib.hid ((H0b.out).call h1 t1)
 have rc1:=H1.out.cells
 have rf1:=H1.out.frz
 clear h1 t1
 go_wp2_with fail
 refine (N2.out _ (((H1.out).put (p':={docP c with dup:=D,qos:=Q,ret:=R,top:=TP}) (s':=sv0) 5 (.string TP) rfl (fun X=>⟨X.pay,X.payn,X.wpay,X.pass,X.subs,X.codes⟩))).part).mono ?_
 rintro e w2 ⟨rfl,h2,t2⟩
 have H2:Hid (DSt w B r w.heap.size ({docP c with dup:=D,qos:=Q,ret:=R,top:=TP}) (sv0) (S2) w2):=Lib.hid ((((H1.out).put (p':={docP c with dup:=D,qos:=Q,ret:=R,top:=TP}) (s':=sv0) 5 (.string TP) rfl (fun X=>⟨X.pay,X.payn,X.wpay,X.pass,X.subs,X.codes⟩))).call h2 t2)
 have rc2:=H2.out.cells
 have rf2:=H2.out.frz
 clear h2 t2 rc1 rf1
 go_wp2_with fail
 have HW:Hid (DSt w B r w.heap.size ({docP c with dup:=D,qos:=Q,ret:=R,top:=TP,id:=ID}) (sv0) (S2) (w2.setCell ⟨w.heap.size+1,4,none⟩ (.int .i64 ID))):=Lib.hid (((H2.out).put (p':={docP c with dup:=D,qos:=Q,ret:=R,top:=TP,id:=ID}) (s':=sv0) 4 (.int .i64 ID) rfl (fun X=>⟨X.pay,X.payn,X.wpay,X.pass,X.subs,X.codes⟩)))
 clear rc2 rf2
 generalize w2.setCell ⟨w.heap.size+1,4,none⟩ (.int .i64 ID)=W at HW ⊢
 obtain ⟨ad,cc,bb,kk,hp,hs⟩:=HW.out.part
 obtain ⟨c0,c1,c2,hf⟩:=hp.cells
 have hk:=hp.within
 have hsm:=hp.small
 have hl:(S2).1.length=bb.length - kk:=by rw [←hs,List.length_drop]
 have HTK:=Lib.hid (fun W2 (q:PtS W2 B r (S2)) (x:Int) (e:x=(bb.length:Int) - (kk:Int))=>rtake_d B r (S2) x (tkD (S2).1.length (S2)) W2 q (by omega) (by omega) (by rw [show x.toNat=(S2).1.length by omega]))
 unfold TkPost at HTK
 generalize tkD (S2).1.length (S2)=T at *
 obtain ⟨PY,S9⟩:=T
 simp only at *
 generalize bb.length=n at *
 clear hs hl hp
 go_still_tail 11,(by kernel_rfl)
 change wpList _ _ _ _ _ W.drew
 have HW2:Hid (DSt w B r w.heap.size ({docP c with dup:=D,qos:=Q,ret:=R,top:=TP,id:=ID}) (sv0) (S2) W.drew):=Lib.hid (HW.out.drew 1)
 generalize W.drew=W2 at HW2 ⊢
 clear c0 c1 c2 hf
 go_wp2_with fail
 refine (HTK.out _ HW2.out.part _ rfl).mono ?_
 rintro e w8 ⟨A',c',rfl,hpay,hnil,h8,t8⟩
 have H8:Hid (DSt w B r w.heap.size ({docP c with dup:=D,qos:=Q,ret:=R,top:=TP,id:=ID}) (sv0) (S9) w8):=Lib.hid (HW2.out.call h8 t8)
 have HPY:=Lib.hid (And.intro hpay hnil)
 have rc8:=H8.out.cells
 have rf8:=H8.out.frz
 clear h8 t8 hpay hnil
 go_wp2_with (first
  | ((with_reducible show wpList _ _ _ (⟨_,.store 28 (.tmp 5) _,_,_,_,_⟩ :: _) _ _);refine stLst (w.heap.size+1) (by simp) _ (pkC (docP c) sv0) (by rfl) (by rfl) (by rfl) (by rfl) (pkc_one _ _) ?_)
  | ((with_reducible show wpList _ _ _ (⟨_,.load 28 (.tmp 5),_,_,_,_⟩ :: _) _ _);refine ld_pk (w.heap.size+1) (by rfl) (by rfl) (pkC ({docP c with dup:=D,qos:=Q,ret:=R,top:=TP,id:=ID,pay:=PY}) ({sv0 with pA:=A',pC:=c'})) _ _ (by exact ((H8.out).put (p':={docP c with dup:=D,qos:=Q,ret:=R,top:=TP,id:=ID,pay:=PY}) (s':={sv0 with pA:=A',pC:=c'}) 6 (.slice A' PY.length c') rfl (fun X=>⟨HPY.out.1,HPY.out.2,X.wpay,X.pass,X.subs,X.codes⟩)).row) (by rfl) ?_)
  | ((with_reducible show wpList _ _ _ (⟨_,.store 28 (.tmp 4) _,_,_,_,_⟩ :: _) _ _);refine stR (w.heap.size) _ (pkC ({docP c with dup:=D,qos:=Q,ret:=R,top:=TP,id:=ID,pay:=PY}) ({sv0 with pA:=A',pC:=c'})) (by rfl) (by rfl) (by exact ((H8.out).put (p':={docP c with dup:=D,qos:=Q,ret:=R,top:=TP,id:=ID,pay:=PY}) (s':={sv0 with pA:=A',pC:=c'}) 6 (.slice A' PY.length c') rfl (fun X=>⟨HPY.out.1,HPY.out.2,X.wpay,X.pass,X.subs,X.codes⟩)).res) (by rfl) (by rfl) (pkc_one _ _) ?_))
 refine bodyPost_ret (v:=.agg _) (results_cell_row (by rfl) _ _ (w.heap.size) 28 _ (0,0) _ (by rfl) (setRow_heap _ _ _ _ _ _ (by exact (((H8.out).put (p':={docP c with dup:=D,qos:=Q,ret:=R,top:=TP,id:=ID,pay:=PY}) (s':={sv0 with pA:=A',pC:=c'}) 6 (.slice A' PY.length c') rfl (fun X=>⟨HPY.out.1,HPY.out.2,X.wpay,X.pass,X.subs,X.codes⟩))).res)) Try.underlying28 (by rfl) (by exact pk_sz)) (by rfl) ?_
 exact (((H8.out).put (p':={docP c with dup:=D,qos:=Q,ret:=R,top:=TP,id:=ID,pay:=PY}) (s':={sv0 with pA:=A',pC:=c'}) 6 (.slice A' PY.length c') rfl (fun X=>⟨HPY.out.1,HPY.out.2,X.wpay,X.pass,X.subs,X.codes⟩))).done _
end Go.Proofs.Ytnhpacaoobpkhaa
