/- The document's reading of a packet: kinds of few fields. Written by gen_dpar.py. -/
import Derived.Test.YtghcgdjpmgmaaaaDTool
namespace Go.Proofs.Ytghcgdjpmgmaaaa
open Go.RowKit Go.Lib
set_option linter.unusedVariables false
set_option linter.unusedSimpArgs false

set_option maxRecDepth 100000 in
set_option maxHeartbeats 8000000 in
theorem dpar_12 (c : Int) (h0 : 0 ≤ c) (h1 : c ≤ 255) (hj : c / 16 = 12) (B r : Nat) (S : PS) (w : World) (h : PtS w B r S) :
    Calls Try.prog 58 #[.int .u8 c, .pointer (some ⟨r, 0, none⟩)] w (DParPost w B r (parD c S).1 (parD c S).2) := by
  have k1 : ((docP c).kind == 1) = false := by rw [docP_k, hj]; rfl
  have m1 : (c / 16 == 1) = false := by rw [hj]; rfl
  have k2 : ((docP c).kind == 2) = false := by rw [docP_k, hj]; rfl
  have m2 : (c / 16 == 2) = false := by rw [hj]; rfl
  have k3 : ((docP c).kind == 3) = false := by rw [docP_k, hj]; rfl
  have m3 : (c / 16 == 3) = false := by rw [hj]; rfl
  have k8 : ((docP c).kind == 8) = false := by rw [docP_k, hj]; rfl
  have m8 : (c / 16 == 8) = false := by rw [hj]; rfl
  have k9 : ((docP c).kind == 9) = false := by rw [docP_k, hj]; rfl
  have m9 : (c / 16 == 9) = false := by rw [hj]; rfl
  have k10 : ((docP c).kind == 10) = false := by rw [docP_k, hj]; rfl
  have m10 : (c / 16 == 10) = false := by rw [hj]; rfl
  have k12 : ((docP c).kind == 12) = true := by rw [docP_k, hj]; rfl
  have m12 : (c / 16 == 12) = true := by rw [hj]; rfl
  have k13 : ((docP c).kind == 13) = false := by rw [docP_k, hj]; rfl
  have m13 : (c / 16 == 13) = false := by rw [hj]; rfl
  have k14 : ((docP c).kind == 14) = false := by rw [docP_k, hj]; rfl
  have m14 : (c / 16 == 14) = false := by rw [hj]; rfl
  have EQ : parD c S = (docP c, S) := by
    unfold parD
    simp only [m1, m2, m3, m8, m9, m10, m12, m13, m14, if_true, if_false, Bool.false_eq_true, Bool.or_self, Bool.or_true, Bool.true_or, Bool.or_false, Bool.false_or]
    try rfl
  rw [EQ]
  have H0 := Lib.hid (DSt.start w B r (docP c) S h rfl rfl rfl rfl rfl)
  have hlt := h.lt
  clear EQ hj h m1 m2 m3 m8 m9 m10 m12 m13 m14
  go_enter Try.func58, Try.ntmps58
  go_wp2_with (first
    | ((with_reducible show wpList _ _ _ ({ dst := _, op := Op.store 28 (Operand.tmp 5) _, type := _, pos := _, after := _, guard := _ } :: _) _ _); refine stLst (w.heap.size + 1) (by simp) _ (pkC (docP c) sv0) (by rfl) (by rfl) (by rfl) (by rfl) (pkc_one _ _) ?_)
    | ((with_reducible show wpList _ _ _ ({ dst := _, op := Op.load 28 (Operand.tmp 5), type := _, pos := _, after := _, guard := _ } :: _) _ _); refine ld_pk (w.heap.size + 1) (by rfl) (by rfl) (pkC (docP c) (sv0)) _ _ (by exact H0.out.row) (by rfl) ?_)
    | ((with_reducible show wpList _ _ _ ({ dst := _, op := Op.store 28 (Operand.tmp 4) _, type := _, pos := _, after := _, guard := _ } :: _) _ _); refine stR (w.heap.size) _ (pkC (docP c) (sv0)) (by rfl) (by rfl) (by exact H0.out.res) (by rfl) (by rfl) (pkc_one _ _) ?_))
  refine bodyPost_ret (v := .agg _) (results_cell_row (by rfl) _ _ (w.heap.size) 28 _ (0, 0) _ (by rfl) (setRow_heap _ _ _ _ _ _ (by exact (H0.out).res)) Try.underlying28 (by rfl) (by exact pk_sz)) (by rfl) ?_
  exact (H0.out).done _

set_option maxRecDepth 100000 in
set_option maxHeartbeats 8000000 in
theorem dpar_13 (c : Int) (h0 : 0 ≤ c) (h1 : c ≤ 255) (hj : c / 16 = 13) (B r : Nat) (S : PS) (w : World) (h : PtS w B r S) :
    Calls Try.prog 58 #[.int .u8 c, .pointer (some ⟨r, 0, none⟩)] w (DParPost w B r (parD c S).1 (parD c S).2) := by
  have k1 : ((docP c).kind == 1) = false := by rw [docP_k, hj]; rfl
  have m1 : (c / 16 == 1) = false := by rw [hj]; rfl
  have k2 : ((docP c).kind == 2) = false := by rw [docP_k, hj]; rfl
  have m2 : (c / 16 == 2) = false := by rw [hj]; rfl
  have k3 : ((docP c).kind == 3) = false := by rw [docP_k, hj]; rfl
  have m3 : (c / 16 == 3) = false := by rw [hj]; rfl
  have k8 : ((docP c).kind == 8) = false := by rw [docP_k, hj]; rfl
  have m8 : (c / 16 == 8) = false := by rw [hj]; rfl
  have k9 : ((docP c).kind == 9) = false := by rw [docP_k, hj]; rfl
  have m9 : (c / 16 == 9) = false := by rw [hj]; rfl
  have k10 : ((docP c).kind == 10) = false := by rw [docP_k, hj]; rfl
  have m10 : (c / 16 == 10) = false := by rw [hj]; rfl
  have k12 : ((docP c).kind == 12) = false := by rw [docP_k, hj]; rfl
  have m12 : (c / 16 == 12) = false := by rw [hj]; rfl
  have k13 : ((docP c).kind == 13) = true := by rw [docP_k, hj]; rfl
  have m13 : (c / 16 == 13) = true := by rw [hj]; rfl
  have k14 : ((docP c).kind == 14) = false := by rw [docP_k, hj]; rfl
  have m14 : (c / 16 == 14) = false := by rw [hj]; rfl
  have EQ : parD c S = (docP c, S) := by
    unfold parD
    simp only [m1, m2, m3, m8, m9, m10, m12, m13, m14, if_true, if_false, Bool.false_eq_true, Bool.or_self, Bool.or_true, Bool.true_or, Bool.or_false, Bool.false_or]
    try rfl
  rw [EQ]
  have H0 := Lib.hid (DSt.start w B r (docP c) S h rfl rfl rfl rfl rfl)
  have hlt := h.lt
  clear EQ hj h m1 m2 m3 m8 m9 m10 m12 m13 m14
  go_enter Try.func58, Try.ntmps58
  go_wp2_with (first
    | ((with_reducible show wpList _ _ _ ({ dst := _, op := Op.store 28 (Operand.tmp 5) _, type := _, pos := _, after := _, guard := _ } :: _) _ _); refine stLst (w.heap.size + 1) (by simp) _ (pkC (docP c) sv0) (by rfl) (by rfl) (by rfl) (by rfl) (pkc_one _ _) ?_)
    | ((with_reducible show wpList _ _ _ ({ dst := _, op := Op.load 28 (Operand.tmp 5), type := _, pos := _, after := _, guard := _ } :: _) _ _); refine ld_pk (w.heap.size + 1) (by rfl) (by rfl) (pkC (docP c) (sv0)) _ _ (by exact H0.out.row) (by rfl) ?_)
    | ((with_reducible show wpList _ _ _ ({ dst := _, op := Op.store 28 (Operand.tmp 4) _, type := _, pos := _, after := _, guard := _ } :: _) _ _); refine stR (w.heap.size) _ (pkC (docP c) (sv0)) (by rfl) (by rfl) (by exact H0.out.res) (by rfl) (by rfl) (pkc_one _ _) ?_))
  refine bodyPost_ret (v := .agg _) (results_cell_row (by rfl) _ _ (w.heap.size) 28 _ (0, 0) _ (by rfl) (setRow_heap _ _ _ _ _ _ (by exact (H0.out).res)) Try.underlying28 (by rfl) (by exact pk_sz)) (by rfl) ?_
  exact (H0.out).done _

set_option maxRecDepth 100000 in
set_option maxHeartbeats 8000000 in
theorem dpar_14 (c : Int) (h0 : 0 ≤ c) (h1 : c ≤ 255) (hj : c / 16 = 14) (B r : Nat) (S : PS) (w : World) (h : PtS w B r S) :
    Calls Try.prog 58 #[.int .u8 c, .pointer (some ⟨r, 0, none⟩)] w (DParPost w B r (parD c S).1 (parD c S).2) := by
  have k1 : ((docP c).kind == 1) = false := by rw [docP_k, hj]; rfl
  have m1 : (c / 16 == 1) = false := by rw [hj]; rfl
  have k2 : ((docP c).kind == 2) = false := by rw [docP_k, hj]; rfl
  have m2 : (c / 16 == 2) = false := by rw [hj]; rfl
  have k3 : ((docP c).kind == 3) = false := by rw [docP_k, hj]; rfl
  have m3 : (c / 16 == 3) = false := by rw [hj]; rfl
  have k8 : ((docP c).kind == 8) = false := by rw [docP_k, hj]; rfl
  have m8 : (c / 16 == 8) = false := by rw [hj]; rfl
  have k9 : ((docP c).kind == 9) = false := by rw [docP_k, hj]; rfl
  have m9 : (c / 16 == 9) = false := by rw [hj]; rfl
  have k10 : ((docP c).kind == 10) = false := by rw [docP_k, hj]; rfl
  have m10 : (c / 16 == 10) = false := by rw [hj]; rfl
  have k12 : ((docP c).kind == 12) = false := by rw [docP_k, hj]; rfl
  have m12 : (c / 16 == 12) = false := by rw [hj]; rfl
  have k13 : ((docP c).kind == 13) = false := by rw [docP_k, hj]; rfl
  have m13 : (c / 16 == 13) = false := by rw [hj]; rfl
  have k14 : ((docP c).kind == 14) = true := by rw [docP_k, hj]; rfl
  have m14 : (c / 16 == 14) = true := by rw [hj]; rfl
  have EQ : parD c S = (docP c, S) := by
    unfold parD
    simp only [m1, m2, m3, m8, m9, m10, m12, m13, m14, if_true, if_false, Bool.false_eq_true, Bool.or_self, Bool.or_true, Bool.true_or, Bool.or_false, Bool.false_or]
    try rfl
  rw [EQ]
  have H0 := Lib.hid (DSt.start w B r (docP c) S h rfl rfl rfl rfl rfl)
  have hlt := h.lt
  clear EQ hj h m1 m2 m3 m8 m9 m10 m12 m13 m14
  go_enter Try.func58, Try.ntmps58
  go_wp2_with (first
    | ((with_reducible show wpList _ _ _ ({ dst := _, op := Op.store 28 (Operand.tmp 5) _, type := _, pos := _, after := _, guard := _ } :: _) _ _); refine stLst (w.heap.size + 1) (by simp) _ (pkC (docP c) sv0) (by rfl) (by rfl) (by rfl) (by rfl) (pkc_one _ _) ?_)
    | ((with_reducible show wpList _ _ _ ({ dst := _, op := Op.load 28 (Operand.tmp 5), type := _, pos := _, after := _, guard := _ } :: _) _ _); refine ld_pk (w.heap.size + 1) (by rfl) (by rfl) (pkC (docP c) (sv0)) _ _ (by exact H0.out.row) (by rfl) ?_)
    | ((with_reducible show wpList _ _ _ ({ dst := _, op := Op.store 28 (Operand.tmp 4) _, type := _, pos := _, after := _, guard := _ } :: _) _ _); refine stR (w.heap.size) _ (pkC (docP c) (sv0)) (by rfl) (by rfl) (by exact H0.out.res) (by rfl) (by rfl) (pkc_one _ _) ?_))
  refine bodyPost_ret (v := .agg _) (results_cell_row (by rfl) _ _ (w.heap.size) 28 _ (0, 0) _ (by rfl) (setRow_heap _ _ _ _ _ _ (by exact (H0.out).res)) Try.underlying28 (by rfl) (by exact pk_sz)) (by rfl) ?_
  exact (H0.out).done _

set_option maxRecDepth 100000 in
set_option maxHeartbeats 8000000 in
theorem dpar_4 (c : Int) (h0 : 0 ≤ c) (h1 : c ≤ 255) (hj : c / 16 = 4) (B r : Nat) (S : PS) (w : World) (h : PtS w B r S) :
    Calls Try.prog 58 #[.int .u8 c, .pointer (some ⟨r, 0, none⟩)] w (DParPost w B r (parD c S).1 (parD c S).2) := by
  have k1 : ((docP c).kind == 1) = false := by rw [docP_k, hj]; rfl
  have m1 : (c / 16 == 1) = false := by rw [hj]; rfl
  have k2 : ((docP c).kind == 2) = false := by rw [docP_k, hj]; rfl
  have m2 : (c / 16 == 2) = false := by rw [hj]; rfl
  have k3 : ((docP c).kind == 3) = false := by rw [docP_k, hj]; rfl
  have m3 : (c / 16 == 3) = false := by rw [hj]; rfl
  have k8 : ((docP c).kind == 8) = false := by rw [docP_k, hj]; rfl
  have m8 : (c / 16 == 8) = false := by rw [hj]; rfl
  have k9 : ((docP c).kind == 9) = false := by rw [docP_k, hj]; rfl
  have m9 : (c / 16 == 9) = false := by rw [hj]; rfl
  have k10 : ((docP c).kind == 10) = false := by rw [docP_k, hj]; rfl
  have m10 : (c / 16 == 10) = false := by rw [hj]; rfl
  have k12 : ((docP c).kind == 12) = false := by rw [docP_k, hj]; rfl
  have m12 : (c / 16 == 12) = false := by rw [hj]; rfl
  have k13 : ((docP c).kind == 13) = false := by rw [docP_k, hj]; rfl
  have m13 : (c / 16 == 13) = false := by rw [hj]; rfl
  have k14 : ((docP c).kind == 14) = false := by rw [docP_k, hj]; rfl
  have m14 : (c / 16 == 14) = false := by rw [hj]; rfl
  have EQ : parD c S = ({ docP c with id := (nmD 2 S).1 }, (nmD 2 S).2) := by
    unfold parD
    simp only [m1, m2, m3, m8, m9, m10, m12, m13, m14, if_true, if_false, Bool.false_eq_true, Bool.or_self, Bool.or_true, Bool.true_or, Bool.or_false, Bool.false_or]
    try rfl
  rw [EQ]
  have H0 := Lib.hid (DSt.start w B r (docP c) S h rfl rfl rfl rfl rfl)
  have hlt := h.lt
  clear EQ hj h m1 m2 m3 m8 m9 m10 m12 m13 m14
  have N2 := Lib.hid (fun W (q : PtS W B r S) => number_d B r 2 S W q (by omega))
  generalize nmD 2 S = A at *
  obtain ⟨ID, S1⟩ := A
  simp only at *
  go_enter Try.func58, Try.ntmps58
  go_wp2_with ((with_reducible show wpList _ _ _ ({ dst := _, op := Op.store 28 (Operand.tmp 5) _, type := _, pos := _, after := _, guard := _ } :: _) _ _); refine stLst (w.heap.size + 1) (by simp) _ (pkC (docP c) sv0) (by rfl) (by rfl) (by rfl) (by rfl) (pkc_one _ _) ?_)
  go_wp2_with fail
  refine (N2.out _ (H0.out).part).mono ?_
  rintro e w1 ⟨rfl, h1, t1⟩
  have H1 : Hid (DSt w B r w.heap.size (docP c) (sv0) (S1) w1) := Lib.hid ((H0.out).call h1 t1)
  have rc1 := H1.out.cells
  have rf1 := H1.out.frz
  clear h1 t1
  go_wp2_with fail
  refine wp_loop_rounds 1 ?_
  rw [rounds_succ]
  go_wp2_with fail
  go_quiet (fail)
  go_wp2_with fail
  refine wp_loop_rounds 1 ?_
  rw [rounds_succ]
  go_wp2_with fail
  go_quiet (fail)
  go_wp2_with (first
    | ((with_reducible show wpList _ _ _ ({ dst := _, op := Op.store 28 (Operand.tmp 5) _, type := _, pos := _, after := _, guard := _ } :: _) _ _); refine stLst (w.heap.size + 1) (by simp) _ (pkC (docP c) sv0) (by rfl) (by rfl) (by rfl) (by rfl) (pkc_one _ _) ?_)
    | ((with_reducible show wpList _ _ _ ({ dst := _, op := Op.load 28 (Operand.tmp 5), type := _, pos := _, after := _, guard := _ } :: _) _ _); refine ld_pk (w.heap.size + 1) (by rfl) (by rfl) (pkC ({ docP c with id := ID }) (sv0)) _ _ (by exact ((((((H1.out).put (p' := { docP c with id := ID }) (s' := sv0) 4 (.int .i64 ID) rfl (fun X => ⟨X.pay, X.payn, X.wpay, X.pass, X.subs, X.codes⟩))).drew _)).drew _).row) (by rfl) ?_)
    | ((with_reducible show wpList _ _ _ ({ dst := _, op := Op.store 28 (Operand.tmp 4) _, type := _, pos := _, after := _, guard := _ } :: _) _ _); refine stR (w.heap.size) _ (pkC ({ docP c with id := ID }) (sv0)) (by rfl) (by rfl) (by exact ((((((H1.out).put (p' := { docP c with id := ID }) (s' := sv0) 4 (.int .i64 ID) rfl (fun X => ⟨X.pay, X.payn, X.wpay, X.pass, X.subs, X.codes⟩))).drew _)).drew _).res) (by rfl) (by rfl) (pkc_one _ _) ?_))
  refine bodyPost_ret (v := .agg _) (results_cell_row (by rfl) _ _ (w.heap.size) 28 _ (0, 0) _ (by rfl) (setRow_heap _ _ _ _ _ _ (by exact (((((((H1.out).put (p' := { docP c with id := ID }) (s' := sv0) 4 (.int .i64 ID) rfl (fun X => ⟨X.pay, X.payn, X.wpay, X.pass, X.subs, X.codes⟩))).drew _)).drew _)).res)) Try.underlying28 (by rfl) (by exact pk_sz)) (by rfl) ?_
  exact (((((((H1.out).put (p' := { docP c with id := ID }) (s' := sv0) 4 (.int .i64 ID) rfl (fun X => ⟨X.pay, X.payn, X.wpay, X.pass, X.subs, X.codes⟩))).drew _)).drew _)).done _

set_option maxRecDepth 100000 in
set_option maxHeartbeats 8000000 in
theorem dpar_5 (c : Int) (h0 : 0 ≤ c) (h1 : c ≤ 255) (hj : c / 16 = 5) (B r : Nat) (S : PS) (w : World) (h : PtS w B r S) :
    Calls Try.prog 58 #[.int .u8 c, .pointer (some ⟨r, 0, none⟩)] w (DParPost w B r (parD c S).1 (parD c S).2) := by
  have k1 : ((docP c).kind == 1) = false := by rw [docP_k, hj]; rfl
  have m1 : (c / 16 == 1) = false := by rw [hj]; rfl
  have k2 : ((docP c).kind == 2) = false := by rw [docP_k, hj]; rfl
  have m2 : (c / 16 == 2) = false := by rw [hj]; rfl
  have k3 : ((docP c).kind == 3) = false := by rw [docP_k, hj]; rfl
  have m3 : (c / 16 == 3) = false := by rw [hj]; rfl
  have k8 : ((docP c).kind == 8) = false := by rw [docP_k, hj]; rfl
  have m8 : (c / 16 == 8) = false := by rw [hj]; rfl
  have k9 : ((docP c).kind == 9) = false := by rw [docP_k, hj]; rfl
  have m9 : (c / 16 == 9) = false := by rw [hj]; rfl
  have k10 : ((docP c).kind == 10) = false := by rw [docP_k, hj]; rfl
  have m10 : (c / 16 == 10) = false := by rw [hj]; rfl
  have k12 : ((docP c).kind == 12) = false := by rw [docP_k, hj]; rfl
  have m12 : (c / 16 == 12) = false := by rw [hj]; rfl
  have k13 : ((docP c).kind == 13) = false := by rw [docP_k, hj]; rfl
  have m13 : (c / 16 == 13) = false := by rw [hj]; rfl
  have k14 : ((docP c).kind == 14) = false := by rw [docP_k, hj]; rfl
  have m14 : (c / 16 == 14) = false := by rw [hj]; rfl
  have EQ : parD c S = ({ docP c with id := (nmD 2 S).1 }, (nmD 2 S).2) := by
    unfold parD
    simp only [m1, m2, m3, m8, m9, m10, m12, m13, m14, if_true, if_false, Bool.false_eq_true, Bool.or_self, Bool.or_true, Bool.true_or, Bool.or_false, Bool.false_or]
    try rfl
  rw [EQ]
  have H0 := Lib.hid (DSt.start w B r (docP c) S h rfl rfl rfl rfl rfl)
  have hlt := h.lt
  clear EQ hj h m1 m2 m3 m8 m9 m10 m12 m13 m14
  have N2 := Lib.hid (fun W (q : PtS W B r S) => number_d B r 2 S W q (by omega))
  generalize nmD 2 S = A at *
  obtain ⟨ID, S1⟩ := A
  simp only at *
  go_enter Try.func58, Try.ntmps58
  go_wp2_with ((with_reducible show wpList _ _ _ ({ dst := _, op := Op.store 28 (Operand.tmp 5) _, type := _, pos := _, after := _, guard := _ } :: _) _ _); refine stLst (w.heap.size + 1) (by simp) _ (pkC (docP c) sv0) (by rfl) (by rfl) (by rfl) (by rfl) (pkc_one _ _) ?_)
  go_wp2_with fail
  refine (N2.out _ (H0.out).part).mono ?_
  rintro e w1 ⟨rfl, h1, t1⟩
  have H1 : Hid (DSt w B r w.heap.size (docP c) (sv0) (S1) w1) := Lib.hid ((H0.out).call h1 t1)
  have rc1 := H1.out.cells
  have rf1 := H1.out.frz
  clear h1 t1
  go_wp2_with fail
  refine wp_loop_rounds 1 ?_
  rw [rounds_succ]
  go_wp2_with fail
  go_quiet (fail)
  go_wp2_with fail
  refine wp_loop_rounds 1 ?_
  rw [rounds_succ]
  go_wp2_with fail
  go_quiet (fail)
  go_wp2_with (first
    | ((with_reducible show wpList _ _ _ ({ dst := _, op := Op.store 28 (Operand.tmp 5) _, type := _, pos := _, after := _, guard := _ } :: _) _ _); refine stLst (w.heap.size + 1) (by simp) _ (pkC (docP c) sv0) (by rfl) (by rfl) (by rfl) (by rfl) (pkc_one _ _) ?_)
    | ((with_reducible show wpList _ _ _ ({ dst := _, op := Op.load 28 (Operand.tmp 5), type := _, pos := _, after := _, guard := _ } :: _) _ _); refine ld_pk (w.heap.size + 1) (by rfl) (by rfl) (pkC ({ docP c with id := ID }) (sv0)) _ _ (by exact ((((((H1.out).put (p' := { docP c with id := ID }) (s' := sv0) 4 (.int .i64 ID) rfl (fun X => ⟨X.pay, X.payn, X.wpay, X.pass, X.subs, X.codes⟩))).drew _)).drew _).row) (by rfl) ?_)
    | ((with_reducible show wpList _ _ _ ({ dst := _, op := Op.store 28 (Operand.tmp 4) _, type := _, pos := _, after := _, guard := _ } :: _) _ _); refine stR (w.heap.size) _ (pkC ({ docP c with id := ID }) (sv0)) (by rfl) (by rfl) (by exact ((((((H1.out).put (p' := { docP c with id := ID }) (s' := sv0) 4 (.int .i64 ID) rfl (fun X => ⟨X.pay, X.payn, X.wpay, X.pass, X.subs, X.codes⟩))).drew _)).drew _).res) (by rfl) (by rfl) (pkc_one _ _) ?_))
  refine bodyPost_ret (v := .agg _) (results_cell_row (by rfl) _ _ (w.heap.size) 28 _ (0, 0) _ (by rfl) (setRow_heap _ _ _ _ _ _ (by exact (((((((H1.out).put (p' := { docP c with id := ID }) (s' := sv0) 4 (.int .i64 ID) rfl (fun X => ⟨X.pay, X.payn, X.wpay, X.pass, X.subs, X.codes⟩))).drew _)).drew _)).res)) Try.underlying28 (by rfl) (by exact pk_sz)) (by rfl) ?_
  exact (((((((H1.out).put (p' := { docP c with id := ID }) (s' := sv0) 4 (.int .i64 ID) rfl (fun X => ⟨X.pay, X.payn, X.wpay, X.pass, X.subs, X.codes⟩))).drew _)).drew _)).done _

set_option maxRecDepth 100000 in
set_option maxHeartbeats 8000000 in
theorem dpar_6 (c : Int) (h0 : 0 ≤ c) (h1 : c ≤ 255) (hj : c / 16 = 6) (B r : Nat) (S : PS) (w : World) (h : PtS w B r S) :
    Calls Try.prog 58 #[.int .u8 c, .pointer (some ⟨r, 0, none⟩)] w (DParPost w B r (parD c S).1 (parD c S).2) := by
  have k1 : ((docP c).kind == 1) = false := by rw [docP_k, hj]; rfl
  have m1 : (c / 16 == 1) = false := by rw [hj]; rfl
  have k2 : ((docP c).kind == 2) = false := by rw [docP_k, hj]; rfl
  have m2 : (c / 16 == 2) = false := by rw [hj]; rfl
  have k3 : ((docP c).kind == 3) = false := by rw [docP_k, hj]; rfl
  have m3 : (c / 16 == 3) = false := by rw [hj]; rfl
  have k8 : ((docP c).kind == 8) = false := by rw [docP_k, hj]; rfl
  have m8 : (c / 16 == 8) = false := by rw [hj]; rfl
  have k9 : ((docP c).kind == 9) = false := by rw [docP_k, hj]; rfl
  have m9 : (c / 16 == 9) = false := by rw [hj]; rfl
  have k10 : ((docP c).kind == 10) = false := by rw [docP_k, hj]; rfl
  have m10 : (c / 16 == 10) = false := by rw [hj]; rfl
  have k12 : ((docP c).kind == 12) = false := by rw [docP_k, hj]; rfl
  have m12 : (c / 16 == 12) = false := by rw [hj]; rfl
  have k13 : ((docP c).kind == 13) = false := by rw [docP_k, hj]; rfl
  have m13 : (c / 16 == 13) = false := by rw [hj]; rfl
  have k14 : ((docP c).kind == 14) = false := by rw [docP_k, hj]; rfl
  have m14 : (c / 16 == 14) = false := by rw [hj]; rfl
  have EQ : parD c S = ({ docP c with id := (nmD 2 S).1 }, (nmD 2 S).2) := by
    unfold parD
    simp only [m1, m2, m3, m8, m9, m10, m12, m13, m14, if_true, if_false, Bool.false_eq_true, Bool.or_self, Bool.or_true, Bool.true_or, Bool.or_false, Bool.false_or]
    try rfl
  rw [EQ]
  have H0 := Lib.hid (DSt.start w B r (docP c) S h rfl rfl rfl rfl rfl)
  have hlt := h.lt
  clear EQ hj h m1 m2 m3 m8 m9 m10 m12 m13 m14
  have N2 := Lib.hid (fun W (q : PtS W B r S) => number_d B r 2 S W q (by omega))
  generalize nmD 2 S = A at *
  obtain ⟨ID, S1⟩ := A
  simp only at *
  go_enter Try.func58, Try.ntmps58
  go_wp2_with ((with_reducible show wpList _ _ _ ({ dst := _, op := Op.store 28 (Operand.tmp 5) _, type := _, pos := _, after := _, guard := _ } :: _) _ _); refine stLst (w.heap.size + 1) (by simp) _ (pkC (docP c) sv0) (by rfl) (by rfl) (by rfl) (by rfl) (pkc_one _ _) ?_)
  go_wp2_with fail
  refine (N2.out _ (H0.out).part).mono ?_
  rintro e w1 ⟨rfl, h1, t1⟩
  have H1 : Hid (DSt w B r w.heap.size (docP c) (sv0) (S1) w1) := Lib.hid ((H0.out).call h1 t1)
  have rc1 := H1.out.cells
  have rf1 := H1.out.frz
  clear h1 t1
  go_wp2_with fail
  refine wp_loop_rounds 1 ?_
  rw [rounds_succ]
  go_wp2_with fail
  go_quiet (fail)
  go_wp2_with fail
  refine wp_loop_rounds 1 ?_
  rw [rounds_succ]
  go_wp2_with fail
  go_quiet (fail)
  go_wp2_with (first
    | ((with_reducible show wpList _ _ _ ({ dst := _, op := Op.store 28 (Operand.tmp 5) _, type := _, pos := _, after := _, guard := _ } :: _) _ _); refine stLst (w.heap.size + 1) (by simp) _ (pkC (docP c) sv0) (by rfl) (by rfl) (by rfl) (by rfl) (pkc_one _ _) ?_)
    | ((with_reducible show wpList _ _ _ ({ dst := _, op := Op.load 28 (Operand.tmp 5), type := _, pos := _, after := _, guard := _ } :: _) _ _); refine ld_pk (w.heap.size + 1) (by rfl) (by rfl) (pkC ({ docP c with id := ID }) (sv0)) _ _ (by exact ((((((H1.out).put (p' := { docP c with id := ID }) (s' := sv0) 4 (.int .i64 ID) rfl (fun X => ⟨X.pay, X.payn, X.wpay, X.pass, X.subs, X.codes⟩))).drew _)).drew _).row) (by rfl) ?_)
    | ((with_reducible show wpList _ _ _ ({ dst := _, op := Op.store 28 (Operand.tmp 4) _, type := _, pos := _, after := _, guard := _ } :: _) _ _); refine stR (w.heap.size) _ (pkC ({ docP c with id := ID }) (sv0)) (by rfl) (by rfl) (by exact ((((((H1.out).put (p' := { docP c with id := ID }) (s' := sv0) 4 (.int .i64 ID) rfl (fun X => ⟨X.pay, X.payn, X.wpay, X.pass, X.subs, X.codes⟩))).drew _)).drew _).res) (by rfl) (by rfl) (pkc_one _ _) ?_))
  refine bodyPost_ret (v := .agg _) (results_cell_row (by rfl) _ _ (w.heap.size) 28 _ (0, 0) _ (by rfl) (setRow_heap _ _ _ _ _ _ (by exact (((((((H1.out).put (p' := { docP c with id := ID }) (s' := sv0) 4 (.int .i64 ID) rfl (fun X => ⟨X.pay, X.payn, X.wpay, X.pass, X.subs, X.codes⟩))).drew _)).drew _)).res)) Try.underlying28 (by rfl) (by exact pk_sz)) (by rfl) ?_
  exact (((((((H1.out).put (p' := { docP c with id := ID }) (s' := sv0) 4 (.int .i64 ID) rfl (fun X => ⟨X.pay, X.payn, X.wpay, X.pass, X.subs, X.codes⟩))).drew _)).drew _)).done _

set_option maxRecDepth 100000 in
set_option maxHeartbeats 8000000 in
theorem dpar_7 (c : Int) (h0 : 0 ≤ c) (h1 : c ≤ 255) (hj : c / 16 = 7) (B r : Nat) (S : PS) (w : World) (h : PtS w B r S) :
    Calls Try.prog 58 #[.int .u8 c, .pointer (some ⟨r, 0, none⟩)] w (DParPost w B r (parD c S).1 (parD c S).2) := by
  have k1 : ((docP c).kind == 1) = false := by rw [docP_k, hj]; rfl
  have m1 : (c / 16 == 1) = false := by rw [hj]; rfl
  have k2 : ((docP c).kind == 2) = false := by rw [docP_k, hj]; rfl
  have m2 : (c / 16 == 2) = false := by rw [hj]; rfl
  have k3 : ((docP c).kind == 3) = false := by rw [docP_k, hj]; rfl
  have m3 : (c / 16 == 3) = false := by rw [hj]; rfl
  have k8 : ((docP c).kind == 8) = false := by rw [docP_k, hj]; rfl
  have m8 : (c / 16 == 8) = false := by rw [hj]; rfl
  have k9 : ((docP c).kind == 9) = false := by rw [docP_k, hj]; rfl
  have m9 : (c / 16 == 9) = false := by rw [hj]; rfl
  have k10 : ((docP c).kind == 10) = false := by rw [docP_k, hj]; rfl
  have m10 : (c / 16 == 10) = false := by rw [hj]; rfl
  have k12 : ((docP c).kind == 12) = false := by rw [docP_k, hj]; rfl
  have m12 : (c / 16 == 12) = false := by rw [hj]; rfl
  have k13 : ((docP c).kind == 13) = false := by rw [docP_k, hj]; rfl
  have m13 : (c / 16 == 13) = false := by rw [hj]; rfl
  have k14 : ((docP c).kind == 14) = false := by rw [docP_k, hj]; rfl
  have m14 : (c / 16 == 14) = false := by rw [hj]; rfl
  have EQ : parD c S = ({ docP c with id := (nmD 2 S).1 }, (nmD 2 S).2) := by
    unfold parD
    simp only [m1, m2, m3, m8, m9, m10, m12, m13, m14, if_true, if_false, Bool.false_eq_true, Bool.or_self, Bool.or_true, Bool.true_or, Bool.or_false, Bool.false_or]
    try rfl
  rw [EQ]
  have H0 := Lib.hid (DSt.start w B r (docP c) S h rfl rfl rfl rfl rfl)
  have hlt := h.lt
  clear EQ hj h m1 m2 m3 m8 m9 m10 m12 m13 m14
  have N2 := Lib.hid (fun W (q : PtS W B r S) => number_d B r 2 S W q (by omega))
  generalize nmD 2 S = A at *
  obtain ⟨ID, S1⟩ := A
  simp only at *
  go_enter Try.func58, Try.ntmps58
  go_wp2_with ((with_reducible show wpList _ _ _ ({ dst := _, op := Op.store 28 (Operand.tmp 5) _, type := _, pos := _, after := _, guard := _ } :: _) _ _); refine stLst (w.heap.size + 1) (by simp) _ (pkC (docP c) sv0) (by rfl) (by rfl) (by rfl) (by rfl) (pkc_one _ _) ?_)
  go_wp2_with fail
  refine (N2.out _ (H0.out).part).mono ?_
  rintro e w1 ⟨rfl, h1, t1⟩
  have H1 : Hid (DSt w B r w.heap.size (docP c) (sv0) (S1) w1) := Lib.hid ((H0.out).call h1 t1)
  have rc1 := H1.out.cells
  have rf1 := H1.out.frz
  clear h1 t1
  go_wp2_with fail
  refine wp_loop_rounds 1 ?_
  rw [rounds_succ]
  go_wp2_with fail
  go_quiet (fail)
  go_wp2_with fail
  refine wp_loop_rounds 1 ?_
  rw [rounds_succ]
  go_wp2_with fail
  go_quiet (fail)
  go_wp2_with (first
    | ((with_reducible show wpList _ _ _ ({ dst := _, op := Op.store 28 (Operand.tmp 5) _, type := _, pos := _, after := _, guard := _ } :: _) _ _); refine stLst (w.heap.size + 1) (by simp) _ (pkC (docP c) sv0) (by rfl) (by rfl) (by rfl) (by rfl) (pkc_one _ _) ?_)
    | ((with_reducible show wpList _ _ _ ({ dst := _, op := Op.load 28 (Operand.tmp 5), type := _, pos := _, after := _, guard := _ } :: _) _ _); refine ld_pk (w.heap.size + 1) (by rfl) (by rfl) (pkC ({ docP c with id := ID }) (sv0)) _ _ (by exact ((((((H1.out).put (p' := { docP c with id := ID }) (s' := sv0) 4 (.int .i64 ID) rfl (fun X => ⟨X.pay, X.payn, X.wpay, X.pass, X.subs, X.codes⟩))).drew _)).drew _).row) (by rfl) ?_)
    | ((with_reducible show wpList _ _ _ ({ dst := _, op := Op.store 28 (Operand.tmp 4) _, type := _, pos := _, after := _, guard := _ } :: _) _ _); refine stR (w.heap.size) _ (pkC ({ docP c with id := ID }) (sv0)) (by rfl) (by rfl) (by exact ((((((H1.out).put (p' := { docP c with id := ID }) (s' := sv0) 4 (.int .i64 ID) rfl (fun X => ⟨X.pay, X.payn, X.wpay, X.pass, X.subs, X.codes⟩))).drew _)).drew _).res) (by rfl) (by rfl) (pkc_one _ _) ?_))
  refine bodyPost_ret (v := .agg _) (results_cell_row (by rfl) _ _ (w.heap.size) 28 _ (0, 0) _ (by rfl) (setRow_heap _ _ _ _ _ _ (by exact (((((((H1.out).put (p' := { docP c with id := ID }) (s' := sv0) 4 (.int .i64 ID) rfl (fun X => ⟨X.pay, X.payn, X.wpay, X.pass, X.subs, X.codes⟩))).drew _)).drew _)).res)) Try.underlying28 (by rfl) (by exact pk_sz)) (by rfl) ?_
  exact (((((((H1.out).put (p' := { docP c with id := ID }) (s' := sv0) 4 (.int .i64 ID) rfl (fun X => ⟨X.pay, X.payn, X.wpay, X.pass, X.subs, X.codes⟩))).drew _)).drew _)).done _

set_option maxRecDepth 100000 in
set_option maxHeartbeats 8000000 in
theorem dpar_11 (c : Int) (h0 : 0 ≤ c) (h1 : c ≤ 255) (hj : c / 16 = 11) (B r : Nat) (S : PS) (w : World) (h : PtS w B r S) :
    Calls Try.prog 58 #[.int .u8 c, .pointer (some ⟨r, 0, none⟩)] w (DParPost w B r (parD c S).1 (parD c S).2) := by
  have k1 : ((docP c).kind == 1) = false := by rw [docP_k, hj]; rfl
  have m1 : (c / 16 == 1) = false := by rw [hj]; rfl
  have k2 : ((docP c).kind == 2) = false := by rw [docP_k, hj]; rfl
  have m2 : (c / 16 == 2) = false := by rw [hj]; rfl
  have k3 : ((docP c).kind == 3) = false := by rw [docP_k, hj]; rfl
  have m3 : (c / 16 == 3) = false := by rw [hj]; rfl
  have k8 : ((docP c).kind == 8) = false := by rw [docP_k, hj]; rfl
  have m8 : (c / 16 == 8) = false := by rw [hj]; rfl
  have k9 : ((docP c).kind == 9) = false := by rw [docP_k, hj]; rfl
  have m9 : (c / 16 == 9) = false := by rw [hj]; rfl
  have k10 : ((docP c).kind == 10) = false := by rw [docP_k, hj]; rfl
  have m10 : (c / 16 == 10) = false := by rw [hj]; rfl
  have k12 : ((docP c).kind == 12) = false := by rw [docP_k, hj]; rfl
  have m12 : (c / 16 == 12) = false := by rw [hj]; rfl
  have k13 : ((docP c).kind == 13) = false := by rw [docP_k, hj]; rfl
  have m13 : (c / 16 == 13) = false := by rw [hj]; rfl
  have k14 : ((docP c).kind == 14) = false := by rw [docP_k, hj]; rfl
  have m14 : (c / 16 == 14) = false := by rw [hj]; rfl
  have EQ : parD c S = ({ docP c with id := (nmD 2 S).1 }, (nmD 2 S).2) := by
    unfold parD
    simp only [m1, m2, m3, m8, m9, m10, m12, m13, m14, if_true, if_false, Bool.false_eq_true, Bool.or_self, Bool.or_true, Bool.true_or, Bool.or_false, Bool.false_or]
    try rfl
  rw [EQ]
  have H0 := Lib.hid (DSt.start w B r (docP c) S h rfl rfl rfl rfl rfl)
  have hlt := h.lt
  clear EQ hj h m1 m2 m3 m8 m9 m10 m12 m13 m14
  have N2 := Lib.hid (fun W (q : PtS W B r S) => number_d B r 2 S W q (by omega))
  generalize nmD 2 S = A at *
  obtain ⟨ID, S1⟩ := A
  simp only at *
  go_enter Try.func58, Try.ntmps58
  go_wp2_with ((with_reducible show wpList _ _ _ ({ dst := _, op := Op.store 28 (Operand.tmp 5) _, type := _, pos := _, after := _, guard := _ } :: _) _ _); refine stLst (w.heap.size + 1) (by simp) _ (pkC (docP c) sv0) (by rfl) (by rfl) (by rfl) (by rfl) (pkc_one _ _) ?_)
  go_wp2_with fail
  refine (N2.out _ (H0.out).part).mono ?_
  rintro e w1 ⟨rfl, h1, t1⟩
  have H1 : Hid (DSt w B r w.heap.size (docP c) (sv0) (S1) w1) := Lib.hid ((H0.out).call h1 t1)
  have rc1 := H1.out.cells
  have rf1 := H1.out.frz
  clear h1 t1
  go_wp2_with fail
  refine wp_loop_rounds 1 ?_
  rw [rounds_succ]
  go_wp2_with fail
  go_quiet (fail)
  go_wp2_with fail
  refine wp_loop_rounds 1 ?_
  rw [rounds_succ]
  go_wp2_with fail
  go_quiet (fail)
  go_wp2_with (first
    | ((with_reducible show wpList _ _ _ ({ dst := _, op := Op.store 28 (Operand.tmp 5) _, type := _, pos := _, after := _, guard := _ } :: _) _ _); refine stLst (w.heap.size + 1) (by simp) _ (pkC (docP c) sv0) (by rfl) (by rfl) (by rfl) (by rfl) (pkc_one _ _) ?_)
    | ((with_reducible show wpList _ _ _ ({ dst := _, op := Op.load 28 (Operand.tmp 5), type := _, pos := _, after := _, guard := _ } :: _) _ _); refine ld_pk (w.heap.size + 1) (by rfl) (by rfl) (pkC ({ docP c with id := ID }) (sv0)) _ _ (by exact ((((((H1.out).put (p' := { docP c with id := ID }) (s' := sv0) 4 (.int .i64 ID) rfl (fun X => ⟨X.pay, X.payn, X.wpay, X.pass, X.subs, X.codes⟩))).drew _)).drew _).row) (by rfl) ?_)
    | ((with_reducible show wpList _ _ _ ({ dst := _, op := Op.store 28 (Operand.tmp 4) _, type := _, pos := _, after := _, guard := _ } :: _) _ _); refine stR (w.heap.size) _ (pkC ({ docP c with id := ID }) (sv0)) (by rfl) (by rfl) (by exact ((((((H1.out).put (p' := { docP c with id := ID }) (s' := sv0) 4 (.int .i64 ID) rfl (fun X => ⟨X.pay, X.payn, X.wpay, X.pass, X.subs, X.codes⟩))).drew _)).drew _).res) (by rfl) (by rfl) (pkc_one _ _) ?_))
  refine bodyPost_ret (v := .agg _) (results_cell_row (by rfl) _ _ (w.heap.size) 28 _ (0, 0) _ (by rfl) (setRow_heap _ _ _ _ _ _ (by exact (((((((H1.out).put (p' := { docP c with id := ID }) (s' := sv0) 4 (.int .i64 ID) rfl (fun X => ⟨X.pay, X.payn, X.wpay, X.pass, X.subs, X.codes⟩))).drew _)).drew _)).res)) Try.underlying28 (by rfl) (by exact pk_sz)) (by rfl) ?_
  exact (((((((H1.out).put (p' := { docP c with id := ID }) (s' := sv0) 4 (.int .i64 ID) rfl (fun X => ⟨X.pay, X.payn, X.wpay, X.pass, X.subs, X.codes⟩))).drew _)).drew _)).done _
end Go.Proofs.Ytghcgdjpmgmaaaa
