import Derived.Test.YtnhpacaoobpkhaaGWr
import Derived.Test.YtnhpacaoobpkhaaGLen
import Derived.Test.YtnhpacaoobpkhaaGSame
import Derived.Deep.RegionHeld3
import Derived.Test.YtnhpacaoobpkhaaGFits
import Derived.Test.YtnhpacaoobpkhaaRef3
namespace Go.Proofs.Ytnhpacaoobpkhaa
open Go.RowKit Go.Lib
set_option maxRecDepth 100000
set_option maxHeartbeats 4000000
theorem bytes_nil (w:World)(B:Nat):BytesAt w B (.slice none 0 0) []:=⟨none,0,rfl,by simp,by decide,fun _=>rfl,by simp,by simp⟩
theorem subs_nil (w:World)(B:Nat):SubsAt w B (.slice none 0 0) []:=⟨none,0,rfl,by simp,by decide,fun _=>rfl,by simp,by simp⟩
theorem ints_nil (w:World)(B:Nat):IntsAt w B (.slice none 0 0) []:=⟨none,0,rfl,by simp,by decide,fun _=>rfl,by simp,by simp⟩
theorem wr_at {w:World}{B:Nat}{p:Pk}{s:Sv}(h:PkAt w B p s):PkAt w B (wrP p) (wrS p s):=by
 obtain ⟨h1,h2,h3,h4,h5⟩:=h
 rcases e1:p.hw with _ | _ <;> rcases e3:p.hp with _ | _ <;> rcases kf p.kind with ⟨k1,k2,k3,k4,k5,k6,k7,k8,k9,k10,k11,k12,k13,k14⟩ | ⟨k1,k2,k3,k4,k5,k6,k7,k8,k9,k10,k11,k12,k13,k14⟩ | ⟨k1,k2,k3,k4,k5,k6,k7,k8,k9,k10,k11,k12,k13,k14⟩ | ⟨k1,k2,k3,k4,k5,k6,k7,k8,k9,k10,k11,k12,k13,k14⟩ | ⟨k1,k2,k3,k4,k5,k6,k7,k8,k9,k10,k11,k12,k13,k14⟩ | ⟨k1,k2,k3,k4,k5,k6,k7,k8,k9,k10,k11,k12,k13,k14⟩ | ⟨k1,k2,k3,k4,k5,k6,k7,k8,k9,k10,k11,k12,k13,k14⟩ | ⟨k1,k2,k3,k4,k5,k6,k7,k8,k9,k10,k11,k12,k13,k14⟩ | ⟨k1,k2,k3,k4,k5,k6,k7,k8,k9,k10,k11,k12,k13,k14⟩ | ⟨k1,k2,k3,k4,k5,k6,k7,k8,k9,k10,k11,k12,k13,k14⟩ | ⟨k1,k2,k3,k4,k5,k6,k7,k8,k9,k10,k11,k12,k13,k14⟩ | ⟨k1,k2,k3,k4,k5,k6,k7,k8,k9,k10,k11,k12,k13,k14⟩ | ⟨k1,k2,k3,k4,k5,k6,k7,k8,k9,k10,k11,k12,k13,k14⟩ | ⟨k1,k2,k3,k4,k5,k6,k7,k8,k9,k10,k11,k12,k13,k14⟩ | ⟨k1,k2,k3,k4,k5,k6,k7,k8,k9,k10,k11,k12,k13,k14⟩
 all_goals
  simp only [wrP,wrS,pk0,sv0,k1,k2,k3,k4,k5,k6,k7,k8,k9,k10,k11,e1,e3]
  refine ⟨?_,?_,?_,?_,?_⟩ <;> first | exact bytes_nil _ _ | exact subs_nil _ _ | exact ints_nil _ _ | assumption
theorem ld_run {g:Nat}{W:World}{cs:Array Value}(h:W.heap[g]? = some (.cells cs 28 (0,0)))(hs:cs.size=24):(Instr.loadAt 28 (.pointer (some ⟨g,0,none⟩))).run Try.prog W=.ok (.agg cs) W:=by
 simp only [Instr.loadAt,Instr.sureAddr,Sem.run_bind,Sem.run_pure,Result.andThen_ok,run_loadVar_row W g _ 28 cs (0,0) _ h Try.underlying28 rfl (by rw [hs];exact pk_sz)]
theorem ld_exec {a:Act}{o:Oper}{x:Operand}{g:Nat}{W:World}{cs:Array Value}(ho:o.op=.load 28 x)(hx:a.eval x=.pointer (some ⟨g,0,none⟩))(h:W.heap[g]? = some (.cells cs 28 (0,0)))(hs:cs.size=24) :
  (execOp a.eval o).run Try.prog W=.ok (.value (.agg cs)) W:=by
 unfold execOp
 simp only [ho,hx,Sem.run_bind,Sem.run_pure,ld_run h hs,Result.andThen_ok]
def rightP (p:Pk):Bool:=decide (p=wrP p) && decide (lenP p≤8192) && fitsP p
theorem right_any (p:Pk)(s:Sv)(B:Nat)(w:World)(hp:PkAt w B p s)(hB:B≤w.heap.size)(ok:PkOk p) :
  Calls Try.prog 19 #[pkV p s] w fun e w'=>e=.returned (.bool (rightP p))∧Below w.heap.size w w':=by
 have HP:=Lib.hid hp
 have HQ:=Lib.hid (wr_at hp)
 have OK:=Lib.hid ok
 have c8:=ok.subs
 have c9:=ok.codes
 clear hp ok
 rcases e1:decide (p=wrP p) with _ | _
 ·go_enter Try.func19,Try.ntmps19
  go_wp2_with fail
  refine wp_region_held_drew (S:=fun W=>W.heap[w.heap.size]? = some (.cells (pkC p s) 28 (0,0))) (by rfl) (heap_alloc_last _ _) ?_
  intro hS
  refine tkH 0 (pkV p s) hS ?_ (hy:=.inl ⟨by rfl,fun W hW=>ld_exec rfl rfl hW rfl⟩)
  refine tkH 1 (pkV p s) hS ?_ (hy:=.inl ⟨by rfl,fun W hW=>ld_exec rfl rfl hW rfl⟩)
  refine wpAnyH_ready (rs:=[2]) (by kernel_rfl) (by simp) (AllReadyH.cons (by rfl) ?_ AllReadyH.nil)
  intro K' hK
  rw [if_pos (by rfl)]
  go_wp2_with fail
  refine (wr_any p s _).mono ?_
  rintro e w1 ⟨rfl,hb1⟩
  go_wp2_with fail
  refine hK.out _ _ (heap_below hb1 hS) ?_
  clear hK K' hS
  intro hS
  refine wpAnyH_ready (rs:=[3]) (by kernel_rfl) (by simp) (AllReadyH.cons (by rfl) ?_ AllReadyH.nil)
  intro K' hK
  rw [if_pos (by rfl)]
  go_wp2_with fail
  refine (same_any p (wrP p) s (wrS p s) B _ (HP.out.to hB (by (repeat (first | assumption | exact Below.refl _ _ | exact (Below.refl _ _).alloc (Nat.le_refl _) _ | (refine thn ?_ (by assumption)) | (refine alB ?_ _) | (refine dwN ?_ _) | (refine Below.drew ?_))))) (HQ.out.to hB (by (repeat (first | assumption | exact Below.refl _ _ | exact (Below.refl _ _).alloc (Nat.le_refl _) _ | (refine thn ?_ (by assumption)) | (refine alB ?_ _) | (refine dwN ?_ _) | (refine Below.drew ?_))))) (by have:=hb1.size;simp at this;omega) c8 c9).mono ?_
  rintro e w2 ⟨rfl,hb2⟩
  go_wp2_with fail
  refine hK.out _ _ (heap_below hb2 hS) ?_
  clear hK K' hS
  intro hS
  refine wpAnyH_ready (rs:=[4]) (by kernel_rfl) (by simp) (AllReadyH.cons (by rfl) ?_ AllReadyH.nil)
  intro K' hK
  rw [if_pos (by rfl)]
  go_wp2_with fail
  refine hK.out _ _ hS ?_
  clear hK K' hS
  intro hS
  refine wpAnyH_ready (rs:=[5]) (by kernel_rfl) (by simp) (AllReadyH.cons (by rfl) ?_ AllReadyH.nil)
  intro K' hK
  rw [if_neg (Bool.eq_false_iff.1 (by rfl))]
  refine hK.out _ _ hS ?_
  clear hK K' hS
  intro hS
  refine wpAnyH_ready (rs:=[6]) (by kernel_rfl) (by simp) (AllReadyH.cons (by rfl) ?_ AllReadyH.nil)
  intro K' hK
  rw [if_neg (Bool.eq_false_iff.1 (by rfl))]
  refine hK.out _ _ hS ?_
  clear hK K' hS
  intro hS
  refine wpAnyH_ready (rs:=[7]) (by kernel_rfl) (by simp) (AllReadyH.cons (by rfl) ?_ AllReadyH.nil)
  intro K' hK
  rw [if_neg (Bool.eq_false_iff.1 (by rfl))]
  refine hK.out _ _ hS ?_
  clear hK K' hS
  intro hS
  refine wpAnyH_ready (rs:=[8]) (by kernel_rfl) (by simp) (AllReadyH.cons (by rfl) ?_ AllReadyH.nil)
  intro K' hK
  rw [if_pos (by rfl)]
  go_wp2_with fail
  refine hK.out _ _ hS ?_
  clear hK K' hS
  intro hS
  refine wpAnyH_ready (rs:=[9]) (by kernel_rfl) (by simp) (AllReadyH.cons (by rfl) ?_ AllReadyH.nil)
  intro K' hK
  rw [if_pos (by rfl)]
  go_wp2_with fail
  refine hK.out _ _ hS ?_
  clear hK K' hS
  intro hS
  refine wpAnyH_ready (rs:=[10]) (by kernel_rfl) (by simp) (AllReadyH.cons (by rfl) ?_ AllReadyH.nil)
  intro K' hK
  rw [if_neg (Bool.eq_false_iff.1 (by rfl))]
  refine hK.out _ _ hS ?_
  clear hK K' hS
  intro hS
  refine wpAnyH_ready (rs:=[11]) (by kernel_rfl) (by simp) (AllReadyH.cons (by rfl) ?_ AllReadyH.nil)
  intro K' hK
  rw [if_neg (Bool.eq_false_iff.1 (by rfl))]
  refine hK.out _ _ hS ?_
  clear hK K' hS
  intro hS
  refine wpAnyH_ready (rs:=[12]) (by kernel_rfl) (by simp) (AllReadyH.cons (by rfl) ?_ AllReadyH.nil)
  intro K' hK
  rw [if_pos (by rfl)]
  go_wp2_with fail
  refine hK.out _ _ hS ?_
  clear hK K' hS
  intro hS
  refine wpAnyH_ready (rs:=[13]) (by kernel_rfl) (by simp) (AllReadyH.cons (by rfl) ?_ AllReadyH.nil)
  intro K' hK
  rw [if_pos (by rfl)]
  go_wp2_with fail
  refine hK.out _ _ hS ?_
  clear hK K' hS
  intro hS
  refine wpAnyH_done (by kernel_rfl) ?_ _
  go_wp2_with fail
  go_ret
  exact ⟨ret_bool (by unfold rightP;simp [*]),by (repeat (first | assumption | exact Below.refl _ _ | exact (Below.refl _ _).alloc (Nat.le_refl _) _ | (refine thn ?_ (by assumption)) | (refine alB ?_ _) | (refine dwN ?_ _) | (refine Below.drew ?_)))⟩
 rcases e2:decide (lenP p≤8192) with _ | _
 ·go_enter Try.func19,Try.ntmps19
  go_wp2_with fail
  refine wp_region_held_drew (S:=fun W=>W.heap[w.heap.size]? = some (.cells (pkC p s) 28 (0,0))) (by rfl) (heap_alloc_last _ _) ?_
  intro hS
  refine tkH 0 (pkV p s) hS ?_ (hy:=.inl ⟨by rfl,fun W hW=>ld_exec rfl rfl hW rfl⟩)
  refine tkH 1 (pkV p s) hS ?_ (hy:=.inl ⟨by rfl,fun W hW=>ld_exec rfl rfl hW rfl⟩)
  refine wpAnyH_ready (rs:=[2]) (by kernel_rfl) (by simp) (AllReadyH.cons (by rfl) ?_ AllReadyH.nil)
  intro K' hK
  rw [if_pos (by rfl)]
  go_wp2_with fail
  refine (wr_any p s _).mono ?_
  rintro e w1 ⟨rfl,hb1⟩
  go_wp2_with fail
  refine hK.out _ _ (heap_below hb1 hS) ?_
  clear hK K' hS
  intro hS
  refine wpAnyH_ready (rs:=[3]) (by kernel_rfl) (by simp) (AllReadyH.cons (by rfl) ?_ AllReadyH.nil)
  intro K' hK
  rw [if_pos (by rfl)]
  go_wp2_with fail
  refine (same_any p (wrP p) s (wrS p s) B _ (HP.out.to hB (by (repeat (first | assumption | exact Below.refl _ _ | exact (Below.refl _ _).alloc (Nat.le_refl _) _ | (refine thn ?_ (by assumption)) | (refine alB ?_ _) | (refine dwN ?_ _) | (refine Below.drew ?_))))) (HQ.out.to hB (by (repeat (first | assumption | exact Below.refl _ _ | exact (Below.refl _ _).alloc (Nat.le_refl _) _ | (refine thn ?_ (by assumption)) | (refine alB ?_ _) | (refine dwN ?_ _) | (refine Below.drew ?_))))) (by have:=hb1.size;simp at this;omega) c8 c9).mono ?_
  rintro e w2 ⟨rfl,hb2⟩
  go_wp2_with fail
  refine hK.out _ _ (heap_below hb2 hS) ?_
  clear hK K' hS
  intro hS
  refine wpAnyH_ready (rs:=[4]) (by kernel_rfl) (by simp) (AllReadyH.cons (by rfl) ?_ AllReadyH.nil)
  intro K' hK
  rw [if_pos (by rfl)]
  go_wp2_with fail
  refine hK.out _ _ hS ?_
  clear hK K' hS
  intro hS
  refine wpAnyH_ready (rs:=[5]) (by kernel_rfl) (by simp) (AllReadyH.cons (by rfl) ?_ AllReadyH.nil)
  intro K' hK
  rw [if_pos (by rfl)]
  refine wp_load_row 28 _ (by rfl) w.heap.size (by rfl) _ _ _ _ hS Try.underlying28 (by rfl) (by exact pk_sz) ?_
  refine hK.out _ _ hS ?_
  clear hK K' hS
  intro hS
  refine wpAnyH_ready (rs:=[6]) (by kernel_rfl) (by simp) (AllReadyH.cons (by rfl) ?_ AllReadyH.nil)
  intro K' hK
  rw [if_pos (by rfl)]
  go_wp2_with fail
  refine (len_any p s B _ (HP.out.to hB (by (repeat (first | assumption | exact Below.refl _ _ | exact (Below.refl _ _).alloc (Nat.le_refl _) _ | (refine thn ?_ (by assumption)) | (refine alB ?_ _) | (refine dwN ?_ _) | (refine Below.drew ?_))))) (by have:=hb1.size;have:=hb2.size;simp at *;omega) OK.out).mono ?_
  rintro e w3 ⟨rfl,hb3⟩
  go_wp2_with fail
  refine hK.out _ _ (heap_below hb3 hS) ?_
  clear hK K' hS
  intro hS
  refine wpAnyH_ready (rs:=[7]) (by kernel_rfl) (by simp) (AllReadyH.cons (by rfl) ?_ AllReadyH.nil)
  intro K' hK
  rw [if_pos (by rfl)]
  go_wp2_with fail
  refine hK.out _ _ hS ?_
  clear hK K' hS
  intro hS
  refine wpAnyH_ready (rs:=[8]) (by kernel_rfl) (by simp) (AllReadyH.cons (by rfl) ?_ AllReadyH.nil)
  intro K' hK
  rw [if_pos (by rfl)]
  go_wp2_with fail
  refine hK.out _ _ hS ?_
  clear hK K' hS
  intro hS
  refine wpAnyH_ready (rs:=[9]) (by kernel_rfl) (by simp) (AllReadyH.cons (by rfl) ?_ AllReadyH.nil)
  intro K' hK
  rw [if_pos (by rfl)]
  go_wp2_with fail
  refine hK.out _ _ hS ?_
  clear hK K' hS
  intro hS
  refine wpAnyH_ready (rs:=[10]) (by kernel_rfl) (by simp) (AllReadyH.cons (by rfl) ?_ AllReadyH.nil)
  intro K' hK
  rw [if_neg (Bool.eq_false_iff.1 (by rfl))]
  refine hK.out _ _ hS ?_
  clear hK K' hS
  intro hS
  refine wpAnyH_ready (rs:=[11]) (by kernel_rfl) (by simp) (AllReadyH.cons (by rfl) ?_ AllReadyH.nil)
  intro K' hK
  rw [if_neg (Bool.eq_false_iff.1 (by rfl))]
  refine hK.out _ _ hS ?_
  clear hK K' hS
  intro hS
  refine wpAnyH_ready (rs:=[12]) (by kernel_rfl) (by simp) (AllReadyH.cons (by rfl) ?_ AllReadyH.nil)
  intro K' hK
  rw [if_pos (by rfl)]
  go_wp2_with fail
  refine hK.out _ _ hS ?_
  clear hK K' hS
  intro hS
  refine wpAnyH_ready (rs:=[13]) (by kernel_rfl) (by simp) (AllReadyH.cons (by rfl) ?_ AllReadyH.nil)
  intro K' hK
  rw [if_pos (by rfl)]
  go_wp2_with fail
  refine hK.out _ _ hS ?_
  clear hK K' hS
  intro hS
  refine wpAnyH_done (by kernel_rfl) ?_ _
  go_wp2_with fail
  go_ret
  exact ⟨ret_bool (by unfold rightP;simp [*]),by (repeat (first | assumption | exact Below.refl _ _ | exact (Below.refl _ _).alloc (Nat.le_refl _) _ | (refine thn ?_ (by assumption)) | (refine alB ?_ _) | (refine dwN ?_ _) | (refine Below.drew ?_)))⟩
 go_enter Try.func19,Try.ntmps19
 go_wp2_with fail
 refine wp_region_held_drew (S:=fun W=>W.heap[w.heap.size]? = some (.cells (pkC p s) 28 (0,0))) (by rfl) (heap_alloc_last _ _) ?_
 intro hS
 refine tkH 0 (pkV p s) hS ?_ (hy:=.inl ⟨by rfl,fun W hW=>ld_exec rfl rfl hW rfl⟩)
 refine tkH 1 (pkV p s) hS ?_ (hy:=.inl ⟨by rfl,fun W hW=>ld_exec rfl rfl hW rfl⟩)
 refine wpAnyH_ready (rs:=[2]) (by kernel_rfl) (by simp) (AllReadyH.cons (by rfl) ?_ AllReadyH.nil)
 intro K' hK
 rw [if_pos (by rfl)]
 go_wp2_with fail
 refine (wr_any p s _).mono ?_
 rintro e w1 ⟨rfl,hb1⟩
 go_wp2_with fail
 refine hK.out _ _ (heap_below hb1 hS) ?_
 clear hK K' hS
 intro hS
 refine wpAnyH_ready (rs:=[3]) (by kernel_rfl) (by simp) (AllReadyH.cons (by rfl) ?_ AllReadyH.nil)
 intro K' hK
 rw [if_pos (by rfl)]
 go_wp2_with fail
 refine (same_any p (wrP p) s (wrS p s) B _ (HP.out.to hB (by (repeat (first | assumption | exact Below.refl _ _ | exact (Below.refl _ _).alloc (Nat.le_refl _) _ | (refine thn ?_ (by assumption)) | (refine alB ?_ _) | (refine dwN ?_ _) | (refine Below.drew ?_))))) (HQ.out.to hB (by (repeat (first | assumption | exact Below.refl _ _ | exact (Below.refl _ _).alloc (Nat.le_refl _) _ | (refine thn ?_ (by assumption)) | (refine alB ?_ _) | (refine dwN ?_ _) | (refine Below.drew ?_))))) (by have:=hb1.size;simp at this;omega) c8 c9).mono ?_
 rintro e w2 ⟨rfl,hb2⟩
 go_wp2_with fail
 refine hK.out _ _ (heap_below hb2 hS) ?_
 clear hK K' hS
 intro hS
 refine wpAnyH_ready (rs:=[4]) (by kernel_rfl) (by simp) (AllReadyH.cons (by rfl) ?_ AllReadyH.nil)
 intro K' hK
 rw [if_pos (by rfl)]
 go_wp2_with fail
 refine hK.out _ _ hS ?_
 clear hK K' hS
 intro hS
 refine wpAnyH_ready (rs:=[5]) (by kernel_rfl) (by simp) (AllReadyH.cons (by rfl) ?_ AllReadyH.nil)
 intro K' hK
 rw [if_pos (by rfl)]
 refine wp_load_row 28 _ (by rfl) w.heap.size (by rfl) _ _ _ _ hS Try.underlying28 (by rfl) (by exact pk_sz) ?_
 refine hK.out _ _ hS ?_
 clear hK K' hS
 intro hS
 refine wpAnyH_ready (rs:=[6]) (by kernel_rfl) (by simp) (AllReadyH.cons (by rfl) ?_ AllReadyH.nil)
 intro K' hK
 rw [if_pos (by rfl)]
 go_wp2_with fail
 refine (len_any p s B _ (HP.out.to hB (by (repeat (first | assumption | exact Below.refl _ _ | exact (Below.refl _ _).alloc (Nat.le_refl _) _ | (refine thn ?_ (by assumption)) | (refine alB ?_ _) | (refine dwN ?_ _) | (refine Below.drew ?_))))) (by have:=hb1.size;have:=hb2.size;simp at *;omega) OK.out).mono ?_
 rintro e w3 ⟨rfl,hb3⟩
 go_wp2_with fail
 refine hK.out _ _ (heap_below hb3 hS) ?_
 clear hK K' hS
 intro hS
 refine wpAnyH_ready (rs:=[7]) (by kernel_rfl) (by simp) (AllReadyH.cons (by rfl) ?_ AllReadyH.nil)
 intro K' hK
 rw [if_pos (by rfl)]
 go_wp2_with fail
 refine hK.out _ _ hS ?_
 clear hK K' hS
 intro hS
 refine wpAnyH_ready (rs:=[8]) (by kernel_rfl) (by simp) (AllReadyH.cons (by rfl) ?_ AllReadyH.nil)
 intro K' hK
 rw [if_pos (by rfl)]
 go_wp2_with fail
 refine hK.out _ _ hS ?_
 clear hK K' hS
 intro hS
 refine wpAnyH_ready (rs:=[9]) (by kernel_rfl) (by simp) (AllReadyH.cons (by rfl) ?_ AllReadyH.nil)
 intro K' hK
 rw [if_pos (by rfl)]
 go_wp2_with fail
 refine hK.out _ _ hS ?_
 clear hK K' hS
 intro hS
 refine wpAnyH_ready (rs:=[10]) (by kernel_rfl) (by simp) (AllReadyH.cons (by rfl) ?_ AllReadyH.nil)
 intro K' hK
 rw [if_pos (by rfl)]
 refine wp_load_row 28 _ (by rfl) w.heap.size (by rfl) _ _ _ _ hS Try.underlying28 (by rfl) (by exact pk_sz) ?_
 refine hK.out _ _ hS ?_
 clear hK K' hS
 intro hS
 refine wpAnyH_ready (rs:=[11]) (by kernel_rfl) (by simp) (AllReadyH.cons (by rfl) ?_ AllReadyH.nil)
 intro K' hK
 rw [if_pos (by rfl)]
 go_wp2_with fail
 refine (fits_any p s B _ (HP.out.to hB (by (repeat (first | assumption | exact Below.refl _ _ | exact (Below.refl _ _).alloc (Nat.le_refl _) _ | (refine thn ?_ (by assumption)) | (refine alB ?_ _) | (refine dwN ?_ _) | (refine Below.drew ?_))))) (by have:=hb1.size;have:=hb2.size;have:=hb3.size;simp at *;omega) OK.out).mono ?_
 rintro e w4 ⟨rfl,hb4⟩
 go_wp2_with fail
 refine hK.out _ _ (heap_below hb4 hS) ?_
 clear hK K' hS
 intro hS
 refine wpAnyH_ready (rs:=[12]) (by kernel_rfl) (by simp) (AllReadyH.cons (by rfl) ?_ AllReadyH.nil)
 intro K' hK
 rw [if_pos (by rfl)]
 go_wp2_with fail
 refine hK.out _ _ hS ?_
 clear hK K' hS
 intro hS
 refine wpAnyH_ready (rs:=[13]) (by kernel_rfl) (by simp) (AllReadyH.cons (by rfl) ?_ AllReadyH.nil)
 intro K' hK
 rw [if_pos (by rfl)]
 go_wp2_with fail
 refine hK.out _ _ hS ?_
 clear hK K' hS
 intro hS
 refine wpAnyH_done (by kernel_rfl) ?_ _
 go_wp2_with fail
 go_ret
 exact ⟨ret_bool (by unfold rightP;simp [*]),by (repeat (first | assumption | exact Below.refl _ _ | exact (Below.refl _ _).alloc (Nat.le_refl _) _ | (refine thn ?_ (by assumption)) | (refine alB ?_ _) | (refine dwN ?_ _) | (refine Below.drew ?_)))⟩
theorem inI_iff {n a b:Int}:inI n a b=true↔a≤n∧n≤b:=by unfold inI;simp
theorem slen_ge (l:List (ByteArray×Int)):∀x ∈ l,(x.1.size:Int)+2≤slenP l:=by
 unfold slenP
 induction l with
 | nil=>simp
 | cons y l ih =>
  intro x hx
  have h0:(0:Int)≤(l.map fun x=>2+(x.1.size:Int)).sum:=by
   clear ih hx
   induction l with
   | nil=>simp
   | cons z l ih=>simp only [List.map_cons,List.sum_cons];omega
  simp only [List.map_cons,List.sum_cons]
  rcases List.mem_cons.1 hx with rfl | hx
  ·omega
  ·have:=ih x hx;omega
theorem slen_len (l:List (ByteArray×Int)):2*(l.length:Int)≤slenP l:=by
 unfold slenP
 induction l with
 | nil=>simp
 | cons y l ih=>simp only [List.map_cons,List.sum_cons,List.length_cons];omega
theorem subsL_len (q:Bool)(l:List (ByteArray×Int)):((subsL q l).length:Int)=slenP l+(if q then (l.length:Int) else 0):=by
 unfold subsL slenP
 induction l with
 | nil=>simp
 | cons y l ih =>
  simp only [List.flatMap_cons,List.length_append,List.map_cons,List.sum_cons,List.length_cons,subL,textL,pairL_len]
  cases q <;> simp at * <;> omega
theorem sfits_mem {m:Int}{l:List (ByteArray×Int)}(h:sfitsP m l=true):∀x ∈ l,txt x.1=true∧0≤x.2∧x.2≤m:=by
 intro x hx
 have:=List.all_eq_true.1 h x hx
 rw [Bool.and_eq_true,inI_iff] at this
 exact this
theorem cdfits_mem {l:List Int}(h:cdfitsP l=true):∀x ∈ l,0≤x∧x≤255:=by
 intro x hx
 have:=List.all_eq_true.1 h x hx
 rw [Bool.or_eq_true,inI_iff,beq_iff_eq] at this
 omega
structure RF (p:Pk):Prop where
 kind:1≤p.kind∧p.kind≤14
 len:0≤lenP p∧lenP p≤8192
 qos:0≤p.qos∧p.qos≤2
 id:0≤p.id∧p.id≤65535
 level:0≤p.level∧p.level≤255
 keep:0≤p.keep∧p.keep≤65535
 wqos:0≤p.wqos∧p.wqos≤2
 code:0≤p.code∧p.code≤5
 top:p.top.size≤65535
 pay:p.pay.length≤65535
 cli:p.cli.size≤65535
 wtop:p.wtop.size≤65535
 wpay:p.wpay.length≤65535
 user:p.user.size≤65535
 pass:p.pass.length≤65535
 subs:p.subs.length≤65535
 sub:∀x ∈ p.subs,x.1.size≤65535∧0≤x.2∧x.2≤255
 subsL:∀q,(subsL q p.subs).length≤100000
 codes:p.codes.length≤65535
 cod:∀x ∈ p.codes,0≤x∧x≤255
theorem wr_f {p:Pk}(h:p=wrP p):p.qos=(wrP p).qos∧p.id=(wrP p).id∧p.level=(wrP p).level∧p.keep=(wrP p).keep∧p.wqos=(wrP p).wqos∧p.code=(wrP p).code∧p.top=(wrP p).top∧p.pay=(wrP p).pay∧p.cli=(wrP p).cli∧p.wtop=(wrP p).wtop∧p.wpay=(wrP p).wpay∧p.user=(wrP p).user∧p.pass=(wrP p).pass∧p.subs=(wrP p).subs∧p.codes=(wrP p).codes :=
 ⟨congrArg Pk.qos h,congrArg Pk.id h,congrArg Pk.level h,congrArg Pk.keep h,congrArg Pk.wqos h,congrArg Pk.code h,congrArg Pk.top h,congrArg Pk.pay h,congrArg Pk.cli h,congrArg Pk.wtop h,congrArg Pk.wpay h,congrArg Pk.user h,congrArg Pk.pass h,congrArg Pk.subs h,congrArg Pk.codes h⟩
theorem right_f (p:Pk)(h:rightP p=true):RF p:=by
 simp only [rightP,Bool.and_eq_true,decide_eq_true_iff] at h
 obtain ⟨⟨h1,h2⟩,h3⟩:=h
 obtain ⟨f1,f2,f3,f4,f5,f6,f7,f8,f9,f10,f11,f12,f13,f14,f15⟩:=wr_f h1
 clear h1
 rcases kf p.kind with ⟨k1,k2,k3,k4,k5,k6,k7,k8,k9,k10,k11,k12,k13,k14⟩ | ⟨k1,k2,k3,k4,k5,k6,k7,k8,k9,k10,k11,k12,k13,k14⟩ | ⟨k1,k2,k3,k4,k5,k6,k7,k8,k9,k10,k11,k12,k13,k14⟩ | ⟨k1,k2,k3,k4,k5,k6,k7,k8,k9,k10,k11,k12,k13,k14⟩ | ⟨k1,k2,k3,k4,k5,k6,k7,k8,k9,k10,k11,k12,k13,k14⟩ | ⟨k1,k2,k3,k4,k5,k6,k7,k8,k9,k10,k11,k12,k13,k14⟩ | ⟨k1,k2,k3,k4,k5,k6,k7,k8,k9,k10,k11,k12,k13,k14⟩ | ⟨k1,k2,k3,k4,k5,k6,k7,k8,k9,k10,k11,k12,k13,k14⟩ | ⟨k1,k2,k3,k4,k5,k6,k7,k8,k9,k10,k11,k12,k13,k14⟩ | ⟨k1,k2,k3,k4,k5,k6,k7,k8,k9,k10,k11,k12,k13,k14⟩ | ⟨k1,k2,k3,k4,k5,k6,k7,k8,k9,k10,k11,k12,k13,k14⟩ | ⟨k1,k2,k3,k4,k5,k6,k7,k8,k9,k10,k11,k12,k13,k14⟩ | ⟨k1,k2,k3,k4,k5,k6,k7,k8,k9,k10,k11,k12,k13,k14⟩ | ⟨k1,k2,k3,k4,k5,k6,k7,k8,k9,k10,k11,k12,k13,k14⟩ | ⟨k1,k2,k3,k4,k5,k6,k7,k8,k9,k10,k11,k12,k13,k14⟩
 ·have hk:p.kind=1:=by simpa using k1
  simp [wrP,k1,pk0] at f1 f2 f3 f4 f5 f6 f7 f8 f9 f10 f11 f12 f13 f14 f15
  simp [lenP,k1,clenP] at h2
  simp [fitsP,k1,cfitsP,inI_iff] at h3
  have hl:lenP p=clenP p:=by simp [lenP,k1]
  rcases e1:p.hw with _ | _ <;> rcases e2:p.hu with _ | _ <;> rcases e3:p.hp with _ | _
  all_goals
   simp [e1,e2,e3] at f5 f10 f11 f12 f13 h2
   have hl2:0≤lenP p∧lenP p≤8192:=by rw [hl];simp [clenP,e1,e2,e3];omega
   refine ⟨?_,?_,?_,?_,?_,?_,?_,?_,?_,?_,?_,?_,?_,?_,?_,?_,?_,?_,?_,?_⟩ <;> first | assumption | omega | (simp [*];done) | (simp [*];omega) | (intro q;simp [f14,subsL])
 ·have hk:p.kind=2:=by simpa using k2
  simp [wrP,k1,k2,pk0] at f1 f2 f3 f4 f5 f6 f7 f8 f9 f10 f11 f12 f13 f14 f15
  have hl:=h2
  simp only [lenP,k1,k2] at hl
  simp [fitsP,k1,k2,inI_iff] at h3
  obtain ⟨g1,g2⟩:=h3
  have hl2:0≤lenP p∧lenP p≤8192:=⟨by simp [lenP,k1,k2],h2⟩
  refine ⟨?_,?_,?_,?_,?_,?_,?_,?_,?_,?_,?_,?_,?_,?_,?_,?_,?_,?_,?_,?_⟩ <;> first | assumption | omega | (simp [*];done) | (simp [*];omega) | (intro q;simp [f14,subsL])
 ·have hk:p.kind=3:=by simpa using k3
  simp [wrP,k1,k2,k3,pk0] at f1 f2 f3 f4 f5 f6 f7 f8 f9 f10 f11 f12 f13 f14 f15
  have hl:=h2
  simp only [lenP,k1,k2,k3] at hl
  simp [fitsP,k1,k2,k3,pfitsP,inI_iff] at h3
  obtain ⟨⟨g1,g2⟩,g3⟩:=h3
  have hl2:0≤lenP p∧lenP p≤8192:=⟨by simp only [lenP,k1,k2,k3];simp;split <;> omega,h2⟩
  have hi:0≤p.id∧p.id≤65535:=by
   by_cases h0:p.qos=0
   ·rw [f2 h0];omega
   ·rw [if_neg h0] at g3;omega
  have ht:p.top.size≤65535∧p.pay.length≤65535:=by simp at hl;split at hl <;> omega
  obtain ⟨ht1,ht2⟩:=ht
  refine ⟨?_,?_,?_,?_,?_,?_,?_,?_,?_,?_,?_,?_,?_,?_,?_,?_,?_,?_,?_,?_⟩ <;> first | assumption | omega | (simp [*];done) | (simp [*];omega) | (intro q;simp [f14,subsL])
 ·have hk:p.kind=4:=by simpa using k4
  simp [wrP,k1,k2,k3,k4,pk0] at f1 f2 f3 f4 f5 f6 f7 f8 f9 f10 f11 f12 f13 f14 f15
  have hl:=h2
  simp only [lenP,k1,k2,k3,k4] at hl
  simp [fitsP,k1,k2,k3,k4,inI_iff] at h3
  have hl2:0≤lenP p∧lenP p≤8192:=⟨by simp [lenP,k1,k2,k3,k4],h2⟩
  have hi:0≤p.id∧p.id≤65535:=by omega
  refine ⟨?_,?_,?_,?_,?_,?_,?_,?_,?_,?_,?_,?_,?_,?_,?_,?_,?_,?_,?_,?_⟩ <;> first | assumption | omega | (simp [*];done) | (simp [*];omega) | (intro q;simp [f14,subsL])
 ·have hk:p.kind=5:=by simpa using k5
  simp [wrP,k1,k2,k3,k4,k5,pk0] at f1 f2 f3 f4 f5 f6 f7 f8 f9 f10 f11 f12 f13 f14 f15
  have hl:=h2
  simp only [lenP,k1,k2,k3,k4,k5] at hl
  simp [fitsP,k1,k2,k3,k4,k5,inI_iff] at h3
  have hl2:0≤lenP p∧lenP p≤8192:=⟨by simp [lenP,k1,k2,k3,k4,k5],h2⟩
  have hi:0≤p.id∧p.id≤65535:=by omega
  refine ⟨?_,?_,?_,?_,?_,?_,?_,?_,?_,?_,?_,?_,?_,?_,?_,?_,?_,?_,?_,?_⟩ <;> first | assumption | omega | (simp [*];done) | (simp [*];omega) | (intro q;simp [f14,subsL])
 ·have hk:p.kind=6:=by simpa using k6
  simp [wrP,k1,k2,k3,k4,k5,k6,pk0] at f1 f2 f3 f4 f5 f6 f7 f8 f9 f10 f11 f12 f13 f14 f15
  have hl:=h2
  simp only [lenP,k1,k2,k3,k4,k5,k6] at hl
  simp [fitsP,k1,k2,k3,k4,k5,k6,inI_iff] at h3
  have hl2:0≤lenP p∧lenP p≤8192:=⟨by simp [lenP,k1,k2,k3,k4,k5,k6],h2⟩
  have hi:0≤p.id∧p.id≤65535:=by omega
  refine ⟨?_,?_,?_,?_,?_,?_,?_,?_,?_,?_,?_,?_,?_,?_,?_,?_,?_,?_,?_,?_⟩ <;> first | assumption | omega | (simp [*];done) | (simp [*];omega) | (intro q;simp [f14,subsL])
 ·have hk:p.kind=7:=by simpa using k7
  simp [wrP,k1,k2,k3,k4,k5,k6,k7,pk0] at f1 f2 f3 f4 f5 f6 f7 f8 f9 f10 f11 f12 f13 f14 f15
  have hl:=h2
  simp only [lenP,k1,k2,k3,k4,k5,k6,k7] at hl
  simp [fitsP,k1,k2,k3,k4,k5,k6,k7,inI_iff] at h3
  have hl2:0≤lenP p∧lenP p≤8192:=⟨by simp [lenP,k1,k2,k3,k4,k5,k6,k7],h2⟩
  have hi:0≤p.id∧p.id≤65535:=by omega
  refine ⟨?_,?_,?_,?_,?_,?_,?_,?_,?_,?_,?_,?_,?_,?_,?_,?_,?_,?_,?_,?_⟩ <;> first | assumption | omega | (simp [*];done) | (simp [*];omega) | (intro q;simp [f14,subsL])
 ·have hk:p.kind=8:=by simpa using k8
  simp [wrP,k1,k2,k3,k4,k5,k6,k7,k11,k8,pk0] at f1 f2 f3 f4 f5 f6 f7 f8 f9 f10 f11 f12 f13 f14 f15
  have hl:=h2
  simp only [lenP,k1,k2,k3,k4,k5,k6,k7,k11,k8] at hl
  simp [fitsP,k1,k2,k3,k4,k5,k6,k7,k11,k8,inI_iff] at h3
  obtain ⟨g1,g2,g3⟩:=h3
  have s1:=slen_len p.subs
  have s2:=slen_ge p.subs
  have hl2:0≤lenP p∧lenP p≤8192:=⟨by simp only [lenP,k1,k2,k3,k4,k5,k6,k7,k11,k8];simp;omega,h2⟩
  have hs:slenP p.subs≤8192:=by simp at hl;omega
  have hi:0≤p.id∧p.id≤65535:=by omega
  have hsub:∀x ∈ p.subs,x.1.size≤65535∧0≤x.2∧x.2≤255:=fun x hx=>by
   have:=s2 x hx
   obtain ⟨_,m1,m2⟩:=sfits_mem g2 x hx
   omega
  have hsl:∀q,(subsL q p.subs).length≤100000:=fun q=>by
   have:=subsL_len q p.subs
   cases q <;> simp at this <;> omega
  have hn:p.subs.length≤65535:=by omega
  clear s2
  refine ⟨?_,?_,?_,?_,?_,?_,?_,?_,?_,?_,?_,?_,?_,?_,?_,?_,?_,?_,?_,?_⟩ <;> first | assumption | omega | (simp [*];done) | (simp [*];omega)
 ·have hk:p.kind=9:=by simpa using k9
  simp [wrP,k1,k2,k3,k4,k5,k6,k7,k11,k8,k10,k9,pk0] at f1 f2 f3 f4 f5 f6 f7 f8 f9 f10 f11 f12 f13 f14 f15
  have hl:=h2
  simp only [lenP,k1,k2,k3,k4,k5,k6,k7,k11,k8,k10,k9] at hl
  simp [fitsP,k1,k2,k3,k4,k5,k6,k7,k11,k8,k10,k9,inI_iff] at h3
  obtain ⟨g1,g2,g3⟩:=h3
  have hl2:0≤lenP p∧lenP p≤8192:=⟨by simp only [lenP,k1,k2,k3,k4,k5,k6,k7,k11,k8,k10,k9];simp;omega,h2⟩
  have hi:0≤p.id∧p.id≤65535:=by omega
  have hn:p.codes.length≤65535:=by simp at hl;omega
  have hc:=cdfits_mem g2
  refine ⟨?_,?_,?_,?_,?_,?_,?_,?_,?_,?_,?_,?_,?_,?_,?_,?_,?_,?_,?_,?_⟩ <;> first | assumption | omega | (simp [*];done) | (simp [*];omega) | (intro q;simp [f14,subsL])
 ·have hk:p.kind=10:=by simpa using k10
  simp [wrP,k1,k2,k3,k4,k5,k6,k7,k11,k8,k10,pk0] at f1 f2 f3 f4 f5 f6 f7 f8 f9 f10 f11 f12 f13 f14 f15
  have hl:=h2
  simp only [lenP,k1,k2,k3,k4,k5,k6,k7,k11,k8,k10] at hl
  simp [fitsP,k1,k2,k3,k4,k5,k6,k7,k11,k8,k10,inI_iff] at h3
  obtain ⟨g1,g2,g3⟩:=h3
  have s1:=slen_len p.subs
  have s2:=slen_ge p.subs
  have hl2:0≤lenP p∧lenP p≤8192:=⟨by simp only [lenP,k1,k2,k3,k4,k5,k6,k7,k11,k8,k10];simp;omega,h2⟩
  have hs:slenP p.subs≤8192:=by simp at hl;omega
  have hi:0≤p.id∧p.id≤65535:=by omega
  have hsub:∀x ∈ p.subs,x.1.size≤65535∧0≤x.2∧x.2≤255:=fun x hx=>by
   have:=s2 x hx
   obtain ⟨_,m1,m2⟩:=sfits_mem g2 x hx
   omega
  have hsl:∀q,(subsL q p.subs).length≤100000:=fun q=>by
   have:=subsL_len q p.subs
   cases q <;> simp at this <;> omega
  have hn:p.subs.length≤65535:=by omega
  clear s2
  refine ⟨?_,?_,?_,?_,?_,?_,?_,?_,?_,?_,?_,?_,?_,?_,?_,?_,?_,?_,?_,?_⟩ <;> first | assumption | omega | (simp [*];done) | (simp [*];omega)
 ·have hk:p.kind=11:=by simpa using k11
  simp [wrP,k1,k2,k3,k4,k5,k6,k7,k11,pk0] at f1 f2 f3 f4 f5 f6 f7 f8 f9 f10 f11 f12 f13 f14 f15
  have hl:=h2
  simp only [lenP,k1,k2,k3,k4,k5,k6,k7,k11] at hl
  simp [fitsP,k1,k2,k3,k4,k5,k6,k7,k11,inI_iff] at h3
  have hl2:0≤lenP p∧lenP p≤8192:=⟨by simp [lenP,k1,k2,k3,k4,k5,k6,k7,k11],h2⟩
  have hi:0≤p.id∧p.id≤65535:=by omega
  refine ⟨?_,?_,?_,?_,?_,?_,?_,?_,?_,?_,?_,?_,?_,?_,?_,?_,?_,?_,?_,?_⟩ <;> first | assumption | omega | (simp [*];done) | (simp [*];omega) | (intro q;simp [f14,subsL])
 ·have hk:p.kind=12:=by simpa using k12
  simp [wrP,k1,k2,k3,k4,k5,k6,k7,k11,k8,k10,k9,pk0] at f1 f2 f3 f4 f5 f6 f7 f8 f9 f10 f11 f12 f13 f14 f15
  have hl:=h2
  simp only [lenP,k1,k2,k3,k4,k5,k6,k7,k11,k8,k10,k9] at hl
  clear h3
  have hl2:0≤lenP p∧lenP p≤8192:=⟨by simp [lenP,k1,k2,k3,k4,k5,k6,k7,k11,k8,k10,k9],h2⟩
  refine ⟨?_,?_,?_,?_,?_,?_,?_,?_,?_,?_,?_,?_,?_,?_,?_,?_,?_,?_,?_,?_⟩ <;> first | assumption | omega | (simp [*];done) | (simp [*];omega) | (intro q;simp [f14,subsL])
 ·have hk:p.kind=13:=by simpa using k13
  simp [wrP,k1,k2,k3,k4,k5,k6,k7,k11,k8,k10,k9,pk0] at f1 f2 f3 f4 f5 f6 f7 f8 f9 f10 f11 f12 f13 f14 f15
  have hl:=h2
  simp only [lenP,k1,k2,k3,k4,k5,k6,k7,k11,k8,k10,k9] at hl
  clear h3
  have hl2:0≤lenP p∧lenP p≤8192:=⟨by simp [lenP,k1,k2,k3,k4,k5,k6,k7,k11,k8,k10,k9],h2⟩
  refine ⟨?_,?_,?_,?_,?_,?_,?_,?_,?_,?_,?_,?_,?_,?_,?_,?_,?_,?_,?_,?_⟩ <;> first | assumption | omega | (simp [*];done) | (simp [*];omega) | (intro q;simp [f14,subsL])
 ·have hk:p.kind=14:=by simpa using k14
  simp [wrP,k1,k2,k3,k4,k5,k6,k7,k11,k8,k10,k9,pk0] at f1 f2 f3 f4 f5 f6 f7 f8 f9 f10 f11 f12 f13 f14 f15
  have hl:=h2
  simp only [lenP,k1,k2,k3,k4,k5,k6,k7,k11,k8,k10,k9] at hl
  clear h3
  have hl2:0≤lenP p∧lenP p≤8192:=⟨by simp [lenP,k1,k2,k3,k4,k5,k6,k7,k11,k8,k10,k9],h2⟩
  refine ⟨?_,?_,?_,?_,?_,?_,?_,?_,?_,?_,?_,?_,?_,?_,?_,?_,?_,?_,?_,?_⟩ <;> first | assumption | omega | (simp [*];done) | (simp [*];omega) | (intro q;simp [f14,subsL])
 ·simp [fitsP,k1,k2,k3,k4,k5,k6,k7,k8,k9,k10,k11,k12,k13,k14] at h3
def refRP (p:Pk):Bool :=
 inI p.kind 1 14 && decide (p=onP p) && (!numP p || inI p.id 1 65535) && inI p.qos 0 2 && rtxt p.top && rtxt p.cli && rtxt p.user && rtxt p.wtop && inI p.wqos 0 2 && decide (p.wpay.length≤65535) && decide (p.pass.length≤65535) && inI p.level 0 255 && inI p.keep 0 65535 && (!p.hp || p.hu) && inI p.code 0 5 && (!p.pres || p.code==0) && p.subs.all (fun x=>rtxt x.1 && inI x.2 0 2 && !(p.kind==10 && x.2 != 0)) && cdfitsP p.codes && !((p.kind==8 || p.kind==10) && p.subs.length==0) && !(p.kind==9 && p.codes.length==0) && decide (lenP p≤8192)
theorem txt_empty:txt ByteArray.empty=true:=by
 unfold txt chkL
 rw [show ByteArray.empty.data.toList=[] from rfl,ps_nil]
 rfl
theorem cdfits_nil:cdfitsP []=true:=rfl
theorem rtxt_of {s:ByteArray}(h:s.size≤65535):rtxt s=txt s:=by unfold rtxt;simp [h]
theorem ref_of_right (p:Pk)(h:rightP p=true):refRP p=true:=by
 have f:=right_f p h
 simp only [rightP,Bool.and_eq_true,decide_eq_true_iff] at h
 obtain ⟨⟨h1,h2⟩,h3⟩:=h
 obtain ⟨f1,f2,f3,f4,f5,f6,f7,f8,f9,f10,f11,f12,f13,f14,f15⟩:=wr_f h1
 have f16:p.hp=(wrP p).hp:=congrArg Pk.hp h1
 have f17:p.pres=(wrP p).pres:=congrArg Pk.pres h1
 have t1:=rtxt_of f.top
 have t2:=rtxt_of f.cli
 have t3:=rtxt_of f.user
 have t4:=rtxt_of f.wtop
 obtain ⟨g1,g2,g3,g4,g5,g6,g7,g8,g9,g10,g11,g12,g13,g14,g15,g16,g17,g18,g19,g20⟩:=f
 have ho:p=onP p:=by
  by_cases k:p.kind=3
  ·have k3:(p.kind==3)=true:=by simpa using k
   have k1:(p.kind==1)=false:=by simp [k]
   have k2:(p.kind==2)=false:=by simp [k]
   have e:onP p=wrP p:=by
    simp only [fitsP,k1,k2,k3,pfitsP] at h3
    simp only [onP,wrP,k1,k2,k3]
    by_cases q:p.qos=0
    ·have q1:(p.qos==0)=true:=by simpa using q
     simp [q1] at h3
     simp [q,h3]
    ·have q1:(p.qos==0)=false:=by simpa using q
     have q2:0<p.qos:=by omega
     simp [q1,q2]
   rw [e];exact h1
  ·unfold onP;rw [if_neg (by simpa using k)];exact h1
 have HO:=decide_eq_true ho
 unfold refRP
 rw [HO,t1,t2,t3,t4]
 have ts:∀x ∈ p.subs,rtxt x.1=txt x.1:=fun x hx=>rtxt_of (g17 x hx).1
 clear h1 ho HO t1 t2 t3 t4
 rcases kf p.kind with ⟨k1,k2,k3,k4,k5,k6,k7,k8,k9,k10,k11,k12,k13,k14⟩ | ⟨k1,k2,k3,k4,k5,k6,k7,k8,k9,k10,k11,k12,k13,k14⟩ | ⟨k1,k2,k3,k4,k5,k6,k7,k8,k9,k10,k11,k12,k13,k14⟩ | ⟨k1,k2,k3,k4,k5,k6,k7,k8,k9,k10,k11,k12,k13,k14⟩ | ⟨k1,k2,k3,k4,k5,k6,k7,k8,k9,k10,k11,k12,k13,k14⟩ | ⟨k1,k2,k3,k4,k5,k6,k7,k8,k9,k10,k11,k12,k13,k14⟩ | ⟨k1,k2,k3,k4,k5,k6,k7,k8,k9,k10,k11,k12,k13,k14⟩ | ⟨k1,k2,k3,k4,k5,k6,k7,k8,k9,k10,k11,k12,k13,k14⟩ | ⟨k1,k2,k3,k4,k5,k6,k7,k8,k9,k10,k11,k12,k13,k14⟩ | ⟨k1,k2,k3,k4,k5,k6,k7,k8,k9,k10,k11,k12,k13,k14⟩ | ⟨k1,k2,k3,k4,k5,k6,k7,k8,k9,k10,k11,k12,k13,k14⟩ | ⟨k1,k2,k3,k4,k5,k6,k7,k8,k9,k10,k11,k12,k13,k14⟩ | ⟨k1,k2,k3,k4,k5,k6,k7,k8,k9,k10,k11,k12,k13,k14⟩ | ⟨k1,k2,k3,k4,k5,k6,k7,k8,k9,k10,k11,k12,k13,k14⟩ | ⟨k1,k2,k3,k4,k5,k6,k7,k8,k9,k10,k11,k12,k13,k14⟩
 ·have hk:p.kind=1:=by simpa using k1
  simp [wrP,k1,pk0] at f1 f2 f3 f4 f5 f6 f7 f8 f9 f10 f11 f12 f13 f14 f15 f16 f17
  simp [fitsP,k1,cfitsP,inI_iff] at h3
  simp [inI_iff,f1,f2,f6,f7,f14,f15,f17,txt_empty,numP,hk,cdfits_nil,h3,g13,h2]
  refine ⟨g15,?_⟩
  have q:=h3.2
  revert q
  cases p.hp <;> cases p.hu <;> simp
 ·have hk:p.kind=2:=by simpa using k2
  simp [wrP,k1,k2,pk0] at f1 f2 f3 f4 f5 f6 f7 f8 f9 f10 f11 f12 f13 f14 f15 f16 f17
  simp [fitsP,k1,k2,inI_iff] at h3
  simp [*,inI_iff,txt_empty,numP,cdfits_nil]
  exact h3.2.symm
 ·have hk:p.kind=3:=by simpa using k3
  simp [wrP,k1,k2,k3,pk0] at f1 f2 f3 f4 f5 f6 f7 f8 f9 f10 f11 f12 f13 f14 f15 f16 f17
  simp [fitsP,k1,k2,k3,pfitsP,inI_iff] at h3
  obtain ⟨⟨q1,q2⟩,q3⟩:=h3
  by_cases q:p.qos=0
  ·simp [*,inI_iff,txt_empty,numP,cdfits_nil]
  ·have q4:0<p.qos:=by omega
   rw [if_neg q] at q3
   simp [*,inI_iff,txt_empty,numP,cdfits_nil]
 ·have hk:p.kind=4:=by simpa using k4
  simp [wrP,k1,k2,k3,k4,pk0] at f1 f2 f3 f4 f5 f6 f7 f8 f9 f10 f11 f12 f13 f14 f15 f16 f17
  simp [fitsP,k1,k2,k3,k4,inI_iff] at h3
  simp [*,inI_iff,txt_empty,numP,cdfits_nil]
  all_goals (try omega)
 ·have hk:p.kind=5:=by simpa using k5
  simp [wrP,k1,k2,k3,k4,k5,pk0] at f1 f2 f3 f4 f5 f6 f7 f8 f9 f10 f11 f12 f13 f14 f15 f16 f17
  simp [fitsP,k1,k2,k3,k4,k5,inI_iff] at h3
  simp [*,inI_iff,txt_empty,numP,cdfits_nil]
  all_goals (try omega)
 ·have hk:p.kind=6:=by simpa using k6
  simp [wrP,k1,k2,k3,k4,k5,k6,pk0] at f1 f2 f3 f4 f5 f6 f7 f8 f9 f10 f11 f12 f13 f14 f15 f16 f17
  simp [fitsP,k1,k2,k3,k4,k5,k6,inI_iff] at h3
  simp [*,inI_iff,txt_empty,numP,cdfits_nil]
  all_goals (try omega)
 ·have hk:p.kind=7:=by simpa using k7
  simp [wrP,k1,k2,k3,k4,k5,k6,k7,pk0] at f1 f2 f3 f4 f5 f6 f7 f8 f9 f10 f11 f12 f13 f14 f15 f16 f17
  simp [fitsP,k1,k2,k3,k4,k5,k6,k7,inI_iff] at h3
  simp [*,inI_iff,txt_empty,numP,cdfits_nil]
  all_goals (try omega)
 ·have hk:p.kind=8:=by simpa using k8
  simp [wrP,k1,k2,k3,k4,k5,k6,k7,k11,k8,pk0] at f1 f2 f3 f4 f5 f6 f7 f8 f9 f10 f11 f12 f13 f14 f15 f16 f17
  simp [fitsP,k1,k2,k3,k4,k5,k6,k7,k11,k8,inI_iff] at h3
  have hall:(p.subs.all fun x=>rtxt x.1 && inI x.2 0 2 && !(p.kind==10 && x.2 != 0))=true:=List.all_eq_true.2 fun x hx=>by
   obtain ⟨m1,m2,m3⟩:=sfits_mem h3.2.1 x hx
   rw [ts x hx,m1]
   simp [inI_iff,hk]
   omega
  rw [hall]
  have hn:¬p.subs=[]:=by intro e;have:=h3.2.2;rw [e] at this;simp at this
  clear ts hall g17 g18
  simp [*,inI_iff,txt_empty,numP,cdfits_nil]
 ·have hk:p.kind=9:=by simpa using k9
  simp [wrP,k1,k2,k3,k4,k5,k6,k7,k11,k8,k10,k9,pk0] at f1 f2 f3 f4 f5 f6 f7 f8 f9 f10 f11 f12 f13 f14 f15 f16 f17
  simp [fitsP,k1,k2,k3,k4,k5,k6,k7,k11,k8,k10,k9,inI_iff] at h3
  have hn:¬p.codes=[]:=by intro e;have:=h3.2.2;rw [e] at this;simp at this
  clear ts g20
  simp [*,inI_iff,txt_empty,numP]
 ·have hk:p.kind=10:=by simpa using k10
  simp [wrP,k1,k2,k3,k4,k5,k6,k7,k11,k8,k10,pk0] at f1 f2 f3 f4 f5 f6 f7 f8 f9 f10 f11 f12 f13 f14 f15 f16 f17
  simp [fitsP,k1,k2,k3,k4,k5,k6,k7,k11,k8,k10,inI_iff] at h3
  have hall:(p.subs.all fun x=>rtxt x.1 && inI x.2 0 2 && !(p.kind==10 && x.2 != 0))=true:=List.all_eq_true.2 fun x hx=>by
   obtain ⟨m1,m2,m3⟩:=sfits_mem h3.2.1 x hx
   rw [ts x hx,m1]
   simp [inI_iff,hk]
   omega
  rw [hall]
  have hn:¬p.subs=[]:=by intro e;have:=h3.2.2;rw [e] at this;simp at this
  clear ts hall g17 g18
  simp [*,inI_iff,txt_empty,numP,cdfits_nil]
 ·have hk:p.kind=11:=by simpa using k11
  simp [wrP,k1,k2,k3,k4,k5,k6,k7,k11,pk0] at f1 f2 f3 f4 f5 f6 f7 f8 f9 f10 f11 f12 f13 f14 f15 f16 f17
  simp [fitsP,k1,k2,k3,k4,k5,k6,k7,k11,inI_iff] at h3
  simp [*,inI_iff,txt_empty,numP,cdfits_nil]
  all_goals (try omega)
 ·have hk:p.kind=12:=by simpa using k12
  simp [wrP,k1,k2,k3,k4,k5,k6,k7,k11,k8,k10,k9,pk0] at f1 f2 f3 f4 f5 f6 f7 f8 f9 f10 f11 f12 f13 f14 f15 f16 f17
  clear h3
  simp [*,inI_iff,txt_empty,numP,cdfits_nil]
  all_goals (try omega)
 ·have hk:p.kind=13:=by simpa using k13
  simp [wrP,k1,k2,k3,k4,k5,k6,k7,k11,k8,k10,k9,pk0] at f1 f2 f3 f4 f5 f6 f7 f8 f9 f10 f11 f12 f13 f14 f15 f16 f17
  clear h3
  simp [*,inI_iff,txt_empty,numP,cdfits_nil]
  all_goals (try omega)
 ·have hk:p.kind=14:=by simpa using k14
  simp [wrP,k1,k2,k3,k4,k5,k6,k7,k11,k8,k10,k9,pk0] at f1 f2 f3 f4 f5 f6 f7 f8 f9 f10 f11 f12 f13 f14 f15 f16 f17
  clear h3
  simp [*,inI_iff,txt_empty,numP,cdfits_nil]
  all_goals (try omega)
 ·exfalso
  simp at k1 k2 k3 k4 k5 k6 k7 k8 k9 k10 k11 k12 k13 k14
  omega
theorem txt_of {s:ByteArray}(h:rtxt s=true):txt s=true:=by unfold rtxt at h;simp at h;exact h.2
theorem right_of_ref (p:Pk)(h:refRP p=true):rightP p=true:=by
 simp only [refRP,Bool.and_eq_true,decide_eq_true_iff] at h
 obtain ⟨⟨⟨⟨⟨⟨⟨⟨⟨⟨⟨⟨⟨⟨⟨⟨⟨⟨⟨⟨a1,a2⟩,a3⟩,a4⟩,a5⟩,a6⟩,a7⟩,a8⟩,a9⟩,a10⟩,a11⟩,a12⟩,a13⟩,a14⟩,a15⟩,a16⟩,a17⟩,a18⟩,a19⟩,a20⟩,a21⟩:=h
 replace a5:=txt_of a5
 replace a6:=txt_of a6
 replace a7:=txt_of a7
 replace a8:=txt_of a8
 rw [inI_iff] at a1 a4 a9 a12 a13 a15
 have b1:p=wrP p:=by
  by_cases k:p.kind=3
  ·have k3:(p.kind==3)=true:=by simpa using k
   have k1:(p.kind==1)=false:=by simp [k]
   have k2:(p.kind==2)=false:=by simp [k]
   have hd:p.dup=(onP p).dup:=congrArg Pk.dup a2
   have e:onP p=wrP p:=by
    simp only [onP,k3] at hd
    simp only [onP,wrP,k1,k2,k3]
    by_cases q:p.qos=0
    ·simp [q] at hd
     simp [q,hd]
    ·have q1:(p.qos==0)=false:=by simpa using q
     have q2:0<p.qos:=by omega
     simp [q1,q2]
   rw [←e];exact a2
  ·have e:onP p=wrP p:=by unfold onP;rw [if_neg (by simpa using k)]
   rw [←e];exact a2
 have hd:p.kind=3→p.qos=0→p.dup=false:=fun k q=>by
  have hd:p.dup=(onP p).dup:=congrArg Pk.dup a2
  have k3:(p.kind==3)=true:=by simpa using k
  simp only [onP,k3] at hd
  simpa [q] using hd
 have hs:∀x ∈ p.subs,txt x.1=true∧0≤x.2∧x.2≤2∧(p.kind=10→x.2=0):=fun x hx=>by
  have:=List.all_eq_true.1 a17 x hx
  simp only [Bool.and_eq_true,inI_iff,Bool.not_eq_true',Bool.and_eq_false_iff] at this
  obtain ⟨⟨m1,m2⟩,m3⟩:=this
  refine ⟨txt_of m1,m2.1,m2.2,fun k=>?_⟩
  rcases m3 with m | m
  ·simp [k] at m
  ·simpa using m
 have B1:=decide_eq_true b1
 have B2:=decide_eq_true a21
 unfold rightP
 rw [B1,B2]
 clear a2 b1 B1 B2 a17
 rcases kf p.kind with ⟨k1,k2,k3,k4,k5,k6,k7,k8,k9,k10,k11,k12,k13,k14⟩ | ⟨k1,k2,k3,k4,k5,k6,k7,k8,k9,k10,k11,k12,k13,k14⟩ | ⟨k1,k2,k3,k4,k5,k6,k7,k8,k9,k10,k11,k12,k13,k14⟩ | ⟨k1,k2,k3,k4,k5,k6,k7,k8,k9,k10,k11,k12,k13,k14⟩ | ⟨k1,k2,k3,k4,k5,k6,k7,k8,k9,k10,k11,k12,k13,k14⟩ | ⟨k1,k2,k3,k4,k5,k6,k7,k8,k9,k10,k11,k12,k13,k14⟩ | ⟨k1,k2,k3,k4,k5,k6,k7,k8,k9,k10,k11,k12,k13,k14⟩ | ⟨k1,k2,k3,k4,k5,k6,k7,k8,k9,k10,k11,k12,k13,k14⟩ | ⟨k1,k2,k3,k4,k5,k6,k7,k8,k9,k10,k11,k12,k13,k14⟩ | ⟨k1,k2,k3,k4,k5,k6,k7,k8,k9,k10,k11,k12,k13,k14⟩ | ⟨k1,k2,k3,k4,k5,k6,k7,k8,k9,k10,k11,k12,k13,k14⟩ | ⟨k1,k2,k3,k4,k5,k6,k7,k8,k9,k10,k11,k12,k13,k14⟩ | ⟨k1,k2,k3,k4,k5,k6,k7,k8,k9,k10,k11,k12,k13,k14⟩ | ⟨k1,k2,k3,k4,k5,k6,k7,k8,k9,k10,k11,k12,k13,k14⟩ | ⟨k1,k2,k3,k4,k5,k6,k7,k8,k9,k10,k11,k12,k13,k14⟩
 ·have hk:p.kind=1:=by simpa using k1
  simp [fitsP,k1,cfitsP,inI_iff,a6,a7,a8,a9,a12,a13]
  revert a14
  cases p.hp <;> cases p.hu <;> simp
 ·have hk:p.kind=2:=by simpa using k2
  simp [fitsP,k1,k2,inI_iff,a15]
  revert a16
  cases p.pres <;> simp
 ·have hk:p.kind=3:=by simpa using k3
  simp [numP,k3] at a3
  simp [fitsP,k1,k2,k3,pfitsP,a5,inI_iff,a4]
  by_cases q:p.qos=0
  ·simp [q,hd hk q]
  ·rw [if_neg q]
   rcases a3 with m | m
   ·omega
   ·rw [inI_iff] at m;exact m
 ·have hk:p.kind=4:=by simpa using k4
  simp [numP,hk,inI_iff] at a3
  simp [fitsP,k1,k2,k3,k4,inI_iff,a3]
 ·have hk:p.kind=5:=by simpa using k5
  simp [numP,hk,inI_iff] at a3
  simp [fitsP,k1,k2,k3,k4,k5,inI_iff,a3]
 ·have hk:p.kind=6:=by simpa using k6
  simp [numP,hk,inI_iff] at a3
  simp [fitsP,k1,k2,k3,k4,k5,k6,inI_iff,a3]
 ·have hk:p.kind=7:=by simpa using k7
  simp [numP,hk,inI_iff] at a3
  simp [fitsP,k1,k2,k3,k4,k5,k6,k7,inI_iff,a3]
 ·have hk:p.kind=8:=by simpa using k8
  simp [numP,hk,inI_iff] at a3
  simp [hk] at a19
  have e:sfitsP 2 p.subs=true:=List.all_eq_true.2 fun x hx=>by
   obtain ⟨m1,m2,m3,m4⟩:=hs x hx
   rw [m1,Bool.true_and,inI_iff]
   omega
  simp [fitsP,k1,k2,k3,k4,k5,k6,k7,k11,k8,inI_iff,a3,e]
  exact List.length_pos_iff.2 a19
 ·have hk:p.kind=9:=by simpa using k9
  simp [numP,hk,inI_iff] at a3
  simp [hk] at a20
  simp [fitsP,k1,k2,k3,k4,k5,k6,k7,k11,k8,k10,k9,inI_iff,a3,a18]
  exact List.length_pos_iff.2 a20
 ·have hk:p.kind=10:=by simpa using k10
  simp [numP,hk,inI_iff] at a3
  simp [hk] at a19
  have e:sfitsP 0 p.subs=true:=List.all_eq_true.2 fun x hx=>by
   obtain ⟨m1,m2,m3,m4⟩:=hs x hx
   rw [m1,Bool.true_and,inI_iff]
   have:=m4 hk;omega
  simp [fitsP,k1,k2,k3,k4,k5,k6,k7,k11,k8,k10,inI_iff,a3,e]
  exact List.length_pos_iff.2 a19
 ·have hk:p.kind=11:=by simpa using k11
  simp [numP,hk,inI_iff] at a3
  simp [fitsP,k1,k2,k3,k4,k5,k6,k7,k11,inI_iff,a3]
 ·have hk:p.kind=12:=by simpa using k12
  simp [fitsP,k1,k2,k3,k4,k5,k6,k7,k11,k8,k10,k9,k12]
 ·have hk:p.kind=13:=by simpa using k13
  simp [fitsP,k1,k2,k3,k4,k5,k6,k7,k11,k8,k10,k9,k12,k13]
 ·have hk:p.kind=14:=by simpa using k14
  simp [fitsP,k1,k2,k3,k4,k5,k6,k7,k11,k8,k10,k9,k12,k13,k14]
 ·exfalso
  simp at k1 k2 k3 k4 k5 k6 k7 k8 k9 k10 k11 k12 k13 k14
  omega
theorem refRP_eq (p:Pk):refRP p=rightP p:=by
 rw [Bool.eq_iff_iff]
 exact ⟨right_of_ref p,ref_of_right p⟩
end Go.Proofs.Ytnhpacaoobpkhaa
