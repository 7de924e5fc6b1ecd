import Derived.Test.YtnhpacaoobpkhaaSeatS0
namespace Go.Proofs.Ytnhpacaoobpkhaa
open Go.RowKit Go.Lib
set_option linter.unusedVariables false
set_option maxRecDepth 100000
set_option maxHeartbeats 8000000
theorem sm_app {L:List (ByteArray×Int)}(h:∀x ∈ L,Tx4 x.1∧0≤x.2∧x.2≤2)(f:ByteArray)(q:Int)(hf:Tx4 f)(hq:0≤q∧q≤2):∀x ∈ L++[(f,q)],Tx4 x.1∧0≤x.2∧x.2≤2:=by
 intro x hx
 rcases List.mem_append.1 hx with hx | hx
 ·exact h x hx
 ·simp at hx;subst hx;exact ⟨hf,hq⟩
theorem seatP_sub400 (k a b c:Int)(A:Option Addr)(n cx:Nat)(l:List UInt8)(w:World)(k0:0≤k)(k1:k≤255)(a0:0≤a)(a1:a≤255)(b0:0≤b)(b1:b≤255)(c0:0≤c)(c1:c≤255)(hx:BytesAt w w.heap.size (.slice A n cx) l)(hn:n=l.length)(hl:l.length≤60)(hnil:A=none→cx=0)(h:k%15=4∨k%15=5∨k%15=6)(h3:(c%3==0)=false)(h11:(c%11==0)=false) :
  Calls Try.prog 15 #[.int .u8 k,.int .u8 a,.int .u8 b,.int .u8 c,.slice A n cx] w (SeatPost w):=by
 rcases h with h | h | h
 all_goals
  clear hx hl hnil
  go_enter Try.func15,Try.ntmps15
  go_wp2_with fail
  refine (Filter_any _ _ a0 a1).mono ?_
  rintro e w1 ⟨t,rfl,ht,hbt⟩
  have r0:=heap_below hbt (heap_alloc_new w _)
  have b1':Below w.heap.size w w1:=by (repeat (first | assumption | exact Below.refl _ _ | exact (Below.refl _ _).alloc (Nat.le_refl _) _ | (refine thn ?_ (by assumption)) | (refine alB ?_ _) | (refine dwN ?_ _) | (refine Below.drew ?_)))
  have g0:w.heap.size<w1.heap.size:=(Array.getElem?_eq_some_iff.1 r0).1
  have st:SbSt w (w1.heap.size+1) (b%7+1) [(t,b%3)] (some ⟨w1.heap.size,0,none⟩) 1 ((w1.alloc (.cells #[.string t,.int .i64 (b%3)] 70)).alloc (.cells (sbC (b%7+1) (some ⟨w1.heap.size,0,none⟩) 1 1) 28)) :=
   ⟨heap_keep (heap_keep r0),heap_alloc2_new _ _ _,⟨rfl,.inr ⟨w1.heap.size,1,_,rfl,g0,heap_alloc2_old _ _ _,Nat.le_refl _,by decide,rfl,rfl⟩⟩,by simp [Value.ownBlock],by (repeat (first | assumption | exact Below.refl _ _ | exact (Below.refl _ _).alloc (Nat.le_refl _) _ | (refine thn ?_ (by assumption)) | (refine alB ?_ _) | (refine dwN ?_ _) | (refine Below.drew ?_))),by omega⟩
  have hL:∀x ∈ [(t,b%3)],Tx4 x.1∧0≤x.2∧x.2≤2:=by intro x hx;simp at hx;subst hx;exact ⟨ht,by omega,by omega⟩
  obtain ⟨W,hW⟩:∃W:World,((w1.alloc (.cells #[.string t,.int .i64 (b%3)] 70)).alloc (.cells (sbC (b%7+1) (some ⟨w1.heap.size,0,none⟩) 1 1) 28))=W:=⟨_,rfl⟩
  rw [hW] at st
  have C:=row_cells st.row
  have F:=fun j=>frozen_of_row _ _ j _ _ st.row
  have ST:=Lib.hid st
  have HL:=Lib.hid hL
  have HW:=Lib.hid hW
  clear hbt r0 st hL hW
  go_wp2_with (first
   | ((with_reducible show wpList _ _ _ (⟨_,.store 28 (.tmp 13) _,_,_,_,_⟩ :: _) _ _);refine stL (w1.heap.size+1) (by simp) _ (sbC (b%7+1) (some ⟨w1.heap.size,0,none⟩) 1 1) (by rfl) (by rfl) (by rfl) (by rfl) pk_sz (by rfl) ?_;rw [HW.out])
   | ((with_reducible show wpList _ _ _ (⟨_,.load 28 (.tmp 13),_,_,_,_⟩ :: _) _ _);refine ld_pk (w1.heap.size+1) (by rfl) (by rfl) (sbC (b%7+1) (some ⟨w1.heap.size,0,none⟩) 1 1) 28 (0,0) ST.out.row (by rfl) ?_)
   | ((with_reducible show wpList _ _ _ (⟨_,.store 28 (.tmp 10) _,_,_,_,_⟩ :: _) _ _);refine stRs w.heap.size _ (sbC (b%7+1) (some ⟨w1.heap.size,0,none⟩) 1 1) (by rfl) (by rfl) ST.out.res (by rfl) (by rfl) pk_sz (by rfl) ?_))
  exact bodyPost_ret (v:=.agg (sbC (b%7+1) (some ⟨w1.heap.size,0,none⟩) 1 1)) (results_cell_row (by rfl) _ _ w.heap.size 28 _ (0,0) _ (by rfl) (setRow_heap _ _ _ _ _ _ ST.out.res) Try.underlying28 (by rfl) (by exact pk_sz)) (by rfl) (ST.out.fin (by omega) HL.out (by simp) _ rfl)
theorem seatP_sub401 (k a b c:Int)(A:Option Addr)(n cx:Nat)(l:List UInt8)(w:World)(k0:0≤k)(k1:k≤255)(a0:0≤a)(a1:a≤255)(b0:0≤b)(b1:b≤255)(c0:0≤c)(c1:c≤255)(hx:BytesAt w w.heap.size (.slice A n cx) l)(hn:n=l.length)(hl:l.length≤60)(hnil:A=none→cx=0)(h:k%15=4∨k%15=5∨k%15=6)(h3:(c%3==0)=false)(h11:(c%11==0)=true) :
  Calls Try.prog 15 #[.int .u8 k,.int .u8 a,.int .u8 b,.int .u8 c,.slice A n cx] w (SeatPost w):=by
 rcases h with h | h | h
 all_goals
  clear hx hl hnil
  go_enter Try.func15,Try.ntmps15
  go_wp2_with fail
  refine (Filter_any _ _ a0 a1).mono ?_
  rintro e w1 ⟨t,rfl,ht,hbt⟩
  have r0:=heap_below hbt (heap_alloc_new w _)
  have b1':Below w.heap.size w w1:=by (repeat (first | assumption | exact Below.refl _ _ | exact (Below.refl _ _).alloc (Nat.le_refl _) _ | (refine thn ?_ (by assumption)) | (refine alB ?_ _) | (refine dwN ?_ _) | (refine Below.drew ?_)))
  have g0:w.heap.size<w1.heap.size:=(Array.getElem?_eq_some_iff.1 r0).1
  have st:SbSt w (w1.heap.size+1) (b%7+1) [(t,b%3)] (some ⟨w1.heap.size,0,none⟩) 1 ((w1.alloc (.cells #[.string t,.int .i64 (b%3)] 70)).alloc (.cells (sbC (b%7+1) (some ⟨w1.heap.size,0,none⟩) 1 1) 28)) :=
   ⟨heap_keep (heap_keep r0),heap_alloc2_new _ _ _,⟨rfl,.inr ⟨w1.heap.size,1,_,rfl,g0,heap_alloc2_old _ _ _,Nat.le_refl _,by decide,rfl,rfl⟩⟩,by simp [Value.ownBlock],by (repeat (first | assumption | exact Below.refl _ _ | exact (Below.refl _ _).alloc (Nat.le_refl _) _ | (refine thn ?_ (by assumption)) | (refine alB ?_ _) | (refine dwN ?_ _) | (refine Below.drew ?_))),by omega⟩
  have hL:∀x ∈ [(t,b%3)],Tx4 x.1∧0≤x.2∧x.2≤2:=by intro x hx;simp at hx;subst hx;exact ⟨ht,by omega,by omega⟩
  obtain ⟨W,hW⟩:∃W:World,((w1.alloc (.cells #[.string t,.int .i64 (b%3)] 70)).alloc (.cells (sbC (b%7+1) (some ⟨w1.heap.size,0,none⟩) 1 1) 28))=W:=⟨_,rfl⟩
  rw [hW] at st
  have C:=row_cells st.row
  have F:=fun j=>frozen_of_row _ _ j _ _ st.row
  have ST:=Lib.hid st
  have HL:=Lib.hid hL
  have HW:=Lib.hid hW
  clear hbt r0 st hL hW
  go_wp2_with (first
   | ((with_reducible show wpList _ _ _ (⟨_,.store 28 (.tmp 13) _,_,_,_,_⟩ :: _) _ _);refine stL (w1.heap.size+1) (by simp) _ (sbC (b%7+1) (some ⟨w1.heap.size,0,none⟩) 1 1) (by rfl) (by rfl) (by rfl) (by rfl) pk_sz (by rfl) ?_;rw [HW.out])
   | (at_builtin;go_must (refine ap_sub (w.heap.size+1) (some ⟨w1.heap.size,0,none⟩) 1 [(t,b%3)] W.heap.size ⟨#[97,35]⟩ 1 (by rfl) (by rfl) (ST.out.own.alloc _) (heap_alloc_new _ _) (by simp) (by have:=(Array.getElem?_eq_some_iff.1 ST.out.res).1;simp;omega) ?_);intro A5 C5 w5 o5 g5 b5;have st5:=(ST.out.call ((Below.refl _ _).alloc (Nat.le_refl _) _)).step ⟨#[97,35]⟩ 1 g5 o5 b5;have hr5:=((ST.out.call ((Below.refl _ _).alloc (Nat.le_refl _) _)).grow g5).2.1;have C5':=row_cells hr5;have F5':=fun j=>frozen_of_row _ _ j _ _ hr5;replace hr5:=Lib.hid hr5;replace st5:=Lib.hid st5;clear o5 g5 b5)
   | ((with_reducible show wpList _ _ _ (⟨_,.load 28 (.tmp 13),_,_,_,_⟩ :: _) _ _);refine ld_pk (w1.heap.size+1) (by rfl) (by rfl) (sbC (b%7+1) A5 2 C5) 28 (0,0) st5.out.row (by rfl) ?_)
   | ((with_reducible show wpList _ _ _ (⟨_,.store 28 (.tmp 10) _,_,_,_,_⟩ :: _) _ _);refine stRs w.heap.size _ (sbC (b%7+1) A5 2 C5) (by rfl) (by rfl) st5.out.res (by rfl) (by rfl) pk_sz (by rfl) ?_))
  exact bodyPost_ret (v:=.agg (sbC (b%7+1) A5 2 C5)) (results_cell_row (by rfl) _ _ w.heap.size 28 _ (0,0) _ (by rfl) (setRow_heap _ _ _ _ _ _ st5.out.res) Try.underlying28 (by rfl) (by exact pk_sz)) (by rfl) (st5.out.fin (by omega) (sm_app HL.out ⟨#[97,35]⟩ 1 (by decide +kernel) (by omega)) (by simp) _ rfl)
theorem seatP_sub410 (k a b c:Int)(A:Option Addr)(n cx:Nat)(l:List UInt8)(w:World)(k0:0≤k)(k1:k≤255)(a0:0≤a)(a1:a≤255)(b0:0≤b)(b1:b≤255)(c0:0≤c)(c1:c≤255)(hx:BytesAt w w.heap.size (.slice A n cx) l)(hn:n=l.length)(hl:l.length≤60)(hnil:A=none→cx=0)(h:k%15=4∨k%15=5∨k%15=6)(h3:(c%3==0)=true)(h11:(c%11==0)=false) :
  Calls Try.prog 15 #[.int .u8 k,.int .u8 a,.int .u8 b,.int .u8 c,.slice A n cx] w (SeatPost w):=by
 rcases h with h | h | h
 all_goals
  clear hx hl hnil
  go_enter Try.func15,Try.ntmps15
  go_wp2_with fail
  refine (Filter_any _ _ a0 a1).mono ?_
  rintro e w1 ⟨t,rfl,ht,hbt⟩
  have r0:=heap_below hbt (heap_alloc_new w _)
  have b1':Below w.heap.size w w1:=by (repeat (first | assumption | exact Below.refl _ _ | exact (Below.refl _ _).alloc (Nat.le_refl _) _ | (refine thn ?_ (by assumption)) | (refine alB ?_ _) | (refine dwN ?_ _) | (refine Below.drew ?_)))
  have g0:w.heap.size<w1.heap.size:=(Array.getElem?_eq_some_iff.1 r0).1
  have st:SbSt w (w1.heap.size+1) (b%7+1) [(t,b%3)] (some ⟨w1.heap.size,0,none⟩) 1 ((w1.alloc (.cells #[.string t,.int .i64 (b%3)] 70)).alloc (.cells (sbC (b%7+1) (some ⟨w1.heap.size,0,none⟩) 1 1) 28)) :=
   ⟨heap_keep (heap_keep r0),heap_alloc2_new _ _ _,⟨rfl,.inr ⟨w1.heap.size,1,_,rfl,g0,heap_alloc2_old _ _ _,Nat.le_refl _,by decide,rfl,rfl⟩⟩,by simp [Value.ownBlock],by (repeat (first | assumption | exact Below.refl _ _ | exact (Below.refl _ _).alloc (Nat.le_refl _) _ | (refine thn ?_ (by assumption)) | (refine alB ?_ _) | (refine dwN ?_ _) | (refine Below.drew ?_))),by omega⟩
  have hL:∀x ∈ [(t,b%3)],Tx4 x.1∧0≤x.2∧x.2≤2:=by intro x hx;simp at hx;subst hx;exact ⟨ht,by omega,by omega⟩
  obtain ⟨W,hW⟩:∃W:World,((w1.alloc (.cells #[.string t,.int .i64 (b%3)] 70)).alloc (.cells (sbC (b%7+1) (some ⟨w1.heap.size,0,none⟩) 1 1) 28))=W:=⟨_,rfl⟩
  rw [hW] at st
  have C:=row_cells st.row
  have F:=fun j=>frozen_of_row _ _ j _ _ st.row
  have ST:=Lib.hid st
  have HL:=Lib.hid hL
  have HW:=Lib.hid hW
  clear hbt r0 st hL hW
  go_wp2_with ((with_reducible show wpList _ _ _ (⟨_,.store 28 (.tmp 13) _,_,_,_,_⟩ :: _) _ _);refine stL (w1.heap.size+1) (by simp) _ (sbC (b%7+1) (some ⟨w1.heap.size,0,none⟩) 1 1) (by rfl) (by rfl) (by rfl) (by rfl) pk_sz (by rfl) ?_;rw [HW.out])
  refine wp_region_held_drew (S:=fun _=>True) (by rfl) trivial ?_
  intro hT
  have sd:=ST.out.call (Below.drew (Below.refl _ _))
  have CD:=row_cells sd.row
  refine tkH 0 (.pointer (some ⟨w1.heap.size+1,22,none⟩)) hT ?_
  refine tkH 2 (.int .u8 c) hT ?_ (hy:=.inl ⟨by rfl,fun V _=>rfl⟩)
  refine tkH 4 (.int .u8 c) hT ?_ (hy:=.inl ⟨by rfl,fun V _=>rfl⟩)
  refine tkH 5 (.int .u8 (c%2)) hT ?_ (hy:=.inl ⟨by rfl,fun V _=>by simp [execOp,go_sem,Int.tmod_eq_emod_of_nonneg c0]⟩)
  refine tkH 6 (.int .i64 (c%2)) hT ?_ (hy:=.inl ⟨by rfl,fun V _=>by simp [execOp,go_sem];exact IntWalk.i64_in _ (by omega)⟩)
  refine wpAnyH_ready (rs:=[1,3]) (by kernel_rfl) (by simp) (AllReadyH.cons (by rfl) ?_ (AllReadyH.cons (by rfl) ?_ (AllReadyH.nil)))
  ·intro K' hK
   rw [if_pos (by rfl)]
   go_wp2_with fail
   refine hK.out _ _ trivial ?_
   clear hK K'
   intro _
   refine wpAnyH_ready (rs:=[3]) (by kernel_rfl) (by simp) (AllReadyH.cons (by rfl) ?_ (AllReadyH.nil))
   intro K' hK
   rw [if_pos (by rfl)]
   go_wp2_with fail
   refine (Filter_any _ _ c0 c1).mono ?_
   rintro e w4 ⟨f,rfl,hf,hb4⟩
   have s4:=sd.call hb4
   have CD4:=row_cells s4.row
   clear hb4
   go_wp2_with fail
   refine hK.out _ _ trivial ?_
   clear hK K'
   intro _
   refine tkH 7 (.agg #[.string f,.int .i64 (c%2)]) hT ?_
   refine wpAnyH_ready (rs:=[8]) (by kernel_rfl) (by simp) (AllReadyH.cons (by rfl) ?_ (AllReadyH.nil))
   intro K' hK
   rw [if_pos (by rfl)]
   have s5:=s4.call ((Below.refl _ _).alloc (Nat.le_refl _) (.cells #[.string f,.int .i64 (c%2)] 70))
   have CD5:=row_cells s5.row
   go_wp2_with fail
   refine hK.out _ _ trivial ?_
   clear hK K'
   intro _
   refine wpAnyH_ready (rs:=[9]) (by kernel_rfl) (by simp) (AllReadyH.cons (by rfl) ?_ (AllReadyH.nil))
   intro K' hK
   rw [if_pos (by rfl)]
   refine ap_sub_wp (w.heap.size+1) (some ⟨w1.heap.size,0,none⟩) 1 [(t,b%3)] w4.heap.size f (c%2) (by rfl) (by rfl) s5.own (heap_alloc_new _ _) (by simp) (by have:=(Array.getElem?_eq_some_iff.1 s5.res).1;omega) ?_
   intro A6 C6 w6 o6 g6 b6
   have st6:=s5.step f (c%2) g6 o6 b6
   have hr6:=(s5.grow g6).2.1
   have C6':=row_cells hr6
   have F6':=fun j=>frozen_of_row _ _ j _ _ hr6
   have ST6:=Lib.hid st6
   clear o6 g6 b6 st6 hr6 s4 s5 CD CD4 CD5 sd
   refine hK.out _ _ trivial ?_
   clear hK K'
   intro _
   refine tkH 10 (.pointer (some ⟨w1.heap.size+1,22,none⟩)) hT ?_
   refine wpAnyH_ready (rs:=[11]) (by kernel_rfl) (by simp) (AllReadyH.cons (by rfl) ?_ (AllReadyH.nil))
   intro K' hK
   rw [if_pos (by rfl)]
   go_wp2_with fail
   refine hK.out _ _ trivial ?_
   clear hK K'
   intro _
   refine wpAnyH_done (by kernel_rfl) ?_ _
   have C7:=row_cells ST6.out.row
   have F7:=fun j=>frozen_of_row _ _ j _ _ ST6.out.row
   clear C6' F6'
   generalize w6.setCell _ _=W7 at *
   go_wp2_with (first
    | ((with_reducible show wpList _ _ _ (⟨_,.load 28 (.tmp 13),_,_,_,_⟩ :: _) _ _);refine ld_pk (w1.heap.size+1) (by rfl) (by rfl) (sbC (b%7+1) A6 2 C6) 28 (0,0) ST6.out.row (by rfl) ?_)
     | ((with_reducible show wpList _ _ _ (⟨_,.store 28 (.tmp 10) _,_,_,_,_⟩ :: _) _ _);refine stRs w.heap.size _ (sbC (b%7+1) A6 2 C6) (by rfl) (by rfl) ST6.out.res (by rfl) (by rfl) pk_sz (by rfl) ?_))
   exact bodyPost_ret (v:=.agg (sbC (b%7+1) A6 2 C6)) (results_cell_row (by rfl) _ _ w.heap.size 28 _ (0,0) _ (by rfl) (setRow_heap _ _ _ _ _ _ ST6.out.res) Try.underlying28 (by rfl) (by exact pk_sz)) (by rfl) (ST6.out.fin (by omega) (sm_app HL.out f (c%2) hf (by omega)) (by simp) _ rfl)
  ·intro K' hK
   rw [if_pos (by rfl)]
   go_wp2_with fail
   refine (Filter_any _ _ c0 c1).mono ?_
   rintro e w4 ⟨f,rfl,hf,hb4⟩
   have s4:=sd.call hb4
   have CD4:=row_cells s4.row
   clear hb4
   go_wp2_with fail
   refine hK.out _ _ trivial ?_
   clear hK K'
   intro _
   refine tkH 7 (.agg #[.string f,.int .i64 (c%2)]) hT ?_
   refine wpAnyH_ready (rs:=[1,8]) (by kernel_rfl) (by simp) (AllReadyH.cons (by rfl) ?_ (AllReadyH.cons (by rfl) ?_ (AllReadyH.nil)))
   ·intro K' hK
    rw [if_pos (by rfl)]
    go_wp2_with fail
    refine hK.out _ _ trivial ?_
    clear hK K'
    intro _
    refine wpAnyH_ready (rs:=[8]) (by kernel_rfl) (by simp) (AllReadyH.cons (by rfl) ?_ (AllReadyH.nil))
    intro K' hK
    rw [if_pos (by rfl)]
    have s5:=s4.call ((Below.refl _ _).alloc (Nat.le_refl _) (.cells #[.string f,.int .i64 (c%2)] 70))
    have CD5:=row_cells s5.row
    go_wp2_with fail
    refine hK.out _ _ trivial ?_
    clear hK K'
    intro _
    refine wpAnyH_ready (rs:=[9]) (by kernel_rfl) (by simp) (AllReadyH.cons (by rfl) ?_ (AllReadyH.nil))
    intro K' hK
    rw [if_pos (by rfl)]
    refine ap_sub_wp (w.heap.size+1) (some ⟨w1.heap.size,0,none⟩) 1 [(t,b%3)] w4.heap.size f (c%2) (by rfl) (by rfl) s5.own (heap_alloc_new _ _) (by simp) (by have:=(Array.getElem?_eq_some_iff.1 s5.res).1;omega) ?_
    intro A6 C6 w6 o6 g6 b6
    have st6:=s5.step f (c%2) g6 o6 b6
    have hr6:=(s5.grow g6).2.1
    have C6':=row_cells hr6
    have F6':=fun j=>frozen_of_row _ _ j _ _ hr6
    have ST6:=Lib.hid st6
    clear o6 g6 b6 st6 hr6 s4 s5 CD CD4 CD5 sd
    refine hK.out _ _ trivial ?_
    clear hK K'
    intro _
    refine tkH 10 (.pointer (some ⟨w1.heap.size+1,22,none⟩)) hT ?_
    refine wpAnyH_ready (rs:=[11]) (by kernel_rfl) (by simp) (AllReadyH.cons (by rfl) ?_ (AllReadyH.nil))
    intro K' hK
    rw [if_pos (by rfl)]
    go_wp2_with fail
    refine hK.out _ _ trivial ?_
    clear hK K'
    intro _
    refine wpAnyH_done (by kernel_rfl) ?_ _
    have C7:=row_cells ST6.out.row
    have F7:=fun j=>frozen_of_row _ _ j _ _ ST6.out.row
    clear C6' F6'
    generalize w6.setCell _ _=W7 at *
    go_wp2_with (first
     | ((with_reducible show wpList _ _ _ (⟨_,.load 28 (.tmp 13),_,_,_,_⟩ :: _) _ _);refine ld_pk (w1.heap.size+1) (by rfl) (by rfl) (sbC (b%7+1) A6 2 C6) 28 (0,0) ST6.out.row (by rfl) ?_)
      | ((with_reducible show wpList _ _ _ (⟨_,.store 28 (.tmp 10) _,_,_,_,_⟩ :: _) _ _);refine stRs w.heap.size _ (sbC (b%7+1) A6 2 C6) (by rfl) (by rfl) ST6.out.res (by rfl) (by rfl) pk_sz (by rfl) ?_))
    exact bodyPost_ret (v:=.agg (sbC (b%7+1) A6 2 C6)) (results_cell_row (by rfl) _ _ w.heap.size 28 _ (0,0) _ (by rfl) (setRow_heap _ _ _ _ _ _ ST6.out.res) Try.underlying28 (by rfl) (by exact pk_sz)) (by rfl) (ST6.out.fin (by omega) (sm_app HL.out f (c%2) hf (by omega)) (by simp) _ rfl)
   ·intro K' hK
    rw [if_pos (by rfl)]
    have s5:=s4.call ((Below.refl _ _).alloc (Nat.le_refl _) (.cells #[.string f,.int .i64 (c%2)] 70))
    have CD5:=row_cells s5.row
    go_wp2_with fail
    refine hK.out _ _ trivial ?_
    clear hK K'
    intro _
    refine wpAnyH_ready (rs:=[1]) (by kernel_rfl) (by simp) (AllReadyH.cons (by rfl) ?_ (AllReadyH.nil))
    intro K' hK
    rw [if_pos (by rfl)]
    go_wp2_with fail
    refine hK.out _ _ trivial ?_
    clear hK K'
    intro _
    refine wpAnyH_ready (rs:=[9]) (by kernel_rfl) (by simp) (AllReadyH.cons (by rfl) ?_ (AllReadyH.nil))
    intro K' hK
    rw [if_pos (by rfl)]
    refine ap_sub_wp (w.heap.size+1) (some ⟨w1.heap.size,0,none⟩) 1 [(t,b%3)] w4.heap.size f (c%2) (by rfl) (by rfl) s5.own (heap_alloc_new _ _) (by simp) (by have:=(Array.getElem?_eq_some_iff.1 s5.res).1;omega) ?_
    intro A6 C6 w6 o6 g6 b6
    have st6:=s5.step f (c%2) g6 o6 b6
    have hr6:=(s5.grow g6).2.1
    have C6':=row_cells hr6
    have F6':=fun j=>frozen_of_row _ _ j _ _ hr6
    have ST6:=Lib.hid st6
    clear o6 g6 b6 st6 hr6 s4 s5 CD CD4 CD5 sd
    refine hK.out _ _ trivial ?_
    clear hK K'
    intro _
    refine tkH 10 (.pointer (some ⟨w1.heap.size+1,22,none⟩)) hT ?_
    refine wpAnyH_ready (rs:=[11]) (by kernel_rfl) (by simp) (AllReadyH.cons (by rfl) ?_ (AllReadyH.nil))
    intro K' hK
    rw [if_pos (by rfl)]
    go_wp2_with fail
    refine hK.out _ _ trivial ?_
    clear hK K'
    intro _
    refine wpAnyH_done (by kernel_rfl) ?_ _
    have C7:=row_cells ST6.out.row
    have F7:=fun j=>frozen_of_row _ _ j _ _ ST6.out.row
    clear C6' F6'
    generalize w6.setCell _ _=W7 at *
    go_wp2_with (first
     | ((with_reducible show wpList _ _ _ (⟨_,.load 28 (.tmp 13),_,_,_,_⟩ :: _) _ _);refine ld_pk (w1.heap.size+1) (by rfl) (by rfl) (sbC (b%7+1) A6 2 C6) 28 (0,0) ST6.out.row (by rfl) ?_)
      | ((with_reducible show wpList _ _ _ (⟨_,.store 28 (.tmp 10) _,_,_,_,_⟩ :: _) _ _);refine stRs w.heap.size _ (sbC (b%7+1) A6 2 C6) (by rfl) (by rfl) ST6.out.res (by rfl) (by rfl) pk_sz (by rfl) ?_))
    exact bodyPost_ret (v:=.agg (sbC (b%7+1) A6 2 C6)) (results_cell_row (by rfl) _ _ w.heap.size 28 _ (0,0) _ (by rfl) (setRow_heap _ _ _ _ _ _ ST6.out.res) Try.underlying28 (by rfl) (by exact pk_sz)) (by rfl) (ST6.out.fin (by omega) (sm_app HL.out f (c%2) hf (by omega)) (by simp) _ rfl)
theorem seatP_sub411 (k a b c:Int)(A:Option Addr)(n cx:Nat)(l:List UInt8)(w:World)(k0:0≤k)(k1:k≤255)(a0:0≤a)(a1:a≤255)(b0:0≤b)(b1:b≤255)(c0:0≤c)(c1:c≤255)(hx:BytesAt w w.heap.size (.slice A n cx) l)(hn:n=l.length)(hl:l.length≤60)(hnil:A=none→cx=0)(h:k%15=4∨k%15=5∨k%15=6)(h3:(c%3==0)=true)(h11:(c%11==0)=true) :
  Calls Try.prog 15 #[.int .u8 k,.int .u8 a,.int .u8 b,.int .u8 c,.slice A n cx] w (SeatPost w):=by
 rcases h with h | h | h
 all_goals
  clear hx hl hnil
  go_enter Try.func15,Try.ntmps15
  go_wp2_with fail
  refine (Filter_any _ _ a0 a1).mono ?_
  rintro e w1 ⟨t,rfl,ht,hbt⟩
  have r0:=heap_below hbt (heap_alloc_new w _)
  have b1':Below w.heap.size w w1:=by (repeat (first | assumption | exact Below.refl _ _ | exact (Below.refl _ _).alloc (Nat.le_refl _) _ | (refine thn ?_ (by assumption)) | (refine alB ?_ _) | (refine dwN ?_ _) | (refine Below.drew ?_)))
  have g0:w.heap.size<w1.heap.size:=(Array.getElem?_eq_some_iff.1 r0).1
  have st:SbSt w (w1.heap.size+1) (b%7+1) [(t,b%3)] (some ⟨w1.heap.size,0,none⟩) 1 ((w1.alloc (.cells #[.string t,.int .i64 (b%3)] 70)).alloc (.cells (sbC (b%7+1) (some ⟨w1.heap.size,0,none⟩) 1 1) 28)) :=
   ⟨heap_keep (heap_keep r0),heap_alloc2_new _ _ _,⟨rfl,.inr ⟨w1.heap.size,1,_,rfl,g0,heap_alloc2_old _ _ _,Nat.le_refl _,by decide,rfl,rfl⟩⟩,by simp [Value.ownBlock],by (repeat (first | assumption | exact Below.refl _ _ | exact (Below.refl _ _).alloc (Nat.le_refl _) _ | (refine thn ?_ (by assumption)) | (refine alB ?_ _) | (refine dwN ?_ _) | (refine Below.drew ?_))),by omega⟩
  have hL:∀x ∈ [(t,b%3)],Tx4 x.1∧0≤x.2∧x.2≤2:=by intro x hx;simp at hx;subst hx;exact ⟨ht,by omega,by omega⟩
  obtain ⟨W,hW⟩:∃W:World,((w1.alloc (.cells #[.string t,.int .i64 (b%3)] 70)).alloc (.cells (sbC (b%7+1) (some ⟨w1.heap.size,0,none⟩) 1 1) 28))=W:=⟨_,rfl⟩
  rw [hW] at st
  have C:=row_cells st.row
  have F:=fun j=>frozen_of_row _ _ j _ _ st.row
  have ST:=Lib.hid st
  have HL:=Lib.hid hL
  have HW:=Lib.hid hW
  clear hbt r0 st hL hW
  go_wp2_with ((with_reducible show wpList _ _ _ (⟨_,.store 28 (.tmp 13) _,_,_,_,_⟩ :: _) _ _);refine stL (w1.heap.size+1) (by simp) _ (sbC (b%7+1) (some ⟨w1.heap.size,0,none⟩) 1 1) (by rfl) (by rfl) (by rfl) (by rfl) pk_sz (by rfl) ?_;rw [HW.out])
  refine wp_region_held_drew (S:=fun _=>True) (by rfl) trivial ?_
  intro hT
  have sd:=ST.out.call (Below.drew (Below.refl _ _))
  have CD:=row_cells sd.row
  refine tkH 0 (.pointer (some ⟨w1.heap.size+1,22,none⟩)) hT ?_
  refine tkH 2 (.int .u8 c) hT ?_ (hy:=.inl ⟨by rfl,fun V _=>rfl⟩)
  refine tkH 4 (.int .u8 c) hT ?_ (hy:=.inl ⟨by rfl,fun V _=>rfl⟩)
  refine tkH 5 (.int .u8 (c%2)) hT ?_ (hy:=.inl ⟨by rfl,fun V _=>by simp [execOp,go_sem,Int.tmod_eq_emod_of_nonneg c0]⟩)
  refine tkH 6 (.int .i64 (c%2)) hT ?_ (hy:=.inl ⟨by rfl,fun V _=>by simp [execOp,go_sem];exact IntWalk.i64_in _ (by omega)⟩)
  refine wpAnyH_ready (rs:=[1,3]) (by kernel_rfl) (by simp) (AllReadyH.cons (by rfl) ?_ (AllReadyH.cons (by rfl) ?_ (AllReadyH.nil)))
  ·intro K' hK
   rw [if_pos (by rfl)]
   go_wp2_with fail
   refine hK.out _ _ trivial ?_
   clear hK K'
   intro _
   refine wpAnyH_ready (rs:=[3]) (by kernel_rfl) (by simp) (AllReadyH.cons (by rfl) ?_ (AllReadyH.nil))
   intro K' hK
   rw [if_pos (by rfl)]
   go_wp2_with fail
   refine (Filter_any _ _ c0 c1).mono ?_
   rintro e w4 ⟨f,rfl,hf,hb4⟩
   have s4:=sd.call hb4
   have CD4:=row_cells s4.row
   clear hb4
   go_wp2_with fail
   refine hK.out _ _ trivial ?_
   clear hK K'
   intro _
   refine tkH 7 (.agg #[.string f,.int .i64 (c%2)]) hT ?_
   refine wpAnyH_ready (rs:=[8]) (by kernel_rfl) (by simp) (AllReadyH.cons (by rfl) ?_ (AllReadyH.nil))
   intro K' hK
   rw [if_pos (by rfl)]
   have s5:=s4.call ((Below.refl _ _).alloc (Nat.le_refl _) (.cells #[.string f,.int .i64 (c%2)] 70))
   have CD5:=row_cells s5.row
   go_wp2_with fail
   refine hK.out _ _ trivial ?_
   clear hK K'
   intro _
   refine wpAnyH_ready (rs:=[9]) (by kernel_rfl) (by simp) (AllReadyH.cons (by rfl) ?_ (AllReadyH.nil))
   intro K' hK
   rw [if_pos (by rfl)]
   refine ap_sub_wp (w.heap.size+1) (some ⟨w1.heap.size,0,none⟩) 1 [(t,b%3)] w4.heap.size f (c%2) (by rfl) (by rfl) s5.own (heap_alloc_new _ _) (by simp) (by have:=(Array.getElem?_eq_some_iff.1 s5.res).1;omega) ?_
   intro A6 C6 w6 o6 g6 b6
   have st6:=s5.step f (c%2) g6 o6 b6
   have hr6:=(s5.grow g6).2.1
   have C6':=row_cells hr6
   have F6':=fun j=>frozen_of_row _ _ j _ _ hr6
   have ST6:=Lib.hid st6
   clear o6 g6 b6 st6 hr6 s4 s5 CD CD4 CD5 sd
   refine hK.out _ _ trivial ?_
   clear hK K'
   intro _
   refine tkH 10 (.pointer (some ⟨w1.heap.size+1,22,none⟩)) hT ?_
   refine wpAnyH_ready (rs:=[11]) (by kernel_rfl) (by simp) (AllReadyH.cons (by rfl) ?_ (AllReadyH.nil))
   intro K' hK
   rw [if_pos (by rfl)]
   go_wp2_with fail
   refine hK.out _ _ trivial ?_
   clear hK K'
   intro _
   refine wpAnyH_done (by kernel_rfl) ?_ _
   have C7:=row_cells ST6.out.row
   have F7:=fun j=>frozen_of_row _ _ j _ _ ST6.out.row
   clear C6' F6'
   generalize w6.setCell _ _=W7 at *
   go_wp2_with (first
    | (at_builtin;go_must (refine ap_sub (w.heap.size+1) A6 C6 ([(t,b%3)]++[(f,c%2)]) W7.heap.size ⟨#[97,35]⟩ 1 (by rfl) (by rfl) (ST6.out.own.alloc _) (heap_alloc_new _ _) (by simp) (by have:=(Array.getElem?_eq_some_iff.1 ST6.out.res).1;simp;omega) ?_);intro A5 C5 w5 o5 g5 b5;have st5:=(ST6.out.call ((Below.refl _ _).alloc (Nat.le_refl _) _)).step ⟨#[97,35]⟩ 1 g5 o5 b5;have hr5:=((ST6.out.call ((Below.refl _ _).alloc (Nat.le_refl _) _)).grow g5).2.1;have C5':=row_cells hr5;have F5':=fun j=>frozen_of_row _ _ j _ _ hr5;replace hr5:=Lib.hid hr5;replace st5:=Lib.hid st5;clear o5 g5 b5)
    | ((with_reducible show wpList _ _ _ (⟨_,.load 28 (.tmp 13),_,_,_,_⟩ :: _) _ _);refine ld_pk (w1.heap.size+1) (by rfl) (by rfl) (sbC (b%7+1) A5 3 C5) 28 (0,0) st5.out.row (by rfl) ?_)
     | ((with_reducible show wpList _ _ _ (⟨_,.store 28 (.tmp 10) _,_,_,_,_⟩ :: _) _ _);refine stRs w.heap.size _ (sbC (b%7+1) A5 3 C5) (by rfl) (by rfl) st5.out.res (by rfl) (by rfl) pk_sz (by rfl) ?_))
   exact bodyPost_ret (v:=.agg (sbC (b%7+1) A5 3 C5)) (results_cell_row (by rfl) _ _ w.heap.size 28 _ (0,0) _ (by rfl) (setRow_heap _ _ _ _ _ _ st5.out.res) Try.underlying28 (by rfl) (by exact pk_sz)) (by rfl) (st5.out.fin (by omega) (sm_app (sm_app HL.out f (c%2) hf (by omega)) ⟨#[97,35]⟩ 1 (by decide +kernel) (by omega)) (by simp) _ rfl)
  ·intro K' hK
   rw [if_pos (by rfl)]
   go_wp2_with fail
   refine (Filter_any _ _ c0 c1).mono ?_
   rintro e w4 ⟨f,rfl,hf,hb4⟩
   have s4:=sd.call hb4
   have CD4:=row_cells s4.row
   clear hb4
   go_wp2_with fail
   refine hK.out _ _ trivial ?_
   clear hK K'
   intro _
   refine tkH 7 (.agg #[.string f,.int .i64 (c%2)]) hT ?_
   refine wpAnyH_ready (rs:=[1,8]) (by kernel_rfl) (by simp) (AllReadyH.cons (by rfl) ?_ (AllReadyH.cons (by rfl) ?_ (AllReadyH.nil)))
   ·intro K' hK
    rw [if_pos (by rfl)]
    go_wp2_with fail
    refine hK.out _ _ trivial ?_
    clear hK K'
    intro _
    refine wpAnyH_ready (rs:=[8]) (by kernel_rfl) (by simp) (AllReadyH.cons (by rfl) ?_ (AllReadyH.nil))
    intro K' hK
    rw [if_pos (by rfl)]
    have s5:=s4.call ((Below.refl _ _).alloc (Nat.le_refl _) (.cells #[.string f,.int .i64 (c%2)] 70))
    have CD5:=row_cells s5.row
    go_wp2_with fail
    refine hK.out _ _ trivial ?_
    clear hK K'
    intro _
    refine wpAnyH_ready (rs:=[9]) (by kernel_rfl) (by simp) (AllReadyH.cons (by rfl) ?_ (AllReadyH.nil))
    intro K' hK
    rw [if_pos (by rfl)]
    refine ap_sub_wp (w.heap.size+1) (some ⟨w1.heap.size,0,none⟩) 1 [(t,b%3)] w4.heap.size f (c%2) (by rfl) (by rfl) s5.own (heap_alloc_new _ _) (by simp) (by have:=(Array.getElem?_eq_some_iff.1 s5.res).1;omega) ?_
    intro A6 C6 w6 o6 g6 b6
    have st6:=s5.step f (c%2) g6 o6 b6
    have hr6:=(s5.grow g6).2.1
    have C6':=row_cells hr6
    have F6':=fun j=>frozen_of_row _ _ j _ _ hr6
    have ST6:=Lib.hid st6
    clear o6 g6 b6 st6 hr6 s4 s5 CD CD4 CD5 sd
    refine hK.out _ _ trivial ?_
    clear hK K'
    intro _
    refine tkH 10 (.pointer (some ⟨w1.heap.size+1,22,none⟩)) hT ?_
    refine wpAnyH_ready (rs:=[11]) (by kernel_rfl) (by simp) (AllReadyH.cons (by rfl) ?_ (AllReadyH.nil))
    intro K' hK
    rw [if_pos (by rfl)]
    go_wp2_with fail
    refine hK.out _ _ trivial ?_
    clear hK K'
    intro _
    refine wpAnyH_done (by kernel_rfl) ?_ _
    have C7:=row_cells ST6.out.row
    have F7:=fun j=>frozen_of_row _ _ j _ _ ST6.out.row
    clear C6' F6'
    generalize w6.setCell _ _=W7 at *
    go_wp2_with (first
     | (at_builtin;go_must (refine ap_sub (w.heap.size+1) A6 C6 ([(t,b%3)]++[(f,c%2)]) W7.heap.size ⟨#[97,35]⟩ 1 (by rfl) (by rfl) (ST6.out.own.alloc _) (heap_alloc_new _ _) (by simp) (by have:=(Array.getElem?_eq_some_iff.1 ST6.out.res).1;simp;omega) ?_);intro A5 C5 w5 o5 g5 b5;have st5:=(ST6.out.call ((Below.refl _ _).alloc (Nat.le_refl _) _)).step ⟨#[97,35]⟩ 1 g5 o5 b5;have hr5:=((ST6.out.call ((Below.refl _ _).alloc (Nat.le_refl _) _)).grow g5).2.1;have C5':=row_cells hr5;have F5':=fun j=>frozen_of_row _ _ j _ _ hr5;replace hr5:=Lib.hid hr5;replace st5:=Lib.hid st5;clear o5 g5 b5)
     | ((with_reducible show wpList _ _ _ (⟨_,.load 28 (.tmp 13),_,_,_,_⟩ :: _) _ _);refine ld_pk (w1.heap.size+1) (by rfl) (by rfl) (sbC (b%7+1) A5 3 C5) 28 (0,0) st5.out.row (by rfl) ?_)
      | ((with_reducible show wpList _ _ _ (⟨_,.store 28 (.tmp 10) _,_,_,_,_⟩ :: _) _ _);refine stRs w.heap.size _ (sbC (b%7+1) A5 3 C5) (by rfl) (by rfl) st5.out.res (by rfl) (by rfl) pk_sz (by rfl) ?_))
    exact bodyPost_ret (v:=.agg (sbC (b%7+1) A5 3 C5)) (results_cell_row (by rfl) _ _ w.heap.size 28 _ (0,0) _ (by rfl) (setRow_heap _ _ _ _ _ _ st5.out.res) Try.underlying28 (by rfl) (by exact pk_sz)) (by rfl) (st5.out.fin (by omega) (sm_app (sm_app HL.out f (c%2) hf (by omega)) ⟨#[97,35]⟩ 1 (by decide +kernel) (by omega)) (by simp) _ rfl)
   ·intro K' hK
    rw [if_pos (by rfl)]
    have s5:=s4.call ((Below.refl _ _).alloc (Nat.le_refl _) (.cells #[.string f,.int .i64 (c%2)] 70))
    have CD5:=row_cells s5.row
    go_wp2_with fail
    refine hK.out _ _ trivial ?_
    clear hK K'
    intro _
    refine wpAnyH_ready (rs:=[1]) (by kernel_rfl) (by simp) (AllReadyH.cons (by rfl) ?_ (AllReadyH.nil))
    intro K' hK
    rw [if_pos (by rfl)]
    go_wp2_with fail
    refine hK.out _ _ trivial ?_
    clear hK K'
    intro _
    refine wpAnyH_ready (rs:=[9]) (by kernel_rfl) (by simp) (AllReadyH.cons (by rfl) ?_ (AllReadyH.nil))
    intro K' hK
    rw [if_pos (by rfl)]
    refine ap_sub_wp (w.heap.size+1) (some ⟨w1.heap.size,0,none⟩) 1 [(t,b%3)] w4.heap.size f (c%2) (by rfl) (by rfl) s5.own (heap_alloc_new _ _) (by simp) (by have:=(Array.getElem?_eq_some_iff.1 s5.res).1;omega) ?_
    intro A6 C6 w6 o6 g6 b6
    have st6:=s5.step f (c%2) g6 o6 b6
    have hr6:=(s5.grow g6).2.1
    have C6':=row_cells hr6
    have F6':=fun j=>frozen_of_row _ _ j _ _ hr6
    have ST6:=Lib.hid st6
    clear o6 g6 b6 st6 hr6 s4 s5 CD CD4 CD5 sd
    refine hK.out _ _ trivial ?_
    clear hK K'
    intro _
    refine tkH 10 (.pointer (some ⟨w1.heap.size+1,22,none⟩)) hT ?_
    refine wpAnyH_ready (rs:=[11]) (by kernel_rfl) (by simp) (AllReadyH.cons (by rfl) ?_ (AllReadyH.nil))
    intro K' hK
    rw [if_pos (by rfl)]
    go_wp2_with fail
    refine hK.out _ _ trivial ?_
    clear hK K'
    intro _
    refine wpAnyH_done (by kernel_rfl) ?_ _
    have C7:=row_cells ST6.out.row
    have F7:=fun j=>frozen_of_row _ _ j _ _ ST6.out.row
    clear C6' F6'
    generalize w6.setCell _ _=W7 at *
    go_wp2_with (first
     | (at_builtin;go_must (refine ap_sub (w.heap.size+1) A6 C6 ([(t,b%3)]++[(f,c%2)]) W7.heap.size ⟨#[97,35]⟩ 1 (by rfl) (by rfl) (ST6.out.own.alloc _) (heap_alloc_new _ _) (by simp) (by have:=(Array.getElem?_eq_some_iff.1 ST6.out.res).1;simp;omega) ?_);intro A5 C5 w5 o5 g5 b5;have st5:=(ST6.out.call ((Below.refl _ _).alloc (Nat.le_refl _) _)).step ⟨#[97,35]⟩ 1 g5 o5 b5;have hr5:=((ST6.out.call ((Below.refl _ _).alloc (Nat.le_refl _) _)).grow g5).2.1;have C5':=row_cells hr5;have F5':=fun j=>frozen_of_row _ _ j _ _ hr5;replace hr5:=Lib.hid hr5;replace st5:=Lib.hid st5;clear o5 g5 b5)
     | ((with_reducible show wpList _ _ _ (⟨_,.load 28 (.tmp 13),_,_,_,_⟩ :: _) _ _);refine ld_pk (w1.heap.size+1) (by rfl) (by rfl) (sbC (b%7+1) A5 3 C5) 28 (0,0) st5.out.row (by rfl) ?_)
      | ((with_reducible show wpList _ _ _ (⟨_,.store 28 (.tmp 10) _,_,_,_,_⟩ :: _) _ _);refine stRs w.heap.size _ (sbC (b%7+1) A5 3 C5) (by rfl) (by rfl) st5.out.res (by rfl) (by rfl) pk_sz (by rfl) ?_))
    exact bodyPost_ret (v:=.agg (sbC (b%7+1) A5 3 C5)) (results_cell_row (by rfl) _ _ w.heap.size 28 _ (0,0) _ (by rfl) (setRow_heap _ _ _ _ _ _ st5.out.res) Try.underlying28 (by rfl) (by exact pk_sz)) (by rfl) (st5.out.fin (by omega) (sm_app (sm_app HL.out f (c%2) hf (by omega)) ⟨#[97,35]⟩ 1 (by decide +kernel) (by omega)) (by simp) _ rfl)
end Go.Proofs.Ytnhpacaoobpkhaa
