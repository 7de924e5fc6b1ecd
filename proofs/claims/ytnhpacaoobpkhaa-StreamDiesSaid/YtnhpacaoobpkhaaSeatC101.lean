import Derived.Test.YtnhpacaoobpkhaaSeat
namespace Go.Proofs.Ytnhpacaoobpkhaa
open Go.RowKit Go.Lib
set_option maxRecDepth 100000
set_option maxHeartbeats 4000000
theorem seatCon_0101 (a b c:Int)(A:Option Addr)(n cx:Nat)(l:List UInt8)(w:World)(a0:0≤a)(a1:a≤255)(b0:0≤b)(b1:b≤255)(c0:0≤c)(c1:c≤255)(hx:BytesAt w w.heap.size (.slice A n cx) l)(hn:n=l.length)(hl:l.length≤60)(hnil:A=none→cx=0)(h:a%5=0)(hb1:(c%3==0)=true)(hb2:(a%8==7)=false)(hb3:(b%10==9)=true) :
  Calls Try.prog 36 #[.int .u8 a,.int .u8 b,.int .u8 c,.slice A n cx] w (SConPost w A cx l):=by
 subst hn
 have HX:=Lib.hid hx
 have HNIL:=Lib.hid hnil
 clear hx hnil
 go_enter Try.func36,Try.ntmps36
 go_wp2_with ((with_reducible show wpList _ _ _ (⟨_,.store 28 (.tmp 9) _,_,_,_,_⟩ :: _) _ _);refine stL (w.heap.size+1+1) (by simp) _ (pkC {pk0 with kind:=1,level:=4,cli:=⟨#[107]⟩,clean:=(b%2==0),keep:=c%5} sv0) (by rfl) (by rfl) (by rfl) (by rfl) pk_sz (pk_one _ _) ?_)
 refine (Topic_any _ _ c0 c1).mono ?_
 rintro e w' ⟨t,rfl,ht,hbt⟩
 have r1a:=heap_below hbt (lst3 w _ _ _)
 have r1:w'.heap[w.heap.size+1+1]? = some (.cells (pkC {pk0 with kind:=1,level:=4,cli:=⟨#[107]⟩,clean:=(b%2==0),keep:=c%5} sv0) 28 (0,0)):=r1a
 clear r1a
 have r0:=heap_below hbt (fst3 w _ _ _)
 have bt:Below w.heap.size w w':=by (repeat (first | assumption | exact Below.refl _ _ | refine Below.setCell ?_ (by simp;omega) _ | (refine thn ?_ (by assumption)) | (refine alB ?_ _)))
 have C:=row_cells r1
 have F:=fun j=>frozen_of_row w' _ j _ _ r1
 have R1:=Lib.hid r1
 have R0:=Lib.hid r0
 clear hbt r1 r0
 have RW:w'.setCell ⟨w.heap.size+1+1,11,none⟩ (.bool true)=w'.setCell ⟨w.heap.size+1+1,11,none⟩ (.bool true):=rfl
 have r2:(w'.setCell ⟨w.heap.size+1+1,11,none⟩ (.bool true)).heap[w.heap.size+1+1]? = some (.cells (pkC {pk0 with kind:=1,level:=4,cli:=⟨#[107]⟩,clean:=(b%2==0),keep:=c%5,hw:=true} sv0) 28 (0,0)):=hset R1.out
 have R2:=Lib.hid r2
 clear r2 RW
 go_wp2_with (first
  | ((with_reducible show wpList _ _ _ (⟨_,.store 24 _ _,_,_,_,_⟩ :: _) _ _);refine st_will (w.heap.size+1+1) {pk0 with kind:=1,level:=4,cli:=⟨#[107]⟩,clean:=(b%2==0),keep:=c%5,hw:=true} sv0 t A cx l (a%3) (b%3==0) (by rfl) (by rfl) R2.out ?_;intro w3 hr3 ho3 hq3;have bw3:=hq3 w.heap.size w (by omega) (bt.setCell (by show w.heap.size≤w.heap.size+1+1;omega) _);have C3:=row_cells hr3;have F3:=fun j=>frozen_of_row w3 _ j _ _ hr3;replace hr3:=Lib.hid hr3;replace ho3:=Lib.hid ho3;clear hq3)
  | ((with_reducible show wpList _ _ _ (⟨_,.load 28 (.tmp 9),_,_,_,_⟩ :: _) _ _);refine ld_pk2 (w.heap.size+1+1) (by rfl) (by rfl) _ (pkC (seatC ⟨#[107]⟩ (b%2==0) (c%5) true t l (a%3) (b%3==0) false true) (seatS A cx true true)) 28 (0,0) (hset (hset (hset (hset hr3.out)))) (by kernel_rfl) (by rfl) ?_)
  | ((with_reducible show wpList _ _ _ (⟨_,.store 28 (.tmp 8) _,_,_,_,_⟩ :: _) _ _);refine stRs w.heap.size _ (pkC (seatC ⟨#[107]⟩ (b%2==0) (c%5) true t l (a%3) (b%3==0) false true) (seatS A cx true true)) (by rfl) (by rfl) (hset2 (show w.heap.size≠w.heap.size+1+1 by omega) (hset2 (show w.heap.size≠w.heap.size+1+1 by omega) (hset2 (show w.heap.size≠w.heap.size+1+1 by omega) (hset2 (show w.heap.size≠w.heap.size+1+1 by omega) ((ho3.out _ (show w.heap.size≠w.heap.size+1+1 by omega)).trans (hset2 (show w.heap.size≠w.heap.size+1+1 by omega) R0.out)))))) (by rfl) (by rfl) pk_sz (pk_one _ _) ?_))
 refine bodyPost_ret (v:=.agg (pkC (seatC ⟨#[107]⟩ (b%2==0) (c%5) true t l (a%3) (b%3==0) false true) (seatS A cx true true))) (results_cell_row (by rfl) _ _ w.heap.size 28 _ (0,0) _ (by rfl) (setRow_heap _ _ _ _ _ _ (hset2 (show w.heap.size≠w.heap.size+1+1 by omega) (hset2 (show w.heap.size≠w.heap.size+1+1 by omega) (hset2 (show w.heap.size≠w.heap.size+1+1 by omega) (hset2 (show w.heap.size≠w.heap.size+1+1 by omega) ((ho3.out _ (show w.heap.size≠w.heap.size+1+1 by omega)).trans (hset2 (show w.heap.size≠w.heap.size+1+1 by omega) R0.out))))))) Try.underlying28 (by rfl) (by exact pk_sz)) (by rfl) ⟨(seatC ⟨#[107]⟩ (b%2==0) (c%5) true t l (a%3) (b%3==0) false true),(seatS A cx true true),rfl,(fun w0 B h=>seatC_at A cx _ _ _ _ _ l _ _ _ _ h),seatS_nil A cx true true HNIL.out,seatC_ok _ _ _ _ _ _ _ _ _ _ (by decide +kernel) (by first | exact ht | decide +kernel) hl (by omega) (by omega) (by omega) (by omega),?_⟩
 exact below_setRow (by (repeat (first | assumption | exact Below.refl _ _ | refine Below.setCell ?_ (by simp;omega) _ | (refine thn ?_ (by assumption)) | (refine alB ?_ _)))) (Nat.le_refl _) _
theorem seatCon_1101 (a b c:Int)(A:Option Addr)(n cx:Nat)(l:List UInt8)(w:World)(a0:0≤a)(a1:a≤255)(b0:0≤b)(b1:b≤255)(c0:0≤c)(c1:c≤255)(hx:BytesAt w w.heap.size (.slice A n cx) l)(hn:n=l.length)(hl:l.length≤60)(hnil:A=none→cx=0)(h:a%5=1)(hb1:(c%3==0)=true)(hb2:(a%8==7)=false)(hb3:(b%10==9)=true) :
  Calls Try.prog 36 #[.int .u8 a,.int .u8 b,.int .u8 c,.slice A n cx] w (SConPost w A cx l):=by
 subst hn
 have HX:=Lib.hid hx
 have HNIL:=Lib.hid hnil
 clear hx hnil
 go_enter Try.func36,Try.ntmps36
 go_wp2_with ((with_reducible show wpList _ _ _ (⟨_,.store 28 (.tmp 9) _,_,_,_,_⟩ :: _) _ _);refine stL (w.heap.size+1+1) (by simp) _ (pkC {pk0 with kind:=1,level:=4,cli:=⟨#[108]⟩,clean:=(b%2==0),keep:=c%5} sv0) (by rfl) (by rfl) (by rfl) (by rfl) pk_sz (pk_one _ _) ?_)
 refine (Topic_any _ _ c0 c1).mono ?_
 rintro e w' ⟨t,rfl,ht,hbt⟩
 have r1a:=heap_below hbt (lst3 w _ _ _)
 have r1:w'.heap[w.heap.size+1+1]? = some (.cells (pkC {pk0 with kind:=1,level:=4,cli:=⟨#[108]⟩,clean:=(b%2==0),keep:=c%5} sv0) 28 (0,0)):=r1a
 clear r1a
 have r0:=heap_below hbt (fst3 w _ _ _)
 have bt:Below w.heap.size w w':=by (repeat (first | assumption | exact Below.refl _ _ | refine Below.setCell ?_ (by simp;omega) _ | (refine thn ?_ (by assumption)) | (refine alB ?_ _)))
 have C:=row_cells r1
 have F:=fun j=>frozen_of_row w' _ j _ _ r1
 have R1:=Lib.hid r1
 have R0:=Lib.hid r0
 clear hbt r1 r0
 have RW:w'.setCell ⟨w.heap.size+1+1,11,none⟩ (.bool true)=w'.setCell ⟨w.heap.size+1+1,11,none⟩ (.bool true):=rfl
 have r2:(w'.setCell ⟨w.heap.size+1+1,11,none⟩ (.bool true)).heap[w.heap.size+1+1]? = some (.cells (pkC {pk0 with kind:=1,level:=4,cli:=⟨#[108]⟩,clean:=(b%2==0),keep:=c%5,hw:=true} sv0) 28 (0,0)):=hset R1.out
 have R2:=Lib.hid r2
 clear r2 RW
 go_wp2_with (first
  | ((with_reducible show wpList _ _ _ (⟨_,.store 24 _ _,_,_,_,_⟩ :: _) _ _);refine st_will (w.heap.size+1+1) {pk0 with kind:=1,level:=4,cli:=⟨#[108]⟩,clean:=(b%2==0),keep:=c%5,hw:=true} sv0 t A cx l (a%3) (b%3==0) (by rfl) (by rfl) R2.out ?_;intro w3 hr3 ho3 hq3;have bw3:=hq3 w.heap.size w (by omega) (bt.setCell (by show w.heap.size≤w.heap.size+1+1;omega) _);have C3:=row_cells hr3;have F3:=fun j=>frozen_of_row w3 _ j _ _ hr3;replace hr3:=Lib.hid hr3;replace ho3:=Lib.hid ho3;clear hq3)
  | ((with_reducible show wpList _ _ _ (⟨_,.load 28 (.tmp 9),_,_,_,_⟩ :: _) _ _);refine ld_pk2 (w.heap.size+1+1) (by rfl) (by rfl) _ (pkC (seatC ⟨#[108]⟩ (b%2==0) (c%5) true t l (a%3) (b%3==0) false true) (seatS A cx true true)) 28 (0,0) (hset (hset (hset (hset hr3.out)))) (by kernel_rfl) (by rfl) ?_)
  | ((with_reducible show wpList _ _ _ (⟨_,.store 28 (.tmp 8) _,_,_,_,_⟩ :: _) _ _);refine stRs w.heap.size _ (pkC (seatC ⟨#[108]⟩ (b%2==0) (c%5) true t l (a%3) (b%3==0) false true) (seatS A cx true true)) (by rfl) (by rfl) (hset2 (show w.heap.size≠w.heap.size+1+1 by omega) (hset2 (show w.heap.size≠w.heap.size+1+1 by omega) (hset2 (show w.heap.size≠w.heap.size+1+1 by omega) (hset2 (show w.heap.size≠w.heap.size+1+1 by omega) ((ho3.out _ (show w.heap.size≠w.heap.size+1+1 by omega)).trans (hset2 (show w.heap.size≠w.heap.size+1+1 by omega) R0.out)))))) (by rfl) (by rfl) pk_sz (pk_one _ _) ?_))
 refine bodyPost_ret (v:=.agg (pkC (seatC ⟨#[108]⟩ (b%2==0) (c%5) true t l (a%3) (b%3==0) false true) (seatS A cx true true))) (results_cell_row (by rfl) _ _ w.heap.size 28 _ (0,0) _ (by rfl) (setRow_heap _ _ _ _ _ _ (hset2 (show w.heap.size≠w.heap.size+1+1 by omega) (hset2 (show w.heap.size≠w.heap.size+1+1 by omega) (hset2 (show w.heap.size≠w.heap.size+1+1 by omega) (hset2 (show w.heap.size≠w.heap.size+1+1 by omega) ((ho3.out _ (show w.heap.size≠w.heap.size+1+1 by omega)).trans (hset2 (show w.heap.size≠w.heap.size+1+1 by omega) R0.out))))))) Try.underlying28 (by rfl) (by exact pk_sz)) (by rfl) ⟨(seatC ⟨#[108]⟩ (b%2==0) (c%5) true t l (a%3) (b%3==0) false true),(seatS A cx true true),rfl,(fun w0 B h=>seatC_at A cx _ _ _ _ _ l _ _ _ _ h),seatS_nil A cx true true HNIL.out,seatC_ok _ _ _ _ _ _ _ _ _ _ (by decide +kernel) (by first | exact ht | decide +kernel) hl (by omega) (by omega) (by omega) (by omega),?_⟩
 exact below_setRow (by (repeat (first | assumption | exact Below.refl _ _ | refine Below.setCell ?_ (by simp;omega) _ | (refine thn ?_ (by assumption)) | (refine alB ?_ _)))) (Nat.le_refl _) _
theorem seatCon_2101 (a b c:Int)(A:Option Addr)(n cx:Nat)(l:List UInt8)(w:World)(a0:0≤a)(a1:a≤255)(b0:0≤b)(b1:b≤255)(c0:0≤c)(c1:c≤255)(hx:BytesAt w w.heap.size (.slice A n cx) l)(hn:n=l.length)(hl:l.length≤60)(hnil:A=none→cx=0)(h:a%5=2)(hb1:(c%3==0)=true)(hb2:(a%8==7)=false)(hb3:(b%10==9)=true) :
  Calls Try.prog 36 #[.int .u8 a,.int .u8 b,.int .u8 c,.slice A n cx] w (SConPost w A cx l):=by
 subst hn
 have HX:=Lib.hid hx
 have HNIL:=Lib.hid hnil
 clear hx hnil
 go_enter Try.func36,Try.ntmps36
 go_wp2_with ((with_reducible show wpList _ _ _ (⟨_,.store 28 (.tmp 9) _,_,_,_,_⟩ :: _) _ _);refine stL (w.heap.size+1+1) (by simp) _ (pkC {pk0 with kind:=1,level:=4,cli:=⟨#[109]⟩,clean:=(b%2==0),keep:=c%5} sv0) (by rfl) (by rfl) (by rfl) (by rfl) pk_sz (pk_one _ _) ?_)
 refine (Topic_any _ _ c0 c1).mono ?_
 rintro e w' ⟨t,rfl,ht,hbt⟩
 have r1a:=heap_below hbt (lst3 w _ _ _)
 have r1:w'.heap[w.heap.size+1+1]? = some (.cells (pkC {pk0 with kind:=1,level:=4,cli:=⟨#[109]⟩,clean:=(b%2==0),keep:=c%5} sv0) 28 (0,0)):=r1a
 clear r1a
 have r0:=heap_below hbt (fst3 w _ _ _)
 have bt:Below w.heap.size w w':=by (repeat (first | assumption | exact Below.refl _ _ | refine Below.setCell ?_ (by simp;omega) _ | (refine thn ?_ (by assumption)) | (refine alB ?_ _)))
 have C:=row_cells r1
 have F:=fun j=>frozen_of_row w' _ j _ _ r1
 have R1:=Lib.hid r1
 have R0:=Lib.hid r0
 clear hbt r1 r0
 have RW:w'.setCell ⟨w.heap.size+1+1,11,none⟩ (.bool true)=w'.setCell ⟨w.heap.size+1+1,11,none⟩ (.bool true):=rfl
 have r2:(w'.setCell ⟨w.heap.size+1+1,11,none⟩ (.bool true)).heap[w.heap.size+1+1]? = some (.cells (pkC {pk0 with kind:=1,level:=4,cli:=⟨#[109]⟩,clean:=(b%2==0),keep:=c%5,hw:=true} sv0) 28 (0,0)):=hset R1.out
 have R2:=Lib.hid r2
 clear r2 RW
 go_wp2_with (first
  | ((with_reducible show wpList _ _ _ (⟨_,.store 24 _ _,_,_,_,_⟩ :: _) _ _);refine st_will (w.heap.size+1+1) {pk0 with kind:=1,level:=4,cli:=⟨#[109]⟩,clean:=(b%2==0),keep:=c%5,hw:=true} sv0 t A cx l (a%3) (b%3==0) (by rfl) (by rfl) R2.out ?_;intro w3 hr3 ho3 hq3;have bw3:=hq3 w.heap.size w (by omega) (bt.setCell (by show w.heap.size≤w.heap.size+1+1;omega) _);have C3:=row_cells hr3;have F3:=fun j=>frozen_of_row w3 _ j _ _ hr3;replace hr3:=Lib.hid hr3;replace ho3:=Lib.hid ho3;clear hq3)
  | ((with_reducible show wpList _ _ _ (⟨_,.load 28 (.tmp 9),_,_,_,_⟩ :: _) _ _);refine ld_pk2 (w.heap.size+1+1) (by rfl) (by rfl) _ (pkC (seatC ⟨#[109]⟩ (b%2==0) (c%5) true t l (a%3) (b%3==0) false true) (seatS A cx true true)) 28 (0,0) (hset (hset (hset (hset hr3.out)))) (by kernel_rfl) (by rfl) ?_)
  | ((with_reducible show wpList _ _ _ (⟨_,.store 28 (.tmp 8) _,_,_,_,_⟩ :: _) _ _);refine stRs w.heap.size _ (pkC (seatC ⟨#[109]⟩ (b%2==0) (c%5) true t l (a%3) (b%3==0) false true) (seatS A cx true true)) (by rfl) (by rfl) (hset2 (show w.heap.size≠w.heap.size+1+1 by omega) (hset2 (show w.heap.size≠w.heap.size+1+1 by omega) (hset2 (show w.heap.size≠w.heap.size+1+1 by omega) (hset2 (show w.heap.size≠w.heap.size+1+1 by omega) ((ho3.out _ (show w.heap.size≠w.heap.size+1+1 by omega)).trans (hset2 (show w.heap.size≠w.heap.size+1+1 by omega) R0.out)))))) (by rfl) (by rfl) pk_sz (pk_one _ _) ?_))
 refine bodyPost_ret (v:=.agg (pkC (seatC ⟨#[109]⟩ (b%2==0) (c%5) true t l (a%3) (b%3==0) false true) (seatS A cx true true))) (results_cell_row (by rfl) _ _ w.heap.size 28 _ (0,0) _ (by rfl) (setRow_heap _ _ _ _ _ _ (hset2 (show w.heap.size≠w.heap.size+1+1 by omega) (hset2 (show w.heap.size≠w.heap.size+1+1 by omega) (hset2 (show w.heap.size≠w.heap.size+1+1 by omega) (hset2 (show w.heap.size≠w.heap.size+1+1 by omega) ((ho3.out _ (show w.heap.size≠w.heap.size+1+1 by omega)).trans (hset2 (show w.heap.size≠w.heap.size+1+1 by omega) R0.out))))))) Try.underlying28 (by rfl) (by exact pk_sz)) (by rfl) ⟨(seatC ⟨#[109]⟩ (b%2==0) (c%5) true t l (a%3) (b%3==0) false true),(seatS A cx true true),rfl,(fun w0 B h=>seatC_at A cx _ _ _ _ _ l _ _ _ _ h),seatS_nil A cx true true HNIL.out,seatC_ok _ _ _ _ _ _ _ _ _ _ (by decide +kernel) (by first | exact ht | decide +kernel) hl (by omega) (by omega) (by omega) (by omega),?_⟩
 exact below_setRow (by (repeat (first | assumption | exact Below.refl _ _ | refine Below.setCell ?_ (by simp;omega) _ | (refine thn ?_ (by assumption)) | (refine alB ?_ _)))) (Nat.le_refl _) _
theorem seatCon_3101 (a b c:Int)(A:Option Addr)(n cx:Nat)(l:List UInt8)(w:World)(a0:0≤a)(a1:a≤255)(b0:0≤b)(b1:b≤255)(c0:0≤c)(c1:c≤255)(hx:BytesAt w w.heap.size (.slice A n cx) l)(hn:n=l.length)(hl:l.length≤60)(hnil:A=none→cx=0)(h:a%5=3)(hb1:(c%3==0)=true)(hb2:(a%8==7)=false)(hb3:(b%10==9)=true) :
  Calls Try.prog 36 #[.int .u8 a,.int .u8 b,.int .u8 c,.slice A n cx] w (SConPost w A cx l):=by
 subst hn
 have HX:=Lib.hid hx
 have HNIL:=Lib.hid hnil
 clear hx hnil
 go_enter Try.func36,Try.ntmps36
 go_wp2_with ((with_reducible show wpList _ _ _ (⟨_,.store 28 (.tmp 9) _,_,_,_,_⟩ :: _) _ _);refine stL (w.heap.size+1+1) (by simp) _ (pkC {pk0 with kind:=1,level:=4,cli:=⟨#[195,169]⟩,clean:=(b%2==0),keep:=c%5} sv0) (by rfl) (by rfl) (by rfl) (by rfl) pk_sz (pk_one _ _) ?_)
 refine (Topic_any _ _ c0 c1).mono ?_
 rintro e w' ⟨t,rfl,ht,hbt⟩
 have r1a:=heap_below hbt (lst3 w _ _ _)
 have r1:w'.heap[w.heap.size+1+1]? = some (.cells (pkC {pk0 with kind:=1,level:=4,cli:=⟨#[195,169]⟩,clean:=(b%2==0),keep:=c%5} sv0) 28 (0,0)):=r1a
 clear r1a
 have r0:=heap_below hbt (fst3 w _ _ _)
 have bt:Below w.heap.size w w':=by (repeat (first | assumption | exact Below.refl _ _ | refine Below.setCell ?_ (by simp;omega) _ | (refine thn ?_ (by assumption)) | (refine alB ?_ _)))
 have C:=row_cells r1
 have F:=fun j=>frozen_of_row w' _ j _ _ r1
 have R1:=Lib.hid r1
 have R0:=Lib.hid r0
 clear hbt r1 r0
 have RW:w'.setCell ⟨w.heap.size+1+1,11,none⟩ (.bool true)=w'.setCell ⟨w.heap.size+1+1,11,none⟩ (.bool true):=rfl
 have r2:(w'.setCell ⟨w.heap.size+1+1,11,none⟩ (.bool true)).heap[w.heap.size+1+1]? = some (.cells (pkC {pk0 with kind:=1,level:=4,cli:=⟨#[195,169]⟩,clean:=(b%2==0),keep:=c%5,hw:=true} sv0) 28 (0,0)):=hset R1.out
 have R2:=Lib.hid r2
 clear r2 RW
 go_wp2_with (first
  | ((with_reducible show wpList _ _ _ (⟨_,.store 24 _ _,_,_,_,_⟩ :: _) _ _);refine st_will (w.heap.size+1+1) {pk0 with kind:=1,level:=4,cli:=⟨#[195,169]⟩,clean:=(b%2==0),keep:=c%5,hw:=true} sv0 t A cx l (a%3) (b%3==0) (by rfl) (by rfl) R2.out ?_;intro w3 hr3 ho3 hq3;have bw3:=hq3 w.heap.size w (by omega) (bt.setCell (by show w.heap.size≤w.heap.size+1+1;omega) _);have C3:=row_cells hr3;have F3:=fun j=>frozen_of_row w3 _ j _ _ hr3;replace hr3:=Lib.hid hr3;replace ho3:=Lib.hid ho3;clear hq3)
  | ((with_reducible show wpList _ _ _ (⟨_,.load 28 (.tmp 9),_,_,_,_⟩ :: _) _ _);refine ld_pk2 (w.heap.size+1+1) (by rfl) (by rfl) _ (pkC (seatC ⟨#[195,169]⟩ (b%2==0) (c%5) true t l (a%3) (b%3==0) false true) (seatS A cx true true)) 28 (0,0) (hset (hset (hset (hset hr3.out)))) (by kernel_rfl) (by rfl) ?_)
  | ((with_reducible show wpList _ _ _ (⟨_,.store 28 (.tmp 8) _,_,_,_,_⟩ :: _) _ _);refine stRs w.heap.size _ (pkC (seatC ⟨#[195,169]⟩ (b%2==0) (c%5) true t l (a%3) (b%3==0) false true) (seatS A cx true true)) (by rfl) (by rfl) (hset2 (show w.heap.size≠w.heap.size+1+1 by omega) (hset2 (show w.heap.size≠w.heap.size+1+1 by omega) (hset2 (show w.heap.size≠w.heap.size+1+1 by omega) (hset2 (show w.heap.size≠w.heap.size+1+1 by omega) ((ho3.out _ (show w.heap.size≠w.heap.size+1+1 by omega)).trans (hset2 (show w.heap.size≠w.heap.size+1+1 by omega) R0.out)))))) (by rfl) (by rfl) pk_sz (pk_one _ _) ?_))
 refine bodyPost_ret (v:=.agg (pkC (seatC ⟨#[195,169]⟩ (b%2==0) (c%5) true t l (a%3) (b%3==0) false true) (seatS A cx true true))) (results_cell_row (by rfl) _ _ w.heap.size 28 _ (0,0) _ (by rfl) (setRow_heap _ _ _ _ _ _ (hset2 (show w.heap.size≠w.heap.size+1+1 by omega) (hset2 (show w.heap.size≠w.heap.size+1+1 by omega) (hset2 (show w.heap.size≠w.heap.size+1+1 by omega) (hset2 (show w.heap.size≠w.heap.size+1+1 by omega) ((ho3.out _ (show w.heap.size≠w.heap.size+1+1 by omega)).trans (hset2 (show w.heap.size≠w.heap.size+1+1 by omega) R0.out))))))) Try.underlying28 (by rfl) (by exact pk_sz)) (by rfl) ⟨(seatC ⟨#[195,169]⟩ (b%2==0) (c%5) true t l (a%3) (b%3==0) false true),(seatS A cx true true),rfl,(fun w0 B h=>seatC_at A cx _ _ _ _ _ l _ _ _ _ h),seatS_nil A cx true true HNIL.out,seatC_ok _ _ _ _ _ _ _ _ _ _ (by decide +kernel) (by first | exact ht | decide +kernel) hl (by omega) (by omega) (by omega) (by omega),?_⟩
 exact below_setRow (by (repeat (first | assumption | exact Below.refl _ _ | refine Below.setCell ?_ (by simp;omega) _ | (refine thn ?_ (by assumption)) | (refine alB ?_ _)))) (Nat.le_refl _) _
theorem seatCon_4101 (a b c:Int)(A:Option Addr)(n cx:Nat)(l:List UInt8)(w:World)(a0:0≤a)(a1:a≤255)(b0:0≤b)(b1:b≤255)(c0:0≤c)(c1:c≤255)(hx:BytesAt w w.heap.size (.slice A n cx) l)(hn:n=l.length)(hl:l.length≤60)(hnil:A=none→cx=0)(h:a%5=4)(hb1:(c%3==0)=true)(hb2:(a%8==7)=false)(hb3:(b%10==9)=true) :
  Calls Try.prog 36 #[.int .u8 a,.int .u8 b,.int .u8 c,.slice A n cx] w (SConPost w A cx l):=by
 subst hn
 have HX:=Lib.hid hx
 have HNIL:=Lib.hid hnil
 clear hx hnil
 go_enter Try.func36,Try.ntmps36
 go_wp2_with ((with_reducible show wpList _ _ _ (⟨_,.store 28 (.tmp 9) _,_,_,_,_⟩ :: _) _ _);refine stL (w.heap.size+1+1) (by simp) _ (pkC {pk0 with kind:=1,level:=4,cli:=⟨#[]⟩,clean:=(b%2==0),keep:=c%5} sv0) (by rfl) (by rfl) (by rfl) (by rfl) pk_sz (pk_one _ _) ?_)
 refine (Topic_any _ _ c0 c1).mono ?_
 rintro e w' ⟨t,rfl,ht,hbt⟩
 have r1a:=heap_below hbt (lst3 w _ _ _)
 rw [show (pkC {pk0 with kind:=1,level:=4,cli:=⟨#[]⟩,clean:=(b%2==0),keep:=c%5} sv0).setIfInBounds 9 (.bool (decide (0<b%9)))=pkC {pk0 with kind:=1,level:=4,cli:=⟨#[]⟩,clean:=(decide (0<b%9)),keep:=c%5} sv0 by kernel_rfl] at r1a
 have r1:w'.heap[w.heap.size+1+1]? = some (.cells (pkC {pk0 with kind:=1,level:=4,cli:=⟨#[]⟩,clean:=(decide (0<b%9)),keep:=c%5} sv0) 28 (0,0)):=r1a
 clear r1a
 have r0:=heap_below hbt (fst3 w _ _ _)
 have bt:Below w.heap.size w w':=by (repeat (first | assumption | exact Below.refl _ _ | refine Below.setCell ?_ (by simp;omega) _ | (refine thn ?_ (by assumption)) | (refine alB ?_ _)))
 have C:=row_cells r1
 have F:=fun j=>frozen_of_row w' _ j _ _ r1
 have R1:=Lib.hid r1
 have R0:=Lib.hid r0
 clear hbt r1 r0
 have RW:w'.setCell ⟨w.heap.size+1+1,11,none⟩ (.bool true)=w'.setCell ⟨w.heap.size+1+1,11,none⟩ (.bool true):=rfl
 have r2:(w'.setCell ⟨w.heap.size+1+1,11,none⟩ (.bool true)).heap[w.heap.size+1+1]? = some (.cells (pkC {pk0 with kind:=1,level:=4,cli:=⟨#[]⟩,clean:=(decide (0<b%9)),keep:=c%5,hw:=true} sv0) 28 (0,0)):=hset R1.out
 have R2:=Lib.hid r2
 clear r2 RW
 go_wp2_with (first
  | ((with_reducible show wpList _ _ _ (⟨_,.store 24 _ _,_,_,_,_⟩ :: _) _ _);refine st_will (w.heap.size+1+1) {pk0 with kind:=1,level:=4,cli:=⟨#[]⟩,clean:=(decide (0<b%9)),keep:=c%5,hw:=true} sv0 t A cx l (a%3) (b%3==0) (by rfl) (by rfl) R2.out ?_;intro w3 hr3 ho3 hq3;have bw3:=hq3 w.heap.size w (by omega) (bt.setCell (by show w.heap.size≤w.heap.size+1+1;omega) _);have C3:=row_cells hr3;have F3:=fun j=>frozen_of_row w3 _ j _ _ hr3;replace hr3:=Lib.hid hr3;replace ho3:=Lib.hid ho3;clear hq3)
  | ((with_reducible show wpList _ _ _ (⟨_,.load 28 (.tmp 9),_,_,_,_⟩ :: _) _ _);refine ld_pk2 (w.heap.size+1+1) (by rfl) (by rfl) _ (pkC (seatC ⟨#[]⟩ (decide (0<b%9)) (c%5) true t l (a%3) (b%3==0) false true) (seatS A cx true true)) 28 (0,0) (hset (hset (hset (hset hr3.out)))) (by kernel_rfl) (by rfl) ?_)
  | ((with_reducible show wpList _ _ _ (⟨_,.store 28 (.tmp 8) _,_,_,_,_⟩ :: _) _ _);refine stRs w.heap.size _ (pkC (seatC ⟨#[]⟩ (decide (0<b%9)) (c%5) true t l (a%3) (b%3==0) false true) (seatS A cx true true)) (by rfl) (by rfl) (hset2 (show w.heap.size≠w.heap.size+1+1 by omega) (hset2 (show w.heap.size≠w.heap.size+1+1 by omega) (hset2 (show w.heap.size≠w.heap.size+1+1 by omega) (hset2 (show w.heap.size≠w.heap.size+1+1 by omega) ((ho3.out _ (show w.heap.size≠w.heap.size+1+1 by omega)).trans (hset2 (show w.heap.size≠w.heap.size+1+1 by omega) R0.out)))))) (by rfl) (by rfl) pk_sz (pk_one _ _) ?_))
 refine bodyPost_ret (v:=.agg (pkC (seatC ⟨#[]⟩ (decide (0<b%9)) (c%5) true t l (a%3) (b%3==0) false true) (seatS A cx true true))) (results_cell_row (by rfl) _ _ w.heap.size 28 _ (0,0) _ (by rfl) (setRow_heap _ _ _ _ _ _ (hset2 (show w.heap.size≠w.heap.size+1+1 by omega) (hset2 (show w.heap.size≠w.heap.size+1+1 by omega) (hset2 (show w.heap.size≠w.heap.size+1+1 by omega) (hset2 (show w.heap.size≠w.heap.size+1+1 by omega) ((ho3.out _ (show w.heap.size≠w.heap.size+1+1 by omega)).trans (hset2 (show w.heap.size≠w.heap.size+1+1 by omega) R0.out))))))) Try.underlying28 (by rfl) (by exact pk_sz)) (by rfl) ⟨(seatC ⟨#[]⟩ (decide (0<b%9)) (c%5) true t l (a%3) (b%3==0) false true),(seatS A cx true true),rfl,(fun w0 B h=>seatC_at A cx _ _ _ _ _ l _ _ _ _ h),seatS_nil A cx true true HNIL.out,seatC_ok _ _ _ _ _ _ _ _ _ _ (by decide +kernel) (by first | exact ht | decide +kernel) hl (by omega) (by omega) (by omega) (by omega),?_⟩
 exact below_setRow (by (repeat (first | assumption | exact Below.refl _ _ | refine Below.setCell ?_ (by simp;omega) _ | (refine thn ?_ (by assumption)) | (refine alB ?_ _)))) (Nat.le_refl _) _
end Go.Proofs.Ytnhpacaoobpkhaa
