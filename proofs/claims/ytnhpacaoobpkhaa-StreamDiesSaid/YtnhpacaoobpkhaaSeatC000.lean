import Derived.Test.YtnhpacaoobpkhaaSeat
namespace Go.Proofs.Ytnhpacaoobpkhaa
open Go.RowKit Go.Lib
set_option maxRecDepth 100000
set_option maxHeartbeats 4000000
theorem seatCon_0000 (a b c:Int)(A:Option Addr)(n cx:Nat)(l:List UInt8)(w:World)(a0:0≤a)(a1:a≤255)(b0:0≤b)(b1:b≤255)(c0:0≤c)(c1:c≤255)(hx:BytesAt w w.heap.size (.slice A n cx) l)(hn:n=l.length)(hl:l.length≤60)(hnil:A=none→cx=0)(h:a%5=0)(hb1:(c%3==0)=false)(hb2:(a%8==7)=false)(hb3:(b%10==9)=false) :
  Calls Try.prog 36 #[.int .u8 a,.int .u8 b,.int .u8 c,.slice A n cx] w (SConPost w A cx l):=by
 subst hn
 have HX:=Lib.hid hx
 have HNIL:=Lib.hid hnil
 clear hx hnil
 go_enter Try.func36,Try.ntmps36
 go_wp2_with (first
  | ((with_reducible show wpList _ _ _ (⟨_,.store 28 (.tmp 9) _,_,_,_,_⟩ :: _) _ _);refine stL (w.heap.size+1+1) (by simp) _ (pkC {pk0 with kind:=1,level:=4,cli:=⟨#[107]⟩,clean:=(b%2==0),keep:=c%5} sv0) (by rfl) (by rfl) (by rfl) (by rfl) pk_sz (pk_one _ _) ?_)
  | ((with_reducible show wpList _ _ _ (⟨_,.load 28 (.tmp 9),_,_,_,_⟩ :: _) _ _);refine ld_pk2 (w.heap.size+1+1) (by rfl) (by rfl) _ (pkC (seatC ⟨#[107]⟩ (b%2==0) (c%5) false ByteArray.empty l 0 false false false) (seatS A cx false false)) 28 (0,0) (by (repeat (first | with_reducible refine hset ?_ | with_reducible exact lst3 _ _ _ _))) (by kernel_rfl) (by rfl) ?_)
  | ((with_reducible show wpList _ _ _ (⟨_,.store 28 (.tmp 8) _,_,_,_,_⟩ :: _) _ _);refine stRs w.heap.size _ (pkC (seatC ⟨#[107]⟩ (b%2==0) (c%5) false ByteArray.empty l 0 false false false) (seatS A cx false false)) (by rfl) (by rfl) (by (repeat (first | with_reducible refine hset2 (by omega) ?_ | with_reducible exact fst3 _ _ _ _))) (by rfl) (by rfl) pk_sz (pk_one _ _) ?_))
 refine bodyPost_ret (v:=.agg (pkC (seatC ⟨#[107]⟩ (b%2==0) (c%5) false ByteArray.empty l 0 false false false) (seatS A cx false false))) (results_cell_row (by rfl) _ _ w.heap.size 28 _ (0,0) _ (by rfl) (setRow_heap _ _ _ _ _ _ (by (repeat (first | with_reducible refine hset2 (by omega) ?_ | with_reducible exact fst3 _ _ _ _)))) Try.underlying28 (by rfl) (by exact pk_sz)) (by rfl) ⟨(seatC ⟨#[107]⟩ (b%2==0) (c%5) false ByteArray.empty l 0 false false false),(seatS A cx false false),rfl,(fun w0 B h=>seatC_at A cx _ _ _ _ _ l _ _ _ _ h),seatS_nil A cx false false HNIL.out,seatC_ok _ _ _ _ _ _ _ _ _ _ (by decide +kernel) (by first | exact ht | decide +kernel) hl (by omega) (by omega) (by omega) (by omega),?_⟩
 exact below_setRow (by (repeat (first | assumption | exact Below.refl _ _ | refine Below.setCell ?_ (by simp;omega) _ | (refine thn ?_ (by assumption)) | (refine alB ?_ _)))) (Nat.le_refl _) _
theorem seatCon_1000 (a b c:Int)(A:Option Addr)(n cx:Nat)(l:List UInt8)(w:World)(a0:0≤a)(a1:a≤255)(b0:0≤b)(b1:b≤255)(c0:0≤c)(c1:c≤255)(hx:BytesAt w w.heap.size (.slice A n cx) l)(hn:n=l.length)(hl:l.length≤60)(hnil:A=none→cx=0)(h:a%5=1)(hb1:(c%3==0)=false)(hb2:(a%8==7)=false)(hb3:(b%10==9)=false) :
  Calls Try.prog 36 #[.int .u8 a,.int .u8 b,.int .u8 c,.slice A n cx] w (SConPost w A cx l):=by
 subst hn
 have HX:=Lib.hid hx
 have HNIL:=Lib.hid hnil
 clear hx hnil
 go_enter Try.func36,Try.ntmps36
 go_wp2_with (first
  | ((with_reducible show wpList _ _ _ (⟨_,.store 28 (.tmp 9) _,_,_,_,_⟩ :: _) _ _);refine stL (w.heap.size+1+1) (by simp) _ (pkC {pk0 with kind:=1,level:=4,cli:=⟨#[108]⟩,clean:=(b%2==0),keep:=c%5} sv0) (by rfl) (by rfl) (by rfl) (by rfl) pk_sz (pk_one _ _) ?_)
  | ((with_reducible show wpList _ _ _ (⟨_,.load 28 (.tmp 9),_,_,_,_⟩ :: _) _ _);refine ld_pk2 (w.heap.size+1+1) (by rfl) (by rfl) _ (pkC (seatC ⟨#[108]⟩ (b%2==0) (c%5) false ByteArray.empty l 0 false false false) (seatS A cx false false)) 28 (0,0) (by (repeat (first | with_reducible refine hset ?_ | with_reducible exact lst3 _ _ _ _))) (by kernel_rfl) (by rfl) ?_)
  | ((with_reducible show wpList _ _ _ (⟨_,.store 28 (.tmp 8) _,_,_,_,_⟩ :: _) _ _);refine stRs w.heap.size _ (pkC (seatC ⟨#[108]⟩ (b%2==0) (c%5) false ByteArray.empty l 0 false false false) (seatS A cx false false)) (by rfl) (by rfl) (by (repeat (first | with_reducible refine hset2 (by omega) ?_ | with_reducible exact fst3 _ _ _ _))) (by rfl) (by rfl) pk_sz (pk_one _ _) ?_))
 refine bodyPost_ret (v:=.agg (pkC (seatC ⟨#[108]⟩ (b%2==0) (c%5) false ByteArray.empty l 0 false false false) (seatS A cx false false))) (results_cell_row (by rfl) _ _ w.heap.size 28 _ (0,0) _ (by rfl) (setRow_heap _ _ _ _ _ _ (by (repeat (first | with_reducible refine hset2 (by omega) ?_ | with_reducible exact fst3 _ _ _ _)))) Try.underlying28 (by rfl) (by exact pk_sz)) (by rfl) ⟨(seatC ⟨#[108]⟩ (b%2==0) (c%5) false ByteArray.empty l 0 false false false),(seatS A cx false false),rfl,(fun w0 B h=>seatC_at A cx _ _ _ _ _ l _ _ _ _ h),seatS_nil A cx false false HNIL.out,seatC_ok _ _ _ _ _ _ _ _ _ _ (by decide +kernel) (by first | exact ht | decide +kernel) hl (by omega) (by omega) (by omega) (by omega),?_⟩
 exact below_setRow (by (repeat (first | assumption | exact Below.refl _ _ | refine Below.setCell ?_ (by simp;omega) _ | (refine thn ?_ (by assumption)) | (refine alB ?_ _)))) (Nat.le_refl _) _
theorem seatCon_2000 (a b c:Int)(A:Option Addr)(n cx:Nat)(l:List UInt8)(w:World)(a0:0≤a)(a1:a≤255)(b0:0≤b)(b1:b≤255)(c0:0≤c)(c1:c≤255)(hx:BytesAt w w.heap.size (.slice A n cx) l)(hn:n=l.length)(hl:l.length≤60)(hnil:A=none→cx=0)(h:a%5=2)(hb1:(c%3==0)=false)(hb2:(a%8==7)=false)(hb3:(b%10==9)=false) :
  Calls Try.prog 36 #[.int .u8 a,.int .u8 b,.int .u8 c,.slice A n cx] w (SConPost w A cx l):=by
 subst hn
 have HX:=Lib.hid hx
 have HNIL:=Lib.hid hnil
 clear hx hnil
 go_enter Try.func36,Try.ntmps36
 go_wp2_with (first
  | ((with_reducible show wpList _ _ _ (⟨_,.store 28 (.tmp 9) _,_,_,_,_⟩ :: _) _ _);refine stL (w.heap.size+1+1) (by simp) _ (pkC {pk0 with kind:=1,level:=4,cli:=⟨#[109]⟩,clean:=(b%2==0),keep:=c%5} sv0) (by rfl) (by rfl) (by rfl) (by rfl) pk_sz (pk_one _ _) ?_)
  | ((with_reducible show wpList _ _ _ (⟨_,.load 28 (.tmp 9),_,_,_,_⟩ :: _) _ _);refine ld_pk2 (w.heap.size+1+1) (by rfl) (by rfl) _ (pkC (seatC ⟨#[109]⟩ (b%2==0) (c%5) false ByteArray.empty l 0 false false false) (seatS A cx false false)) 28 (0,0) (by (repeat (first | with_reducible refine hset ?_ | with_reducible exact lst3 _ _ _ _))) (by kernel_rfl) (by rfl) ?_)
  | ((with_reducible show wpList _ _ _ (⟨_,.store 28 (.tmp 8) _,_,_,_,_⟩ :: _) _ _);refine stRs w.heap.size _ (pkC (seatC ⟨#[109]⟩ (b%2==0) (c%5) false ByteArray.empty l 0 false false false) (seatS A cx false false)) (by rfl) (by rfl) (by (repeat (first | with_reducible refine hset2 (by omega) ?_ | with_reducible exact fst3 _ _ _ _))) (by rfl) (by rfl) pk_sz (pk_one _ _) ?_))
 refine bodyPost_ret (v:=.agg (pkC (seatC ⟨#[109]⟩ (b%2==0) (c%5) false ByteArray.empty l 0 false false false) (seatS A cx false false))) (results_cell_row (by rfl) _ _ w.heap.size 28 _ (0,0) _ (by rfl) (setRow_heap _ _ _ _ _ _ (by (repeat (first | with_reducible refine hset2 (by omega) ?_ | with_reducible exact fst3 _ _ _ _)))) Try.underlying28 (by rfl) (by exact pk_sz)) (by rfl) ⟨(seatC ⟨#[109]⟩ (b%2==0) (c%5) false ByteArray.empty l 0 false false false),(seatS A cx false false),rfl,(fun w0 B h=>seatC_at A cx _ _ _ _ _ l _ _ _ _ h),seatS_nil A cx false false HNIL.out,seatC_ok _ _ _ _ _ _ _ _ _ _ (by decide +kernel) (by first | exact ht | decide +kernel) hl (by omega) (by omega) (by omega) (by omega),?_⟩
 exact below_setRow (by (repeat (first | assumption | exact Below.refl _ _ | refine Below.setCell ?_ (by simp;omega) _ | (refine thn ?_ (by assumption)) | (refine alB ?_ _)))) (Nat.le_refl _) _
theorem seatCon_3000 (a b c:Int)(A:Option Addr)(n cx:Nat)(l:List UInt8)(w:World)(a0:0≤a)(a1:a≤255)(b0:0≤b)(b1:b≤255)(c0:0≤c)(c1:c≤255)(hx:BytesAt w w.heap.size (.slice A n cx) l)(hn:n=l.length)(hl:l.length≤60)(hnil:A=none→cx=0)(h:a%5=3)(hb1:(c%3==0)=false)(hb2:(a%8==7)=false)(hb3:(b%10==9)=false) :
  Calls Try.prog 36 #[.int .u8 a,.int .u8 b,.int .u8 c,.slice A n cx] w (SConPost w A cx l):=by
 subst hn
 have HX:=Lib.hid hx
 have HNIL:=Lib.hid hnil
 clear hx hnil
 go_enter Try.func36,Try.ntmps36
 go_wp2_with (first
  | ((with_reducible show wpList _ _ _ (⟨_,.store 28 (.tmp 9) _,_,_,_,_⟩ :: _) _ _);refine stL (w.heap.size+1+1) (by simp) _ (pkC {pk0 with kind:=1,level:=4,cli:=⟨#[195,169]⟩,clean:=(b%2==0),keep:=c%5} sv0) (by rfl) (by rfl) (by rfl) (by rfl) pk_sz (pk_one _ _) ?_)
  | ((with_reducible show wpList _ _ _ (⟨_,.load 28 (.tmp 9),_,_,_,_⟩ :: _) _ _);refine ld_pk2 (w.heap.size+1+1) (by rfl) (by rfl) _ (pkC (seatC ⟨#[195,169]⟩ (b%2==0) (c%5) false ByteArray.empty l 0 false false false) (seatS A cx false false)) 28 (0,0) (by (repeat (first | with_reducible refine hset ?_ | with_reducible exact lst3 _ _ _ _))) (by kernel_rfl) (by rfl) ?_)
  | ((with_reducible show wpList _ _ _ (⟨_,.store 28 (.tmp 8) _,_,_,_,_⟩ :: _) _ _);refine stRs w.heap.size _ (pkC (seatC ⟨#[195,169]⟩ (b%2==0) (c%5) false ByteArray.empty l 0 false false false) (seatS A cx false false)) (by rfl) (by rfl) (by (repeat (first | with_reducible refine hset2 (by omega) ?_ | with_reducible exact fst3 _ _ _ _))) (by rfl) (by rfl) pk_sz (pk_one _ _) ?_))
 refine bodyPost_ret (v:=.agg (pkC (seatC ⟨#[195,169]⟩ (b%2==0) (c%5) false ByteArray.empty l 0 false false false) (seatS A cx false false))) (results_cell_row (by rfl) _ _ w.heap.size 28 _ (0,0) _ (by rfl) (setRow_heap _ _ _ _ _ _ (by (repeat (first | with_reducible refine hset2 (by omega) ?_ | with_reducible exact fst3 _ _ _ _)))) Try.underlying28 (by rfl) (by exact pk_sz)) (by rfl) ⟨(seatC ⟨#[195,169]⟩ (b%2==0) (c%5) false ByteArray.empty l 0 false false false),(seatS A cx false false),rfl,(fun w0 B h=>seatC_at A cx _ _ _ _ _ l _ _ _ _ h),seatS_nil A cx false false HNIL.out,seatC_ok _ _ _ _ _ _ _ _ _ _ (by decide +kernel) (by first | exact ht | decide +kernel) hl (by omega) (by omega) (by omega) (by omega),?_⟩
 exact below_setRow (by (repeat (first | assumption | exact Below.refl _ _ | refine Below.setCell ?_ (by simp;omega) _ | (refine thn ?_ (by assumption)) | (refine alB ?_ _)))) (Nat.le_refl _) _
theorem seatCon_4000 (a b c:Int)(A:Option Addr)(n cx:Nat)(l:List UInt8)(w:World)(a0:0≤a)(a1:a≤255)(b0:0≤b)(b1:b≤255)(c0:0≤c)(c1:c≤255)(hx:BytesAt w w.heap.size (.slice A n cx) l)(hn:n=l.length)(hl:l.length≤60)(hnil:A=none→cx=0)(h:a%5=4)(hb1:(c%3==0)=false)(hb2:(a%8==7)=false)(hb3:(b%10==9)=false) :
  Calls Try.prog 36 #[.int .u8 a,.int .u8 b,.int .u8 c,.slice A n cx] w (SConPost w A cx l):=by
 subst hn
 have HX:=Lib.hid hx
 have HNIL:=Lib.hid hnil
 clear hx hnil
 go_enter Try.func36,Try.ntmps36
 go_wp2_with (first
  | ((with_reducible show wpList _ _ _ (⟨_,.store 28 (.tmp 9) _,_,_,_,_⟩ :: _) _ _);refine stL (w.heap.size+1+1) (by simp) _ (pkC {pk0 with kind:=1,level:=4,cli:=⟨#[]⟩,clean:=(b%2==0),keep:=c%5} sv0) (by rfl) (by rfl) (by rfl) (by rfl) pk_sz (pk_one _ _) ?_)
  | ((with_reducible show wpList _ _ _ (⟨_,.load 28 (.tmp 9),_,_,_,_⟩ :: _) _ _);refine ld_pk2 (w.heap.size+1+1) (by rfl) (by rfl) _ (pkC (seatC ⟨#[]⟩ (decide (0<b%9)) (c%5) false ByteArray.empty l 0 false false false) (seatS A cx false false)) 28 (0,0) (by (repeat (first | with_reducible refine hset ?_ | with_reducible exact lst3 _ _ _ _))) (by kernel_rfl) (by rfl) ?_)
  | ((with_reducible show wpList _ _ _ (⟨_,.store 28 (.tmp 8) _,_,_,_,_⟩ :: _) _ _);refine stRs w.heap.size _ (pkC (seatC ⟨#[]⟩ (decide (0<b%9)) (c%5) false ByteArray.empty l 0 false false false) (seatS A cx false false)) (by rfl) (by rfl) (by (repeat (first | with_reducible refine hset2 (by omega) ?_ | with_reducible exact fst3 _ _ _ _))) (by rfl) (by rfl) pk_sz (pk_one _ _) ?_))
 refine bodyPost_ret (v:=.agg (pkC (seatC ⟨#[]⟩ (decide (0<b%9)) (c%5) false ByteArray.empty l 0 false false false) (seatS A cx false false))) (results_cell_row (by rfl) _ _ w.heap.size 28 _ (0,0) _ (by rfl) (setRow_heap _ _ _ _ _ _ (by (repeat (first | with_reducible refine hset2 (by omega) ?_ | with_reducible exact fst3 _ _ _ _)))) Try.underlying28 (by rfl) (by exact pk_sz)) (by rfl) ⟨(seatC ⟨#[]⟩ (decide (0<b%9)) (c%5) false ByteArray.empty l 0 false false false),(seatS A cx false false),rfl,(fun w0 B h=>seatC_at A cx _ _ _ _ _ l _ _ _ _ h),seatS_nil A cx false false HNIL.out,seatC_ok _ _ _ _ _ _ _ _ _ _ (by decide +kernel) (by first | exact ht | decide +kernel) hl (by omega) (by omega) (by omega) (by omega),?_⟩
 exact below_setRow (by (repeat (first | assumption | exact Below.refl _ _ | refine Below.setCell ?_ (by simp;omega) _ | (refine thn ?_ (by assumption)) | (refine alB ?_ _)))) (Nat.le_refl _) _
theorem seatCon_0001 (a b c:Int)(A:Option Addr)(n cx:Nat)(l:List UInt8)(w:World)(a0:0≤a)(a1:a≤255)(b0:0≤b)(b1:b≤255)(c0:0≤c)(c1:c≤255)(hx:BytesAt w w.heap.size (.slice A n cx) l)(hn:n=l.length)(hl:l.length≤60)(hnil:A=none→cx=0)(h:a%5=0)(hb1:(c%3==0)=false)(hb2:(a%8==7)=false)(hb3:(b%10==9)=true) :
  Calls Try.prog 36 #[.int .u8 a,.int .u8 b,.int .u8 c,.slice A n cx] w (SConPost w A cx l):=by
 subst hn
 have HX:=Lib.hid hx
 have HNIL:=Lib.hid hnil
 clear hx hnil
 go_enter Try.func36,Try.ntmps36
 go_wp2_with (first
  | ((with_reducible show wpList _ _ _ (⟨_,.store 28 (.tmp 9) _,_,_,_,_⟩ :: _) _ _);refine stL (w.heap.size+1+1) (by simp) _ (pkC {pk0 with kind:=1,level:=4,cli:=⟨#[107]⟩,clean:=(b%2==0),keep:=c%5} sv0) (by rfl) (by rfl) (by rfl) (by rfl) pk_sz (pk_one _ _) ?_)
  | ((with_reducible show wpList _ _ _ (⟨_,.load 28 (.tmp 9),_,_,_,_⟩ :: _) _ _);refine ld_pk2 (w.heap.size+1+1) (by rfl) (by rfl) _ (pkC (seatC ⟨#[107]⟩ (b%2==0) (c%5) false ByteArray.empty l 0 false false true) (seatS A cx false true)) 28 (0,0) (by (repeat (first | with_reducible refine hset ?_ | with_reducible exact lst3 _ _ _ _))) (by kernel_rfl) (by rfl) ?_)
  | ((with_reducible show wpList _ _ _ (⟨_,.store 28 (.tmp 8) _,_,_,_,_⟩ :: _) _ _);refine stRs w.heap.size _ (pkC (seatC ⟨#[107]⟩ (b%2==0) (c%5) false ByteArray.empty l 0 false false true) (seatS A cx false true)) (by rfl) (by rfl) (by (repeat (first | with_reducible refine hset2 (by omega) ?_ | with_reducible exact fst3 _ _ _ _))) (by rfl) (by rfl) pk_sz (pk_one _ _) ?_))
 refine bodyPost_ret (v:=.agg (pkC (seatC ⟨#[107]⟩ (b%2==0) (c%5) false ByteArray.empty l 0 false false true) (seatS A cx false true))) (results_cell_row (by rfl) _ _ w.heap.size 28 _ (0,0) _ (by rfl) (setRow_heap _ _ _ _ _ _ (by (repeat (first | with_reducible refine hset2 (by omega) ?_ | with_reducible exact fst3 _ _ _ _)))) Try.underlying28 (by rfl) (by exact pk_sz)) (by rfl) ⟨(seatC ⟨#[107]⟩ (b%2==0) (c%5) false ByteArray.empty l 0 false false true),(seatS A cx false true),rfl,(fun w0 B h=>seatC_at A cx _ _ _ _ _ l _ _ _ _ h),seatS_nil A cx false true HNIL.out,seatC_ok _ _ _ _ _ _ _ _ _ _ (by decide +kernel) (by first | exact ht | decide +kernel) hl (by omega) (by omega) (by omega) (by omega),?_⟩
 exact below_setRow (by (repeat (first | assumption | exact Below.refl _ _ | refine Below.setCell ?_ (by simp;omega) _ | (refine thn ?_ (by assumption)) | (refine alB ?_ _)))) (Nat.le_refl _) _
theorem seatCon_1001 (a b c:Int)(A:Option Addr)(n cx:Nat)(l:List UInt8)(w:World)(a0:0≤a)(a1:a≤255)(b0:0≤b)(b1:b≤255)(c0:0≤c)(c1:c≤255)(hx:BytesAt w w.heap.size (.slice A n cx) l)(hn:n=l.length)(hl:l.length≤60)(hnil:A=none→cx=0)(h:a%5=1)(hb1:(c%3==0)=false)(hb2:(a%8==7)=false)(hb3:(b%10==9)=true) :
  Calls Try.prog 36 #[.int .u8 a,.int .u8 b,.int .u8 c,.slice A n cx] w (SConPost w A cx l):=by
 subst hn
 have HX:=Lib.hid hx
 have HNIL:=Lib.hid hnil
 clear hx hnil
 go_enter Try.func36,Try.ntmps36
 go_wp2_with (first
  | ((with_reducible show wpList _ _ _ (⟨_,.store 28 (.tmp 9) _,_,_,_,_⟩ :: _) _ _);refine stL (w.heap.size+1+1) (by simp) _ (pkC {pk0 with kind:=1,level:=4,cli:=⟨#[108]⟩,clean:=(b%2==0),keep:=c%5} sv0) (by rfl) (by rfl) (by rfl) (by rfl) pk_sz (pk_one _ _) ?_)
  | ((with_reducible show wpList _ _ _ (⟨_,.load 28 (.tmp 9),_,_,_,_⟩ :: _) _ _);refine ld_pk2 (w.heap.size+1+1) (by rfl) (by rfl) _ (pkC (seatC ⟨#[108]⟩ (b%2==0) (c%5) false ByteArray.empty l 0 false false true) (seatS A cx false true)) 28 (0,0) (by (repeat (first | with_reducible refine hset ?_ | with_reducible exact lst3 _ _ _ _))) (by kernel_rfl) (by rfl) ?_)
  | ((with_reducible show wpList _ _ _ (⟨_,.store 28 (.tmp 8) _,_,_,_,_⟩ :: _) _ _);refine stRs w.heap.size _ (pkC (seatC ⟨#[108]⟩ (b%2==0) (c%5) false ByteArray.empty l 0 false false true) (seatS A cx false true)) (by rfl) (by rfl) (by (repeat (first | with_reducible refine hset2 (by omega) ?_ | with_reducible exact fst3 _ _ _ _))) (by rfl) (by rfl) pk_sz (pk_one _ _) ?_))
 refine bodyPost_ret (v:=.agg (pkC (seatC ⟨#[108]⟩ (b%2==0) (c%5) false ByteArray.empty l 0 false false true) (seatS A cx false true))) (results_cell_row (by rfl) _ _ w.heap.size 28 _ (0,0) _ (by rfl) (setRow_heap _ _ _ _ _ _ (by (repeat (first | with_reducible refine hset2 (by omega) ?_ | with_reducible exact fst3 _ _ _ _)))) Try.underlying28 (by rfl) (by exact pk_sz)) (by rfl) ⟨(seatC ⟨#[108]⟩ (b%2==0) (c%5) false ByteArray.empty l 0 false false true),(seatS A cx false true),rfl,(fun w0 B h=>seatC_at A cx _ _ _ _ _ l _ _ _ _ h),seatS_nil A cx false true HNIL.out,seatC_ok _ _ _ _ _ _ _ _ _ _ (by decide +kernel) (by first | exact ht | decide +kernel) hl (by omega) (by omega) (by omega) (by omega),?_⟩
 exact below_setRow (by (repeat (first | assumption | exact Below.refl _ _ | refine Below.setCell ?_ (by simp;omega) _ | (refine thn ?_ (by assumption)) | (refine alB ?_ _)))) (Nat.le_refl _) _
theorem seatCon_2001 (a b c:Int)(A:Option Addr)(n cx:Nat)(l:List UInt8)(w:World)(a0:0≤a)(a1:a≤255)(b0:0≤b)(b1:b≤255)(c0:0≤c)(c1:c≤255)(hx:BytesAt w w.heap.size (.slice A n cx) l)(hn:n=l.length)(hl:l.length≤60)(hnil:A=none→cx=0)(h:a%5=2)(hb1:(c%3==0)=false)(hb2:(a%8==7)=false)(hb3:(b%10==9)=true) :
  Calls Try.prog 36 #[.int .u8 a,.int .u8 b,.int .u8 c,.slice A n cx] w (SConPost w A cx l):=by
 subst hn
 have HX:=Lib.hid hx
 have HNIL:=Lib.hid hnil
 clear hx hnil
 go_enter Try.func36,Try.ntmps36
 go_wp2_with (first
  | ((with_reducible show wpList _ _ _ (⟨_,.store 28 (.tmp 9) _,_,_,_,_⟩ :: _) _ _);refine stL (w.heap.size+1+1) (by simp) _ (pkC {pk0 with kind:=1,level:=4,cli:=⟨#[109]⟩,clean:=(b%2==0),keep:=c%5} sv0) (by rfl) (by rfl) (by rfl) (by rfl) pk_sz (pk_one _ _) ?_)
  | ((with_reducible show wpList _ _ _ (⟨_,.load 28 (.tmp 9),_,_,_,_⟩ :: _) _ _);refine ld_pk2 (w.heap.size+1+1) (by rfl) (by rfl) _ (pkC (seatC ⟨#[109]⟩ (b%2==0) (c%5) false ByteArray.empty l 0 false false true) (seatS A cx false true)) 28 (0,0) (by (repeat (first | with_reducible refine hset ?_ | with_reducible exact lst3 _ _ _ _))) (by kernel_rfl) (by rfl) ?_)
  | ((with_reducible show wpList _ _ _ (⟨_,.store 28 (.tmp 8) _,_,_,_,_⟩ :: _) _ _);refine stRs w.heap.size _ (pkC (seatC ⟨#[109]⟩ (b%2==0) (c%5) false ByteArray.empty l 0 false false true) (seatS A cx false true)) (by rfl) (by rfl) (by (repeat (first | with_reducible refine hset2 (by omega) ?_ | with_reducible exact fst3 _ _ _ _))) (by rfl) (by rfl) pk_sz (pk_one _ _) ?_))
 refine bodyPost_ret (v:=.agg (pkC (seatC ⟨#[109]⟩ (b%2==0) (c%5) false ByteArray.empty l 0 false false true) (seatS A cx false true))) (results_cell_row (by rfl) _ _ w.heap.size 28 _ (0,0) _ (by rfl) (setRow_heap _ _ _ _ _ _ (by (repeat (first | with_reducible refine hset2 (by omega) ?_ | with_reducible exact fst3 _ _ _ _)))) Try.underlying28 (by rfl) (by exact pk_sz)) (by rfl) ⟨(seatC ⟨#[109]⟩ (b%2==0) (c%5) false ByteArray.empty l 0 false false true),(seatS A cx false true),rfl,(fun w0 B h=>seatC_at A cx _ _ _ _ _ l _ _ _ _ h),seatS_nil A cx false true HNIL.out,seatC_ok _ _ _ _ _ _ _ _ _ _ (by decide +kernel) (by first | exact ht | decide +kernel) hl (by omega) (by omega) (by omega) (by omega),?_⟩
 exact below_setRow (by (repeat (first | assumption | exact Below.refl _ _ | refine Below.setCell ?_ (by simp;omega) _ | (refine thn ?_ (by assumption)) | (refine alB ?_ _)))) (Nat.le_refl _) _
theorem seatCon_3001 (a b c:Int)(A:Option Addr)(n cx:Nat)(l:List UInt8)(w:World)(a0:0≤a)(a1:a≤255)(b0:0≤b)(b1:b≤255)(c0:0≤c)(c1:c≤255)(hx:BytesAt w w.heap.size (.slice A n cx) l)(hn:n=l.length)(hl:l.length≤60)(hnil:A=none→cx=0)(h:a%5=3)(hb1:(c%3==0)=false)(hb2:(a%8==7)=false)(hb3:(b%10==9)=true) :
  Calls Try.prog 36 #[.int .u8 a,.int .u8 b,.int .u8 c,.slice A n cx] w (SConPost w A cx l):=by
 subst hn
 have HX:=Lib.hid hx
 have HNIL:=Lib.hid hnil
 clear hx hnil
 go_enter Try.func36,Try.ntmps36
 go_wp2_with (first
  | ((with_reducible show wpList _ _ _ (⟨_,.store 28 (.tmp 9) _,_,_,_,_⟩ :: _) _ _);refine stL (w.heap.size+1+1) (by simp) _ (pkC {pk0 with kind:=1,level:=4,cli:=⟨#[195,169]⟩,clean:=(b%2==0),keep:=c%5} sv0) (by rfl) (by rfl) (by rfl) (by rfl) pk_sz (pk_one _ _) ?_)
  | ((with_reducible show wpList _ _ _ (⟨_,.load 28 (.tmp 9),_,_,_,_⟩ :: _) _ _);refine ld_pk2 (w.heap.size+1+1) (by rfl) (by rfl) _ (pkC (seatC ⟨#[195,169]⟩ (b%2==0) (c%5) false ByteArray.empty l 0 false false true) (seatS A cx false true)) 28 (0,0) (by (repeat (first | with_reducible refine hset ?_ | with_reducible exact lst3 _ _ _ _))) (by kernel_rfl) (by rfl) ?_)
  | ((with_reducible show wpList _ _ _ (⟨_,.store 28 (.tmp 8) _,_,_,_,_⟩ :: _) _ _);refine stRs w.heap.size _ (pkC (seatC ⟨#[195,169]⟩ (b%2==0) (c%5) false ByteArray.empty l 0 false false true) (seatS A cx false true)) (by rfl) (by rfl) (by (repeat (first | with_reducible refine hset2 (by omega) ?_ | with_reducible exact fst3 _ _ _ _))) (by rfl) (by rfl) pk_sz (pk_one _ _) ?_))
 refine bodyPost_ret (v:=.agg (pkC (seatC ⟨#[195,169]⟩ (b%2==0) (c%5) false ByteArray.empty l 0 false false true) (seatS A cx false true))) (results_cell_row (by rfl) _ _ w.heap.size 28 _ (0,0) _ (by rfl) (setRow_heap _ _ _ _ _ _ (by (repeat (first | with_reducible refine hset2 (by omega) ?_ | with_reducible exact fst3 _ _ _ _)))) Try.underlying28 (by rfl) (by exact pk_sz)) (by rfl) ⟨(seatC ⟨#[195,169]⟩ (b%2==0) (c%5) false ByteArray.empty l 0 false false true),(seatS A cx false true),rfl,(fun w0 B h=>seatC_at A cx _ _ _ _ _ l _ _ _ _ h),seatS_nil A cx false true HNIL.out,seatC_ok _ _ _ _ _ _ _ _ _ _ (by decide +kernel) (by first | exact ht | decide +kernel) hl (by omega) (by omega) (by omega) (by omega),?_⟩
 exact below_setRow (by (repeat (first | assumption | exact Below.refl _ _ | refine Below.setCell ?_ (by simp;omega) _ | (refine thn ?_ (by assumption)) | (refine alB ?_ _)))) (Nat.le_refl _) _
theorem seatCon_4001 (a b c:Int)(A:Option Addr)(n cx:Nat)(l:List UInt8)(w:World)(a0:0≤a)(a1:a≤255)(b0:0≤b)(b1:b≤255)(c0:0≤c)(c1:c≤255)(hx:BytesAt w w.heap.size (.slice A n cx) l)(hn:n=l.length)(hl:l.length≤60)(hnil:A=none→cx=0)(h:a%5=4)(hb1:(c%3==0)=false)(hb2:(a%8==7)=false)(hb3:(b%10==9)=true) :
  Calls Try.prog 36 #[.int .u8 a,.int .u8 b,.int .u8 c,.slice A n cx] w (SConPost w A cx l):=by
 subst hn
 have HX:=Lib.hid hx
 have HNIL:=Lib.hid hnil
 clear hx hnil
 go_enter Try.func36,Try.ntmps36
 go_wp2_with (first
  | ((with_reducible show wpList _ _ _ (⟨_,.store 28 (.tmp 9) _,_,_,_,_⟩ :: _) _ _);refine stL (w.heap.size+1+1) (by simp) _ (pkC {pk0 with kind:=1,level:=4,cli:=⟨#[]⟩,clean:=(b%2==0),keep:=c%5} sv0) (by rfl) (by rfl) (by rfl) (by rfl) pk_sz (pk_one _ _) ?_)
  | ((with_reducible show wpList _ _ _ (⟨_,.load 28 (.tmp 9),_,_,_,_⟩ :: _) _ _);refine ld_pk2 (w.heap.size+1+1) (by rfl) (by rfl) _ (pkC (seatC ⟨#[]⟩ (decide (0<b%9)) (c%5) false ByteArray.empty l 0 false false true) (seatS A cx false true)) 28 (0,0) (by (repeat (first | with_reducible refine hset ?_ | with_reducible exact lst3 _ _ _ _))) (by kernel_rfl) (by rfl) ?_)
  | ((with_reducible show wpList _ _ _ (⟨_,.store 28 (.tmp 8) _,_,_,_,_⟩ :: _) _ _);refine stRs w.heap.size _ (pkC (seatC ⟨#[]⟩ (decide (0<b%9)) (c%5) false ByteArray.empty l 0 false false true) (seatS A cx false true)) (by rfl) (by rfl) (by (repeat (first | with_reducible refine hset2 (by omega) ?_ | with_reducible exact fst3 _ _ _ _))) (by rfl) (by rfl) pk_sz (pk_one _ _) ?_))
 refine bodyPost_ret (v:=.agg (pkC (seatC ⟨#[]⟩ (decide (0<b%9)) (c%5) false ByteArray.empty l 0 false false true) (seatS A cx false true))) (results_cell_row (by rfl) _ _ w.heap.size 28 _ (0,0) _ (by rfl) (setRow_heap _ _ _ _ _ _ (by (repeat (first | with_reducible refine hset2 (by omega) ?_ | with_reducible exact fst3 _ _ _ _)))) Try.underlying28 (by rfl) (by exact pk_sz)) (by rfl) ⟨(seatC ⟨#[]⟩ (decide (0<b%9)) (c%5) false ByteArray.empty l 0 false false true),(seatS A cx false true),rfl,(fun w0 B h=>seatC_at A cx _ _ _ _ _ l _ _ _ _ h),seatS_nil A cx false true HNIL.out,seatC_ok _ _ _ _ _ _ _ _ _ _ (by decide +kernel) (by first | exact ht | decide +kernel) hl (by omega) (by omega) (by omega) (by omega),?_⟩
 exact below_setRow (by (repeat (first | assumption | exact Below.refl _ _ | refine Below.setCell ?_ (by simp;omega) _ | (refine thn ?_ (by assumption)) | (refine alB ?_ _)))) (Nat.le_refl _) _
end Go.Proofs.Ytnhpacaoobpkhaa
