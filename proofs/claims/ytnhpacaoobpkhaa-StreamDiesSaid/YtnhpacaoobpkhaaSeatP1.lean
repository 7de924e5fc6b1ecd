import Derived.Test.YtnhpacaoobpkhaaSeat
namespace Go.Proofs.Ytnhpacaoobpkhaa
open Go.RowKit Go.Lib
set_option linter.unusedVariables false
set_option maxRecDepth 100000
set_option maxHeartbeats 1000000
theorem plain_ok (k i:Int)(hk:i64In k)(hi:i64In i):PkOk {pk0 with kind:=k,id:=i}:=ok_of k i ByteArray.empty hk hi (by decide)
theorem plain_at (k i:Int)(w:World)(B:Nat):PkAt w B {pk0 with kind:=k,id:=i} sv0:=⟨(pk0_at w B).pay,(pk0_at w B).wpay,(pk0_at w B).pass,(pk0_at w B).subs,(pk0_at w B).codes⟩
theorem seatP_8 (k a b c:Int)(A:Option Addr)(n cx:Nat)(l:List UInt8)(w:World)(k0:0≤k)(k1:k≤255)(a0:0≤a)(a1:a≤255)(b0:0≤b)(b1:b≤255)(c0:0≤c)(c1:c≤255)(hx:BytesAt w w.heap.size (.slice A n cx) l)(hn:n=l.length)(hl:l.length≤60)(hnil:A=none→cx=0)(h:k%15=8) :
  Calls Try.prog 15 #[.int .u8 k,.int .u8 a,.int .u8 b,.int .u8 c,.slice A n cx] w (SeatPost w):=by
 clear hx hl hnil
 go_enter Try.func15,Try.ntmps15
 go_wp2_with ((with_reducible show wpList _ _ _ (⟨_,.store 28 (.tmp 10) _,_,_,_,_⟩ :: _) _ _);refine stL w.heap.size (by rfl) _ (pkC {pk0 with kind:=4,id:=(b%7+1)} sv0) (by rfl) (by rfl) (by rfl) (by rfl) pk_sz (pk_one _ _) ?_)
 exact bodyPost_ret (v:=.agg (pkC {pk0 with kind:=4,id:=(b%7+1)} sv0)) (results_cell_row (by rfl) _ _ w.heap.size 28 _ (0,0) _ (by rfl) (heap_alloc_new _ _) Try.underlying28 (by rfl) (by exact pk_sz)) (by rfl) ⟨_,_,rfl,plain_at _ _ _ _,sv0_nil,⟨plain_ok _ _ (i64_small (by omega) (by omega)) (i64_small (by omega) (by omega)),splain_right _ _ (by omega)⟩,by (repeat (first | assumption | exact Below.refl _ _ | exact (Below.refl _ _).alloc (Nat.le_refl _) _ | (refine thn ?_ (by assumption)) | (refine alB ?_ _) | (refine dwN ?_ _) | (refine Below.drew ?_)))⟩
theorem seatP_9 (k a b c:Int)(A:Option Addr)(n cx:Nat)(l:List UInt8)(w:World)(k0:0≤k)(k1:k≤255)(a0:0≤a)(a1:a≤255)(b0:0≤b)(b1:b≤255)(c0:0≤c)(c1:c≤255)(hx:BytesAt w w.heap.size (.slice A n cx) l)(hn:n=l.length)(hl:l.length≤60)(hnil:A=none→cx=0)(h:k%15=9) :
  Calls Try.prog 15 #[.int .u8 k,.int .u8 a,.int .u8 b,.int .u8 c,.slice A n cx] w (SeatPost w):=by
 clear hx hl hnil
 go_enter Try.func15,Try.ntmps15
 go_wp2_with ((with_reducible show wpList _ _ _ (⟨_,.store 28 (.tmp 10) _,_,_,_,_⟩ :: _) _ _);refine stL w.heap.size (by rfl) _ (pkC {pk0 with kind:=5,id:=(b%7+1)} sv0) (by rfl) (by rfl) (by rfl) (by rfl) pk_sz (pk_one _ _) ?_)
 exact bodyPost_ret (v:=.agg (pkC {pk0 with kind:=5,id:=(b%7+1)} sv0)) (results_cell_row (by rfl) _ _ w.heap.size 28 _ (0,0) _ (by rfl) (heap_alloc_new _ _) Try.underlying28 (by rfl) (by exact pk_sz)) (by rfl) ⟨_,_,rfl,plain_at _ _ _ _,sv0_nil,⟨plain_ok _ _ (i64_small (by omega) (by omega)) (i64_small (by omega) (by omega)),splain_right _ _ (by omega)⟩,by (repeat (first | assumption | exact Below.refl _ _ | exact (Below.refl _ _).alloc (Nat.le_refl _) _ | (refine thn ?_ (by assumption)) | (refine alB ?_ _) | (refine dwN ?_ _) | (refine Below.drew ?_)))⟩
theorem seatP_10 (k a b c:Int)(A:Option Addr)(n cx:Nat)(l:List UInt8)(w:World)(k0:0≤k)(k1:k≤255)(a0:0≤a)(a1:a≤255)(b0:0≤b)(b1:b≤255)(c0:0≤c)(c1:c≤255)(hx:BytesAt w w.heap.size (.slice A n cx) l)(hn:n=l.length)(hl:l.length≤60)(hnil:A=none→cx=0)(h:k%15=10) :
  Calls Try.prog 15 #[.int .u8 k,.int .u8 a,.int .u8 b,.int .u8 c,.slice A n cx] w (SeatPost w):=by
 clear hx hl hnil
 go_enter Try.func15,Try.ntmps15
 go_wp2_with ((with_reducible show wpList _ _ _ (⟨_,.store 28 (.tmp 10) _,_,_,_,_⟩ :: _) _ _);refine stL w.heap.size (by rfl) _ (pkC {pk0 with kind:=7,id:=(b%7+1)} sv0) (by rfl) (by rfl) (by rfl) (by rfl) pk_sz (pk_one _ _) ?_)
 exact bodyPost_ret (v:=.agg (pkC {pk0 with kind:=7,id:=(b%7+1)} sv0)) (results_cell_row (by rfl) _ _ w.heap.size 28 _ (0,0) _ (by rfl) (heap_alloc_new _ _) Try.underlying28 (by rfl) (by exact pk_sz)) (by rfl) ⟨_,_,rfl,plain_at _ _ _ _,sv0_nil,⟨plain_ok _ _ (i64_small (by omega) (by omega)) (i64_small (by omega) (by omega)),splain_right _ _ (by omega)⟩,by (repeat (first | assumption | exact Below.refl _ _ | exact (Below.refl _ _).alloc (Nat.le_refl _) _ | (refine thn ?_ (by assumption)) | (refine alB ?_ _) | (refine dwN ?_ _) | (refine Below.drew ?_)))⟩
theorem seatP_11 (k a b c:Int)(A:Option Addr)(n cx:Nat)(l:List UInt8)(w:World)(k0:0≤k)(k1:k≤255)(a0:0≤a)(a1:a≤255)(b0:0≤b)(b1:b≤255)(c0:0≤c)(c1:c≤255)(hx:BytesAt w w.heap.size (.slice A n cx) l)(hn:n=l.length)(hl:l.length≤60)(hnil:A=none→cx=0)(h:k%15=11) :
  Calls Try.prog 15 #[.int .u8 k,.int .u8 a,.int .u8 b,.int .u8 c,.slice A n cx] w (SeatPost w):=by
 clear hx hl hnil
 go_enter Try.func15,Try.ntmps15
 go_wp2_with ((with_reducible show wpList _ _ _ (⟨_,.store 28 (.tmp 10) _,_,_,_,_⟩ :: _) _ _);refine stL w.heap.size (by rfl) _ (pkC {pk0 with kind:=6,id:=(c%5+1)} sv0) (by rfl) (by rfl) (by rfl) (by rfl) pk_sz (pk_one _ _) ?_)
 exact bodyPost_ret (v:=.agg (pkC {pk0 with kind:=6,id:=(c%5+1)} sv0)) (results_cell_row (by rfl) _ _ w.heap.size 28 _ (0,0) _ (by rfl) (heap_alloc_new _ _) Try.underlying28 (by rfl) (by exact pk_sz)) (by rfl) ⟨_,_,rfl,plain_at _ _ _ _,sv0_nil,⟨plain_ok _ _ (i64_small (by omega) (by omega)) (i64_small (by omega) (by omega)),splain_right _ _ (by omega)⟩,by (repeat (first | assumption | exact Below.refl _ _ | exact (Below.refl _ _).alloc (Nat.le_refl _) _ | (refine thn ?_ (by assumption)) | (refine alB ?_ _) | (refine dwN ?_ _) | (refine Below.drew ?_)))⟩
theorem seatP_12 (k a b c:Int)(A:Option Addr)(n cx:Nat)(l:List UInt8)(w:World)(k0:0≤k)(k1:k≤255)(a0:0≤a)(a1:a≤255)(b0:0≤b)(b1:b≤255)(c0:0≤c)(c1:c≤255)(hx:BytesAt w w.heap.size (.slice A n cx) l)(hn:n=l.length)(hl:l.length≤60)(hnil:A=none→cx=0)(h:k%15=12) :
  Calls Try.prog 15 #[.int .u8 k,.int .u8 a,.int .u8 b,.int .u8 c,.slice A n cx] w (SeatPost w):=by
 clear hx hl hnil
 go_enter Try.func15,Try.ntmps15
 go_wp2_with ((with_reducible show wpList _ _ _ (⟨_,.store 28 (.tmp 10) _,_,_,_,_⟩ :: _) _ _);refine stL w.heap.size (by rfl) _ (pkC {pk0 with kind:=12,id:=0} sv0) (by rfl) (by rfl) (by rfl) (by rfl) pk_sz (pk_one _ _) ?_)
 exact bodyPost_ret (v:=.agg (pkC {pk0 with kind:=12,id:=0} sv0)) (results_cell_row (by rfl) _ _ w.heap.size 28 _ (0,0) _ (by rfl) (heap_alloc_new _ _) Try.underlying28 (by rfl) (by exact pk_sz)) (by rfl) ⟨_,_,rfl,plain_at _ _ _ _,sv0_nil,⟨plain_ok _ _ (i64_small (by omega) (by omega)) (i64_small (by omega) (by omega)),splain_right _ _ (by omega)⟩,by (repeat (first | assumption | exact Below.refl _ _ | exact (Below.refl _ _).alloc (Nat.le_refl _) _ | (refine thn ?_ (by assumption)) | (refine alB ?_ _) | (refine dwN ?_ _) | (refine Below.drew ?_)))⟩
theorem seatP_14 (k a b c:Int)(A:Option Addr)(n cx:Nat)(l:List UInt8)(w:World)(k0:0≤k)(k1:k≤255)(a0:0≤a)(a1:a≤255)(b0:0≤b)(b1:b≤255)(c0:0≤c)(c1:c≤255)(hx:BytesAt w w.heap.size (.slice A n cx) l)(hn:n=l.length)(hl:l.length≤60)(hnil:A=none→cx=0)(h:k%15=14) :
  Calls Try.prog 15 #[.int .u8 k,.int .u8 a,.int .u8 b,.int .u8 c,.slice A n cx] w (SeatPost w):=by
 clear hx hl hnil
 go_enter Try.func15,Try.ntmps15
 go_wp2_with ((with_reducible show wpList _ _ _ (⟨_,.store 28 (.tmp 10) _,_,_,_,_⟩ :: _) _ _);refine stL w.heap.size (by rfl) _ (pkC {pk0 with kind:=14,id:=0} sv0) (by rfl) (by rfl) (by rfl) (by rfl) pk_sz (pk_one _ _) ?_)
 exact bodyPost_ret (v:=.agg (pkC {pk0 with kind:=14,id:=0} sv0)) (results_cell_row (by rfl) _ _ w.heap.size 28 _ (0,0) _ (by rfl) (heap_alloc_new _ _) Try.underlying28 (by rfl) (by exact pk_sz)) (by rfl) ⟨_,_,rfl,plain_at _ _ _ _,sv0_nil,⟨plain_ok _ _ (i64_small (by omega) (by omega)) (i64_small (by omega) (by omega)),splain_right _ _ (by omega)⟩,by (repeat (first | assumption | exact Below.refl _ _ | exact (Below.refl _ _).alloc (Nat.le_refl _) _ | (refine thn ?_ (by assumption)) | (refine alB ?_ _) | (refine dwN ?_ _) | (refine Below.drew ?_)))⟩
theorem pub_at {w:World}{B:Nat}{A:Option Addr}{cx:Nat}(d r:Bool)(q i:Int)(t:ByteArray)(l:List UInt8)(h:BytesAt w B (.slice A l.length cx) l):PkAt w B {pk0 with kind:=3,dup:=d,ret:=r,qos:=q,id:=i,top:=t,pay:=l} {sv0 with pA:=A,pC:=cx}:=⟨h,(pk0_at w B).wpay,(pk0_at w B).pass,(pk0_at w B).subs,(pk0_at w B).codes⟩
theorem pub_ok (d r:Bool)(q i:Int)(t:ByteArray)(l:List UInt8)(h1:t.size≤1000000)(h2:l.length≤1000000)(h3:i64In q)(h4:i64In i):PkOk {pk0 with kind:=3,dup:=d,ret:=r,qos:=q,id:=i,top:=t,pay:=l} :=
 ⟨(show i64In 3 from i64_small (by omega) (by omega)),h3,h4,i64_0,i64_0,i64_0,i64_0,h1,h2,pk0_ok.cli,pk0_ok.wtop,pk0_ok.wpay,pk0_ok.user,pk0_ok.pass,pk0_ok.subs,pk0_ok.codes,pk0_ok.sub,pk0_ok.cod⟩
theorem seatP_pub00 (k a b c:Int)(A:Option Addr)(n cx:Nat)(l:List UInt8)(w:World)(k0:0≤k)(k1:k≤255)(a0:0≤a)(a1:a≤255)(b0:0≤b)(b1:b≤255)(c0:0≤c)(c1:c≤255)(hx:BytesAt w w.heap.size (.slice A n cx) l)(hn:n=l.length)(hl:l.length≤60)(hnil:A=none→cx=0)(h:k%15=0)(hq:b%3=0) :
  Calls Try.prog 15 #[.int .u8 k,.int .u8 a,.int .u8 b,.int .u8 c,.slice A n cx] w (SeatPost w):=by
 have HLX:=Lib.hid hl
 subst hn
 have HX:=Lib.hid hx
 have HNIL:=Lib.hid hnil
 clear hx hnil
 go_enter Try.func15,Try.ntmps15
 go_wp2_with fail
 refine (Topic_any _ _ a0 a1).mono ?_
 rintro e w1 ⟨t,rfl,ht,hbt⟩
 have HTX:=Lib.hid ht
 have r0:=heap_below hbt (heap_alloc_new w _)
 have b1':Below w.heap.size w w1:=by (repeat (first | assumption | exact Below.refl _ _ | exact (Below.refl _ _).alloc (Nat.le_refl _) _ | (refine thn ?_ (by assumption)) | (refine alB ?_ _) | (refine dwN ?_ _) | (refine Below.drew ?_)))
 have g0:w.heap.size<w1.heap.size:=(Array.getElem?_eq_some_iff.1 r0).1
 have R0:=Lib.hid r0
 clear hbt r0
 go_wp2_with (first
  | ((with_reducible show wpList _ _ _ (⟨_,.store 28 (.tmp 12) _,_,_,_,_⟩ :: _) _ _);refine stL w1.heap.size (by rfl) _ (pkC {pk0 with kind:=3,top:=t,pay:=l,qos:=0,ret:=(c%2==0)} {sv0 with pA:=A,pC:=cx}) (by rfl) (by rfl) (by rfl) (by rfl) pk_sz (pk_one _ _) ?_)
  | ((with_reducible show wpList _ _ _ (⟨_,.load 28 (.tmp 12),_,_,_,_⟩ :: _) _ _);refine ld_pk2 w1.heap.size (by rfl) (by rfl) _ (pkC {pk0 with kind:=3,top:=t,pay:=l,qos:=0,ret:=(c%2==0)} {sv0 with pA:=A,pC:=cx}) 28 (0,0) (heap_alloc_new _ _) (by kernel_rfl) (by rfl) ?_)
  | ((with_reducible show wpList _ _ _ (⟨_,.store 28 (.tmp 10) _,_,_,_,_⟩ :: _) _ _);refine stRs w.heap.size _ (pkC {pk0 with kind:=3,top:=t,pay:=l,qos:=0,ret:=(c%2==0)} {sv0 with pA:=A,pC:=cx}) (by rfl) (by rfl) (heap_keep R0.out) (by rfl) (by rfl) pk_sz (pk_one _ _) ?_))
 have ht2:t.size≤1000000:=by omega
 have hl2:l.length≤1000000:=by omega
 exact bodyPost_ret (v:=.agg (pkC {pk0 with kind:=3,top:=t,pay:=l,qos:=0,ret:=(c%2==0)} {sv0 with pA:=A,pC:=cx})) (results_cell_row (by rfl) _ _ w.heap.size 28 _ (0,0) _ (by rfl) (setRow_heap _ _ _ _ _ _ (heap_keep R0.out)) Try.underlying28 (by rfl) (by exact pk_sz)) (by rfl) ⟨{pk0 with kind:=3,top:=t,pay:=l,qos:=0,ret:=(c%2==0)},{sv0 with pA:=A,pC:=cx},rfl,pub_at _ _ _ _ _ _ (HX.out.on (below_setRow (alB b1' _) (Nat.le_refl _) _)),⟨HNIL.out,fun _=>rfl,fun _=>rfl⟩,⟨pub_ok _ _ _ _ _ _ ht2 hl2 i64_0 i64_0,pub_right _ _ _ _ _ _ HTX.out HLX.out (.inl ⟨rfl,rfl,rfl⟩)⟩,below_setRow (alB b1' _) (Nat.le_refl _) _⟩
theorem seatP_pub01 (k a b c:Int)(A:Option Addr)(n cx:Nat)(l:List UInt8)(w:World)(k0:0≤k)(k1:k≤255)(a0:0≤a)(a1:a≤255)(b0:0≤b)(b1:b≤255)(c0:0≤c)(c1:c≤255)(hx:BytesAt w w.heap.size (.slice A n cx) l)(hn:n=l.length)(hl:l.length≤60)(hnil:A=none→cx=0)(h:k%15=0)(hq:0<b%3) :
  Calls Try.prog 15 #[.int .u8 k,.int .u8 a,.int .u8 b,.int .u8 c,.slice A n cx] w (SeatPost w):=by
 have HLX:=Lib.hid hl
 have HQX:=Lib.hid hq
 subst hn
 have HX:=Lib.hid hx
 have HNIL:=Lib.hid hnil
 clear hx hnil
 go_enter Try.func15,Try.ntmps15
 go_wp2_with fail
 refine (Topic_any _ _ a0 a1).mono ?_
 rintro e w1 ⟨t,rfl,ht,hbt⟩
 have HTX:=Lib.hid ht
 have r0:=heap_below hbt (heap_alloc_new w _)
 have b1':Below w.heap.size w w1:=by (repeat (first | assumption | exact Below.refl _ _ | exact (Below.refl _ _).alloc (Nat.le_refl _) _ | (refine thn ?_ (by assumption)) | (refine alB ?_ _) | (refine dwN ?_ _) | (refine Below.drew ?_)))
 have g0:w.heap.size<w1.heap.size:=(Array.getElem?_eq_some_iff.1 r0).1
 have R0:=Lib.hid r0
 clear hbt r0
 go_wp2_with (first
  | ((with_reducible show wpList _ _ _ (⟨_,.store 28 (.tmp 12) _,_,_,_,_⟩ :: _) _ _);refine stL w1.heap.size (by rfl) _ (pkC {pk0 with kind:=3,top:=t,pay:=l,qos:=b%3,ret:=(c%2==0)} {sv0 with pA:=A,pC:=cx}) (by rfl) (by rfl) (by rfl) (by rfl) pk_sz (pk_one _ _) ?_)
  | ((with_reducible show wpList _ _ _ (⟨_,.load 28 (.tmp 12),_,_,_,_⟩ :: _) _ _);refine ld_pk2 w1.heap.size (by rfl) (by rfl) _ (pkC {pk0 with kind:=3,top:=t,pay:=l,qos:=b%3,ret:=(c%2==0),id:=c%5+1,dup:=(c%7==0)} {sv0 with pA:=A,pC:=cx}) 28 (0,0) (heap_alloc_new _ _) (by kernel_rfl) (by rfl) ?_)
  | ((with_reducible show wpList _ _ _ (⟨_,.store 28 (.tmp 10) _,_,_,_,_⟩ :: _) _ _);refine stRs w.heap.size _ (pkC {pk0 with kind:=3,top:=t,pay:=l,qos:=b%3,ret:=(c%2==0),id:=c%5+1,dup:=(c%7==0)} {sv0 with pA:=A,pC:=cx}) (by rfl) (by rfl) (heap_keep R0.out) (by rfl) (by rfl) pk_sz (pk_one _ _) ?_))
 have ht2:t.size≤1000000:=by omega
 have hl2:l.length≤1000000:=by omega
 exact bodyPost_ret (v:=.agg (pkC {pk0 with kind:=3,top:=t,pay:=l,qos:=b%3,ret:=(c%2==0),id:=c%5+1,dup:=(c%7==0)} {sv0 with pA:=A,pC:=cx})) (results_cell_row (by rfl) _ _ w.heap.size 28 _ (0,0) _ (by rfl) (setRow_heap _ _ _ _ _ _ (heap_keep R0.out)) Try.underlying28 (by rfl) (by exact pk_sz)) (by rfl) ⟨{pk0 with kind:=3,top:=t,pay:=l,qos:=b%3,ret:=(c%2==0),id:=c%5+1,dup:=(c%7==0)},{sv0 with pA:=A,pC:=cx},rfl,pub_at _ _ _ _ _ _ (HX.out.on (below_setRow (alB b1' _) (Nat.le_refl _) _)),⟨HNIL.out,fun _=>rfl,fun _=>rfl⟩,⟨pub_ok _ _ _ _ _ _ ht2 hl2 (i64_small (by omega) (by omega)) (i64_small (by omega) (by omega)),pub_right _ _ _ _ _ _ HTX.out HLX.out (.inr ⟨HQX.out,by omega,by omega,by omega⟩)⟩,below_setRow (alB b1' _) (Nat.le_refl _) _⟩
theorem seatP_pub10 (k a b c:Int)(A:Option Addr)(n cx:Nat)(l:List UInt8)(w:World)(k0:0≤k)(k1:k≤255)(a0:0≤a)(a1:a≤255)(b0:0≤b)(b1:b≤255)(c0:0≤c)(c1:c≤255)(hx:BytesAt w w.heap.size (.slice A n cx) l)(hn:n=l.length)(hl:l.length≤60)(hnil:A=none→cx=0)(h:k%15=1)(hq:b%3=0) :
  Calls Try.prog 15 #[.int .u8 k,.int .u8 a,.int .u8 b,.int .u8 c,.slice A n cx] w (SeatPost w):=by
 have HLX:=Lib.hid hl
 subst hn
 have HX:=Lib.hid hx
 have HNIL:=Lib.hid hnil
 clear hx hnil
 go_enter Try.func15,Try.ntmps15
 go_wp2_with fail
 refine (Topic_any _ _ a0 a1).mono ?_
 rintro e w1 ⟨t,rfl,ht,hbt⟩
 have HTX:=Lib.hid ht
 have r0:=heap_below hbt (heap_alloc_new w _)
 have b1':Below w.heap.size w w1:=by (repeat (first | assumption | exact Below.refl _ _ | exact (Below.refl _ _).alloc (Nat.le_refl _) _ | (refine thn ?_ (by assumption)) | (refine alB ?_ _) | (refine dwN ?_ _) | (refine Below.drew ?_)))
 have g0:w.heap.size<w1.heap.size:=(Array.getElem?_eq_some_iff.1 r0).1
 have R0:=Lib.hid r0
 clear hbt r0
 go_wp2_with (first
  | ((with_reducible show wpList _ _ _ (⟨_,.store 28 (.tmp 12) _,_,_,_,_⟩ :: _) _ _);refine stL w1.heap.size (by rfl) _ (pkC {pk0 with kind:=3,top:=t,pay:=l,qos:=0,ret:=(c%2==0)} {sv0 with pA:=A,pC:=cx}) (by rfl) (by rfl) (by rfl) (by rfl) pk_sz (pk_one _ _) ?_)
  | ((with_reducible show wpList _ _ _ (⟨_,.load 28 (.tmp 12),_,_,_,_⟩ :: _) _ _);refine ld_pk2 w1.heap.size (by rfl) (by rfl) _ (pkC {pk0 with kind:=3,top:=t,pay:=l,qos:=0,ret:=(c%2==0)} {sv0 with pA:=A,pC:=cx}) 28 (0,0) (heap_alloc_new _ _) (by kernel_rfl) (by rfl) ?_)
  | ((with_reducible show wpList _ _ _ (⟨_,.store 28 (.tmp 10) _,_,_,_,_⟩ :: _) _ _);refine stRs w.heap.size _ (pkC {pk0 with kind:=3,top:=t,pay:=l,qos:=0,ret:=(c%2==0)} {sv0 with pA:=A,pC:=cx}) (by rfl) (by rfl) (heap_keep R0.out) (by rfl) (by rfl) pk_sz (pk_one _ _) ?_))
 have ht2:t.size≤1000000:=by omega
 have hl2:l.length≤1000000:=by omega
 exact bodyPost_ret (v:=.agg (pkC {pk0 with kind:=3,top:=t,pay:=l,qos:=0,ret:=(c%2==0)} {sv0 with pA:=A,pC:=cx})) (results_cell_row (by rfl) _ _ w.heap.size 28 _ (0,0) _ (by rfl) (setRow_heap _ _ _ _ _ _ (heap_keep R0.out)) Try.underlying28 (by rfl) (by exact pk_sz)) (by rfl) ⟨{pk0 with kind:=3,top:=t,pay:=l,qos:=0,ret:=(c%2==0)},{sv0 with pA:=A,pC:=cx},rfl,pub_at _ _ _ _ _ _ (HX.out.on (below_setRow (alB b1' _) (Nat.le_refl _) _)),⟨HNIL.out,fun _=>rfl,fun _=>rfl⟩,⟨pub_ok _ _ _ _ _ _ ht2 hl2 i64_0 i64_0,pub_right _ _ _ _ _ _ HTX.out HLX.out (.inl ⟨rfl,rfl,rfl⟩)⟩,below_setRow (alB b1' _) (Nat.le_refl _) _⟩
theorem seatP_pub11 (k a b c:Int)(A:Option Addr)(n cx:Nat)(l:List UInt8)(w:World)(k0:0≤k)(k1:k≤255)(a0:0≤a)(a1:a≤255)(b0:0≤b)(b1:b≤255)(c0:0≤c)(c1:c≤255)(hx:BytesAt w w.heap.size (.slice A n cx) l)(hn:n=l.length)(hl:l.length≤60)(hnil:A=none→cx=0)(h:k%15=1)(hq:0<b%3) :
  Calls Try.prog 15 #[.int .u8 k,.int .u8 a,.int .u8 b,.int .u8 c,.slice A n cx] w (SeatPost w):=by
 have HLX:=Lib.hid hl
 have HQX:=Lib.hid hq
 subst hn
 have HX:=Lib.hid hx
 have HNIL:=Lib.hid hnil
 clear hx hnil
 go_enter Try.func15,Try.ntmps15
 go_wp2_with fail
 refine (Topic_any _ _ a0 a1).mono ?_
 rintro e w1 ⟨t,rfl,ht,hbt⟩
 have HTX:=Lib.hid ht
 have r0:=heap_below hbt (heap_alloc_new w _)
 have b1':Below w.heap.size w w1:=by (repeat (first | assumption | exact Below.refl _ _ | exact (Below.refl _ _).alloc (Nat.le_refl _) _ | (refine thn ?_ (by assumption)) | (refine alB ?_ _) | (refine dwN ?_ _) | (refine Below.drew ?_)))
 have g0:w.heap.size<w1.heap.size:=(Array.getElem?_eq_some_iff.1 r0).1
 have R0:=Lib.hid r0
 clear hbt r0
 go_wp2_with (first
  | ((with_reducible show wpList _ _ _ (⟨_,.store 28 (.tmp 12) _,_,_,_,_⟩ :: _) _ _);refine stL w1.heap.size (by rfl) _ (pkC {pk0 with kind:=3,top:=t,pay:=l,qos:=b%3,ret:=(c%2==0)} {sv0 with pA:=A,pC:=cx}) (by rfl) (by rfl) (by rfl) (by rfl) pk_sz (pk_one _ _) ?_)
  | ((with_reducible show wpList _ _ _ (⟨_,.load 28 (.tmp 12),_,_,_,_⟩ :: _) _ _);refine ld_pk2 w1.heap.size (by rfl) (by rfl) _ (pkC {pk0 with kind:=3,top:=t,pay:=l,qos:=b%3,ret:=(c%2==0),id:=c%5+1,dup:=(c%7==0)} {sv0 with pA:=A,pC:=cx}) 28 (0,0) (heap_alloc_new _ _) (by kernel_rfl) (by rfl) ?_)
  | ((with_reducible show wpList _ _ _ (⟨_,.store 28 (.tmp 10) _,_,_,_,_⟩ :: _) _ _);refine stRs w.heap.size _ (pkC {pk0 with kind:=3,top:=t,pay:=l,qos:=b%3,ret:=(c%2==0),id:=c%5+1,dup:=(c%7==0)} {sv0 with pA:=A,pC:=cx}) (by rfl) (by rfl) (heap_keep R0.out) (by rfl) (by rfl) pk_sz (pk_one _ _) ?_))
 have ht2:t.size≤1000000:=by omega
 have hl2:l.length≤1000000:=by omega
 exact bodyPost_ret (v:=.agg (pkC {pk0 with kind:=3,top:=t,pay:=l,qos:=b%3,ret:=(c%2==0),id:=c%5+1,dup:=(c%7==0)} {sv0 with pA:=A,pC:=cx})) (results_cell_row (by rfl) _ _ w.heap.size 28 _ (0,0) _ (by rfl) (setRow_heap _ _ _ _ _ _ (heap_keep R0.out)) Try.underlying28 (by rfl) (by exact pk_sz)) (by rfl) ⟨{pk0 with kind:=3,top:=t,pay:=l,qos:=b%3,ret:=(c%2==0),id:=c%5+1,dup:=(c%7==0)},{sv0 with pA:=A,pC:=cx},rfl,pub_at _ _ _ _ _ _ (HX.out.on (below_setRow (alB b1' _) (Nat.le_refl _) _)),⟨HNIL.out,fun _=>rfl,fun _=>rfl⟩,⟨pub_ok _ _ _ _ _ _ ht2 hl2 (i64_small (by omega) (by omega)) (i64_small (by omega) (by omega)),pub_right _ _ _ _ _ _ HTX.out HLX.out (.inr ⟨HQX.out,by omega,by omega,by omega⟩)⟩,below_setRow (alB b1' _) (Nat.le_refl _) _⟩
theorem seatP_pub20 (k a b c:Int)(A:Option Addr)(n cx:Nat)(l:List UInt8)(w:World)(k0:0≤k)(k1:k≤255)(a0:0≤a)(a1:a≤255)(b0:0≤b)(b1:b≤255)(c0:0≤c)(c1:c≤255)(hx:BytesAt w w.heap.size (.slice A n cx) l)(hn:n=l.length)(hl:l.length≤60)(hnil:A=none→cx=0)(h:k%15=2)(hq:b%3=0) :
  Calls Try.prog 15 #[.int .u8 k,.int .u8 a,.int .u8 b,.int .u8 c,.slice A n cx] w (SeatPost w):=by
 have HLX:=Lib.hid hl
 subst hn
 have HX:=Lib.hid hx
 have HNIL:=Lib.hid hnil
 clear hx hnil
 go_enter Try.func15,Try.ntmps15
 go_wp2_with fail
 refine (Topic_any _ _ a0 a1).mono ?_
 rintro e w1 ⟨t,rfl,ht,hbt⟩
 have HTX:=Lib.hid ht
 have r0:=heap_below hbt (heap_alloc_new w _)
 have b1':Below w.heap.size w w1:=by (repeat (first | assumption | exact Below.refl _ _ | exact (Below.refl _ _).alloc (Nat.le_refl _) _ | (refine thn ?_ (by assumption)) | (refine alB ?_ _) | (refine dwN ?_ _) | (refine Below.drew ?_)))
 have g0:w.heap.size<w1.heap.size:=(Array.getElem?_eq_some_iff.1 r0).1
 have R0:=Lib.hid r0
 clear hbt r0
 go_wp2_with (first
  | ((with_reducible show wpList _ _ _ (⟨_,.store 28 (.tmp 12) _,_,_,_,_⟩ :: _) _ _);refine stL w1.heap.size (by rfl) _ (pkC {pk0 with kind:=3,top:=t,pay:=l,qos:=0,ret:=(c%2==0)} {sv0 with pA:=A,pC:=cx}) (by rfl) (by rfl) (by rfl) (by rfl) pk_sz (pk_one _ _) ?_)
  | ((with_reducible show wpList _ _ _ (⟨_,.load 28 (.tmp 12),_,_,_,_⟩ :: _) _ _);refine ld_pk2 w1.heap.size (by rfl) (by rfl) _ (pkC {pk0 with kind:=3,top:=t,pay:=l,qos:=0,ret:=(c%2==0)} {sv0 with pA:=A,pC:=cx}) 28 (0,0) (heap_alloc_new _ _) (by kernel_rfl) (by rfl) ?_)
  | ((with_reducible show wpList _ _ _ (⟨_,.store 28 (.tmp 10) _,_,_,_,_⟩ :: _) _ _);refine stRs w.heap.size _ (pkC {pk0 with kind:=3,top:=t,pay:=l,qos:=0,ret:=(c%2==0)} {sv0 with pA:=A,pC:=cx}) (by rfl) (by rfl) (heap_keep R0.out) (by rfl) (by rfl) pk_sz (pk_one _ _) ?_))
 have ht2:t.size≤1000000:=by omega
 have hl2:l.length≤1000000:=by omega
 exact bodyPost_ret (v:=.agg (pkC {pk0 with kind:=3,top:=t,pay:=l,qos:=0,ret:=(c%2==0)} {sv0 with pA:=A,pC:=cx})) (results_cell_row (by rfl) _ _ w.heap.size 28 _ (0,0) _ (by rfl) (setRow_heap _ _ _ _ _ _ (heap_keep R0.out)) Try.underlying28 (by rfl) (by exact pk_sz)) (by rfl) ⟨{pk0 with kind:=3,top:=t,pay:=l,qos:=0,ret:=(c%2==0)},{sv0 with pA:=A,pC:=cx},rfl,pub_at _ _ _ _ _ _ (HX.out.on (below_setRow (alB b1' _) (Nat.le_refl _) _)),⟨HNIL.out,fun _=>rfl,fun _=>rfl⟩,⟨pub_ok _ _ _ _ _ _ ht2 hl2 i64_0 i64_0,pub_right _ _ _ _ _ _ HTX.out HLX.out (.inl ⟨rfl,rfl,rfl⟩)⟩,below_setRow (alB b1' _) (Nat.le_refl _) _⟩
theorem seatP_pub21 (k a b c:Int)(A:Option Addr)(n cx:Nat)(l:List UInt8)(w:World)(k0:0≤k)(k1:k≤255)(a0:0≤a)(a1:a≤255)(b0:0≤b)(b1:b≤255)(c0:0≤c)(c1:c≤255)(hx:BytesAt w w.heap.size (.slice A n cx) l)(hn:n=l.length)(hl:l.length≤60)(hnil:A=none→cx=0)(h:k%15=2)(hq:0<b%3) :
  Calls Try.prog 15 #[.int .u8 k,.int .u8 a,.int .u8 b,.int .u8 c,.slice A n cx] w (SeatPost w):=by
 have HLX:=Lib.hid hl
 have HQX:=Lib.hid hq
 subst hn
 have HX:=Lib.hid hx
 have HNIL:=Lib.hid hnil
 clear hx hnil
 go_enter Try.func15,Try.ntmps15
 go_wp2_with fail
 refine (Topic_any _ _ a0 a1).mono ?_
 rintro e w1 ⟨t,rfl,ht,hbt⟩
 have HTX:=Lib.hid ht
 have r0:=heap_below hbt (heap_alloc_new w _)
 have b1':Below w.heap.size w w1:=by (repeat (first | assumption | exact Below.refl _ _ | exact (Below.refl _ _).alloc (Nat.le_refl _) _ | (refine thn ?_ (by assumption)) | (refine alB ?_ _) | (refine dwN ?_ _) | (refine Below.drew ?_)))
 have g0:w.heap.size<w1.heap.size:=(Array.getElem?_eq_some_iff.1 r0).1
 have R0:=Lib.hid r0
 clear hbt r0
 go_wp2_with (first
  | ((with_reducible show wpList _ _ _ (⟨_,.store 28 (.tmp 12) _,_,_,_,_⟩ :: _) _ _);refine stL w1.heap.size (by rfl) _ (pkC {pk0 with kind:=3,top:=t,pay:=l,qos:=b%3,ret:=(c%2==0)} {sv0 with pA:=A,pC:=cx}) (by rfl) (by rfl) (by rfl) (by rfl) pk_sz (pk_one _ _) ?_)
  | ((with_reducible show wpList _ _ _ (⟨_,.load 28 (.tmp 12),_,_,_,_⟩ :: _) _ _);refine ld_pk2 w1.heap.size (by rfl) (by rfl) _ (pkC {pk0 with kind:=3,top:=t,pay:=l,qos:=b%3,ret:=(c%2==0),id:=c%5+1,dup:=(c%7==0)} {sv0 with pA:=A,pC:=cx}) 28 (0,0) (heap_alloc_new _ _) (by kernel_rfl) (by rfl) ?_)
  | ((with_reducible show wpList _ _ _ (⟨_,.store 28 (.tmp 10) _,_,_,_,_⟩ :: _) _ _);refine stRs w.heap.size _ (pkC {pk0 with kind:=3,top:=t,pay:=l,qos:=b%3,ret:=(c%2==0),id:=c%5+1,dup:=(c%7==0)} {sv0 with pA:=A,pC:=cx}) (by rfl) (by rfl) (heap_keep R0.out) (by rfl) (by rfl) pk_sz (pk_one _ _) ?_))
 have ht2:t.size≤1000000:=by omega
 have hl2:l.length≤1000000:=by omega
 exact bodyPost_ret (v:=.agg (pkC {pk0 with kind:=3,top:=t,pay:=l,qos:=b%3,ret:=(c%2==0),id:=c%5+1,dup:=(c%7==0)} {sv0 with pA:=A,pC:=cx})) (results_cell_row (by rfl) _ _ w.heap.size 28 _ (0,0) _ (by rfl) (setRow_heap _ _ _ _ _ _ (heap_keep R0.out)) Try.underlying28 (by rfl) (by exact pk_sz)) (by rfl) ⟨{pk0 with kind:=3,top:=t,pay:=l,qos:=b%3,ret:=(c%2==0),id:=c%5+1,dup:=(c%7==0)},{sv0 with pA:=A,pC:=cx},rfl,pub_at _ _ _ _ _ _ (HX.out.on (below_setRow (alB b1' _) (Nat.le_refl _) _)),⟨HNIL.out,fun _=>rfl,fun _=>rfl⟩,⟨pub_ok _ _ _ _ _ _ ht2 hl2 (i64_small (by omega) (by omega)) (i64_small (by omega) (by omega)),pub_right _ _ _ _ _ _ HTX.out HLX.out (.inr ⟨HQX.out,by omega,by omega,by omega⟩)⟩,below_setRow (alB b1' _) (Nat.le_refl _) _⟩
theorem seatP_pub30 (k a b c:Int)(A:Option Addr)(n cx:Nat)(l:List UInt8)(w:World)(k0:0≤k)(k1:k≤255)(a0:0≤a)(a1:a≤255)(b0:0≤b)(b1:b≤255)(c0:0≤c)(c1:c≤255)(hx:BytesAt w w.heap.size (.slice A n cx) l)(hn:n=l.length)(hl:l.length≤60)(hnil:A=none→cx=0)(h:k%15=3)(hq:b%3=0) :
  Calls Try.prog 15 #[.int .u8 k,.int .u8 a,.int .u8 b,.int .u8 c,.slice A n cx] w (SeatPost w):=by
 have HLX:=Lib.hid hl
 subst hn
 have HX:=Lib.hid hx
 have HNIL:=Lib.hid hnil
 clear hx hnil
 go_enter Try.func15,Try.ntmps15
 go_wp2_with fail
 refine (Topic_any _ _ a0 a1).mono ?_
 rintro e w1 ⟨t,rfl,ht,hbt⟩
 have HTX:=Lib.hid ht
 have r0:=heap_below hbt (heap_alloc_new w _)
 have b1':Below w.heap.size w w1:=by (repeat (first | assumption | exact Below.refl _ _ | exact (Below.refl _ _).alloc (Nat.le_refl _) _ | (refine thn ?_ (by assumption)) | (refine alB ?_ _) | (refine dwN ?_ _) | (refine Below.drew ?_)))
 have g0:w.heap.size<w1.heap.size:=(Array.getElem?_eq_some_iff.1 r0).1
 have R0:=Lib.hid r0
 clear hbt r0
 go_wp2_with (first
  | ((with_reducible show wpList _ _ _ (⟨_,.store 28 (.tmp 12) _,_,_,_,_⟩ :: _) _ _);refine stL w1.heap.size (by rfl) _ (pkC {pk0 with kind:=3,top:=t,pay:=l,qos:=0,ret:=(c%2==0)} {sv0 with pA:=A,pC:=cx}) (by rfl) (by rfl) (by rfl) (by rfl) pk_sz (pk_one _ _) ?_)
  | ((with_reducible show wpList _ _ _ (⟨_,.load 28 (.tmp 12),_,_,_,_⟩ :: _) _ _);refine ld_pk2 w1.heap.size (by rfl) (by rfl) _ (pkC {pk0 with kind:=3,top:=t,pay:=l,qos:=0,ret:=(c%2==0)} {sv0 with pA:=A,pC:=cx}) 28 (0,0) (heap_alloc_new _ _) (by kernel_rfl) (by rfl) ?_)
  | ((with_reducible show wpList _ _ _ (⟨_,.store 28 (.tmp 10) _,_,_,_,_⟩ :: _) _ _);refine stRs w.heap.size _ (pkC {pk0 with kind:=3,top:=t,pay:=l,qos:=0,ret:=(c%2==0)} {sv0 with pA:=A,pC:=cx}) (by rfl) (by rfl) (heap_keep R0.out) (by rfl) (by rfl) pk_sz (pk_one _ _) ?_))
 have ht2:t.size≤1000000:=by omega
 have hl2:l.length≤1000000:=by omega
 exact bodyPost_ret (v:=.agg (pkC {pk0 with kind:=3,top:=t,pay:=l,qos:=0,ret:=(c%2==0)} {sv0 with pA:=A,pC:=cx})) (results_cell_row (by rfl) _ _ w.heap.size 28 _ (0,0) _ (by rfl) (setRow_heap _ _ _ _ _ _ (heap_keep R0.out)) Try.underlying28 (by rfl) (by exact pk_sz)) (by rfl) ⟨{pk0 with kind:=3,top:=t,pay:=l,qos:=0,ret:=(c%2==0)},{sv0 with pA:=A,pC:=cx},rfl,pub_at _ _ _ _ _ _ (HX.out.on (below_setRow (alB b1' _) (Nat.le_refl _) _)),⟨HNIL.out,fun _=>rfl,fun _=>rfl⟩,⟨pub_ok _ _ _ _ _ _ ht2 hl2 i64_0 i64_0,pub_right _ _ _ _ _ _ HTX.out HLX.out (.inl ⟨rfl,rfl,rfl⟩)⟩,below_setRow (alB b1' _) (Nat.le_refl _) _⟩
theorem seatP_pub31 (k a b c:Int)(A:Option Addr)(n cx:Nat)(l:List UInt8)(w:World)(k0:0≤k)(k1:k≤255)(a0:0≤a)(a1:a≤255)(b0:0≤b)(b1:b≤255)(c0:0≤c)(c1:c≤255)(hx:BytesAt w w.heap.size (.slice A n cx) l)(hn:n=l.length)(hl:l.length≤60)(hnil:A=none→cx=0)(h:k%15=3)(hq:0<b%3) :
  Calls Try.prog 15 #[.int .u8 k,.int .u8 a,.int .u8 b,.int .u8 c,.slice A n cx] w (SeatPost w):=by
 have HLX:=Lib.hid hl
 have HQX:=Lib.hid hq
 subst hn
 have HX:=Lib.hid hx
 have HNIL:=Lib.hid hnil
 clear hx hnil
 go_enter Try.func15,Try.ntmps15
 go_wp2_with fail
 refine (Topic_any _ _ a0 a1).mono ?_
 rintro e w1 ⟨t,rfl,ht,hbt⟩
 have HTX:=Lib.hid ht
 have r0:=heap_below hbt (heap_alloc_new w _)
 have b1':Below w.heap.size w w1:=by (repeat (first | assumption | exact Below.refl _ _ | exact (Below.refl _ _).alloc (Nat.le_refl _) _ | (refine thn ?_ (by assumption)) | (refine alB ?_ _) | (refine dwN ?_ _) | (refine Below.drew ?_)))
 have g0:w.heap.size<w1.heap.size:=(Array.getElem?_eq_some_iff.1 r0).1
 have R0:=Lib.hid r0
 clear hbt r0
 go_wp2_with (first
  | ((with_reducible show wpList _ _ _ (⟨_,.store 28 (.tmp 12) _,_,_,_,_⟩ :: _) _ _);refine stL w1.heap.size (by rfl) _ (pkC {pk0 with kind:=3,top:=t,pay:=l,qos:=b%3,ret:=(c%2==0)} {sv0 with pA:=A,pC:=cx}) (by rfl) (by rfl) (by rfl) (by rfl) pk_sz (pk_one _ _) ?_)
  | ((with_reducible show wpList _ _ _ (⟨_,.load 28 (.tmp 12),_,_,_,_⟩ :: _) _ _);refine ld_pk2 w1.heap.size (by rfl) (by rfl) _ (pkC {pk0 with kind:=3,top:=t,pay:=l,qos:=b%3,ret:=(c%2==0),id:=c%5+1,dup:=(c%7==0)} {sv0 with pA:=A,pC:=cx}) 28 (0,0) (heap_alloc_new _ _) (by kernel_rfl) (by rfl) ?_)
  | ((with_reducible show wpList _ _ _ (⟨_,.store 28 (.tmp 10) _,_,_,_,_⟩ :: _) _ _);refine stRs w.heap.size _ (pkC {pk0 with kind:=3,top:=t,pay:=l,qos:=b%3,ret:=(c%2==0),id:=c%5+1,dup:=(c%7==0)} {sv0 with pA:=A,pC:=cx}) (by rfl) (by rfl) (heap_keep R0.out) (by rfl) (by rfl) pk_sz (pk_one _ _) ?_))
 have ht2:t.size≤1000000:=by omega
 have hl2:l.length≤1000000:=by omega
 exact bodyPost_ret (v:=.agg (pkC {pk0 with kind:=3,top:=t,pay:=l,qos:=b%3,ret:=(c%2==0),id:=c%5+1,dup:=(c%7==0)} {sv0 with pA:=A,pC:=cx})) (results_cell_row (by rfl) _ _ w.heap.size 28 _ (0,0) _ (by rfl) (setRow_heap _ _ _ _ _ _ (heap_keep R0.out)) Try.underlying28 (by rfl) (by exact pk_sz)) (by rfl) ⟨{pk0 with kind:=3,top:=t,pay:=l,qos:=b%3,ret:=(c%2==0),id:=c%5+1,dup:=(c%7==0)},{sv0 with pA:=A,pC:=cx},rfl,pub_at _ _ _ _ _ _ (HX.out.on (below_setRow (alB b1' _) (Nat.le_refl _) _)),⟨HNIL.out,fun _=>rfl,fun _=>rfl⟩,⟨pub_ok _ _ _ _ _ _ ht2 hl2 (i64_small (by omega) (by omega)) (i64_small (by omega) (by omega)),pub_right _ _ _ _ _ _ HTX.out HLX.out (.inr ⟨HQX.out,by omega,by omega,by omega⟩)⟩,below_setRow (alB b1' _) (Nat.le_refl _) _⟩
end Go.Proofs.Ytnhpacaoobpkhaa
