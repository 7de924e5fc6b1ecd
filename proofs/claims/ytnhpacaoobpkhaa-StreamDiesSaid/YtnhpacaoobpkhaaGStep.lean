import Derived.Test.YtnhpacaoobpkhaaGBase
import Derived.Handy
namespace Go.Proofs.Ytnhpacaoobpkhaa
open Go.RowKit Go.Lib
set_option maxRecDepth 100000
set_option maxHeartbeats 1000000
theorem mask_cont:∀b:Fin 256,(bits .and .u8 (b.val:Int) 192 != 128)=!(b.val / 64==2):=by decide +kernel
theorem cont_yes (b:Nat)(h:b<256)(hc:b / 64=2):(bits .and .u8 (b:Int) 192 != 128)=false:=by
 have:=mask_cont ⟨b,h⟩
 simp only at this
 rw [this,hc]
 rfl
theorem cont_no (b:Nat)(h:b<256)(hc:¬b / 64=2):(bits .and .u8 (b:Int) 192 != 128)=true:=by
 have:=mask_cont ⟨b,h⟩
 simp only at this
 rw [this]
 simp [hc]
theorem st1 (ad:Addr)(c n:Nat)(b0:Nat)(w:World)(c0:w.cell? ad=some (.int .u8 (b0:Int)))(h0:b0<128)(hn:1≤n)(hm:n≤1000000) :
  Calls Try.prog 99 #[.slice (some ad) n c] w fun e w'=>e=.returned (.tuple #[.int .i32 (b0:Int),.int .i64 1,.bool true])∧w=w':=by
 go_enter Try.func99,Try.ntmps99
 go_wp2_with fail
 go_ret3
 exact ⟨rfl,rfl⟩
theorem stBadA (ad:Addr)(c n:Nat)(b0:Nat)(w:World)(c0:w.cell? ad=some (.int .u8 (b0:Int)))(h0:128≤b0)(h1:b0<192)(hn:1≤n)(hm:n≤1000000) :
  Calls Try.prog 99 #[.slice (some ad) n c] w fun e w'=>e=.returned (.tuple #[.int .i32 0,.int .i64 1,.bool false])∧w=w':=by
 go_enter Try.func99,Try.ntmps99
 go_wp2_with fail
 go_ret3
 exact ⟨rfl,rfl⟩
theorem stBadB (ad:Addr)(c n:Nat)(b0:Nat)(w:World)(c0:w.cell? ad=some (.int .u8 (b0:Int)))(h0:248≤b0)(h1:b0<256)(hn:1≤n)(hm:n≤1000000) :
  Calls Try.prog 99 #[.slice (some ad) n c] w fun e w'=>e=.returned (.tuple #[.int .i32 0,.int .i64 1,.bool false])∧w=w':=by
 go_enter Try.func99,Try.ntmps99
 go_wp2_with fail
 go_ret3
 exact ⟨rfl,rfl⟩
theorem st2short (ad:Addr)(c n:Nat)(b0:Nat)(w:World)(c0:w.cell? ad=some (.int .u8 (b0:Int)))(h0:192≤b0)(h1:b0<224)(hn:1≤n)(hs:n<2)(_hm:n≤1000000) :
  Calls Try.prog 99 #[.slice (some ad) n c] w fun e w'=>e=.returned (.tuple #[.int .i32 0,.int .i64 1,.bool false])∧w=w':=by
 go_enter Try.func99,Try.ntmps99
 go_wp2_with fail
 go_ret3
 exact ⟨rfl,rfl⟩
theorem st2bad1 (ad:Addr)(c n:Nat)(b0 b1:Nat)(w:World)(c0:w.cell? ad=some (.int .u8 (b0:Int)))(c1:w.cell? ⟨ad.block,ad.off+1,none⟩=some (.int .u8 (b1:Int)))(h0:192≤b0)(h1:b0<224)(hn:2≤n)(t1:(bits .and .u8 (b1:Int) 192 != 128)=true)(hm:n≤1000000) :
  Calls Try.prog 99 #[.slice (some ad) n c] w fun e w'=>e=.returned (.tuple #[.int .i32 0,.int .i64 1,.bool false])∧w=w':=by
 go_enter Try.func99,Try.ntmps99
 go_wp2_with fail
 refine wp_loop_rounds 2 ?_
 rw [rounds_succ]
 go_wp2_with fail
 go_ret3
 exact ⟨rfl,rfl⟩
theorem st2small (ad:Addr)(c n:Nat)(b0 b1:Nat)(w:World)(c0:w.cell? ad=some (.int .u8 (b0:Int)))(c1:w.cell? ⟨ad.block,ad.off+1,none⟩=some (.int .u8 (b1:Int)))(h0:192≤b0)(h1:b0<224)(hn:2≤n)(t1:(bits .and .u8 (b1:Int) 192 != 128)=false)(k1:b1<256)(hv:((b0:Int)%32)*64+(b1:Int)%64≤127)(hm:n≤1000000) :
  Calls Try.prog 99 #[.slice (some ad) n c] w fun e w'=>e=.returned (.tuple #[.int .i32 0,.int .i64 1,.bool false])∧w=w':=by
 have HV:=Lib.hid hv
 clear hv
 go_enter Try.func99,Try.ntmps99
 go_wp2_with fail
 refine wp_loop_rounds 2 ?_
 rw [rounds_succ]
 go_wp2_with fail
 rw [rounds_succ]
 have hv:=HV.out
 go_wp2_with fail
 go_ret3
 exact ⟨rfl,rfl⟩
theorem st2ok (ad:Addr)(c n:Nat)(b0 b1:Nat)(w:World)(c0:w.cell? ad=some (.int .u8 (b0:Int)))(c1:w.cell? ⟨ad.block,ad.off+1,none⟩=some (.int .u8 (b1:Int)))(h0:192≤b0)(h1:b0<224)(hn:2≤n)(t1:(bits .and .u8 (b1:Int) 192 != 128)=false)(k1:b1<256)(hv:128≤((b0:Int)%32)*64+(b1:Int)%64)(hm:n≤1000000) :
  Calls Try.prog 99 #[.slice (some ad) n c] w fun e w'=>e=.returned (.tuple #[.int .i32 (((b0:Int)%32)*64+(b1:Int)%64),.int .i64 2,.bool true])∧w=w':=by
 have HV:=Lib.hid hv
 clear hv
 go_enter Try.func99,Try.ntmps99
 go_wp2_with fail
 refine wp_loop_rounds 2 ?_
 rw [rounds_succ]
 go_wp2_with fail
 rw [rounds_succ]
 have hv:=HV.out
 go_wp2_with fail
 go_ret3
 exact ⟨rfl,rfl⟩
theorem st3short (ad:Addr)(c n:Nat)(b0:Nat)(w:World)(c0:w.cell? ad=some (.int .u8 (b0:Int)))(h0:224≤b0)(h1:b0<240)(hn:1≤n)(hs:n<3)(_hm:n≤1000000) :
  Calls Try.prog 99 #[.slice (some ad) n c] w fun e w'=>e=.returned (.tuple #[.int .i32 0,.int .i64 1,.bool false])∧w=w':=by
 go_enter Try.func99,Try.ntmps99
 go_wp2_with fail
 go_ret3
 exact ⟨rfl,rfl⟩
theorem st3bad1 (ad:Addr)(c n:Nat)(b0 b1:Nat)(w:World)(c0:w.cell? ad=some (.int .u8 (b0:Int)))(c1:w.cell? ⟨ad.block,ad.off+1,none⟩=some (.int .u8 (b1:Int)))(h0:224≤b0)(h1:b0<240)(hn:3≤n)(t1:(bits .and .u8 (b1:Int) 192 != 128)=true)(hm:n≤1000000) :
  Calls Try.prog 99 #[.slice (some ad) n c] w fun e w'=>e=.returned (.tuple #[.int .i32 0,.int .i64 1,.bool false])∧w=w':=by
 go_enter Try.func99,Try.ntmps99
 go_wp2_with fail
 refine wp_loop_rounds 3 ?_
 rw [rounds_succ]
 go_wp2_with fail
 go_ret3
 exact ⟨rfl,rfl⟩
theorem st3bad2 (ad:Addr)(c n:Nat)(b0 b1 b2:Nat)(w:World)(c0:w.cell? ad=some (.int .u8 (b0:Int)))(c1:w.cell? ⟨ad.block,ad.off+1,none⟩=some (.int .u8 (b1:Int)))(c2:w.cell? ⟨ad.block,ad.off+2,none⟩=some (.int .u8 (b2:Int)))(h0:224≤b0)(h1:b0<240)(hn:3≤n)(t1:(bits .and .u8 (b1:Int) 192 != 128)=false)(k1:b1<256)(t2:(bits .and .u8 (b2:Int) 192 != 128)=true)(hm:n≤1000000) :
  Calls Try.prog 99 #[.slice (some ad) n c] w fun e w'=>e=.returned (.tuple #[.int .i32 0,.int .i64 1,.bool false])∧w=w':=by
 go_enter Try.func99,Try.ntmps99
 go_wp2_with fail
 refine wp_loop_rounds 3 ?_
 rw [rounds_succ]
 go_wp2_with fail
 rw [rounds_succ]
 go_wp2_with fail
 go_ret3
 exact ⟨rfl,rfl⟩
theorem st3small (ad:Addr)(c n:Nat)(b0 b1 b2:Nat)(w:World)(c0:w.cell? ad=some (.int .u8 (b0:Int)))(c1:w.cell? ⟨ad.block,ad.off+1,none⟩=some (.int .u8 (b1:Int)))(c2:w.cell? ⟨ad.block,ad.off+2,none⟩=some (.int .u8 (b2:Int)))(h0:224≤b0)(h1:b0<240)(hn:3≤n)(t1:(bits .and .u8 (b1:Int) 192 != 128)=false)(k1:b1<256)(t2:(bits .and .u8 (b2:Int) 192 != 128)=false)(k2:b2<256)(hv:(((b0:Int)%16)*64+(b1:Int)%64)*64+(b2:Int)%64≤2047)(hm:n≤1000000) :
  Calls Try.prog 99 #[.slice (some ad) n c] w fun e w'=>e=.returned (.tuple #[.int .i32 0,.int .i64 1,.bool false])∧w=w':=by
 have HV:=Lib.hid hv
 clear hv
 go_enter Try.func99,Try.ntmps99
 go_wp2_with fail
 refine wp_loop_rounds 3 ?_
 rw [rounds_succ]
 go_wp2_with fail
 rw [rounds_succ]
 go_wp2_with fail
 rw [rounds_succ]
 have hv:=HV.out
 go_wp2_with fail
 go_ret3
 exact ⟨rfl,rfl⟩
theorem st3sur (ad:Addr)(c n:Nat)(b0 b1 b2:Nat)(w:World)(c0:w.cell? ad=some (.int .u8 (b0:Int)))(c1:w.cell? ⟨ad.block,ad.off+1,none⟩=some (.int .u8 (b1:Int)))(c2:w.cell? ⟨ad.block,ad.off+2,none⟩=some (.int .u8 (b2:Int)))(h0:224≤b0)(h1:b0<240)(hn:3≤n)(t1:(bits .and .u8 (b1:Int) 192 != 128)=false)(k1:b1<256)(t2:(bits .and .u8 (b2:Int) 192 != 128)=false)(k2:b2<256)(hv:55296≤(((b0:Int)%16)*64+(b1:Int)%64)*64+(b2:Int)%64)(hv2:(((b0:Int)%16)*64+(b1:Int)%64)*64+(b2:Int)%64≤57343)(hm:n≤1000000) :
  Calls Try.prog 99 #[.slice (some ad) n c] w fun e w'=>e=.returned (.tuple #[.int .i32 0,.int .i64 1,.bool false])∧w=w':=by
 have HV:=Lib.hid hv
 clear hv
 have HV2:=Lib.hid hv2
 clear hv2
 go_enter Try.func99,Try.ntmps99
 go_wp2_with fail
 refine wp_loop_rounds 3 ?_
 rw [rounds_succ]
 go_wp2_with fail
 rw [rounds_succ]
 go_wp2_with fail
 rw [rounds_succ]
 have hv:=HV.out
 have hv2:=HV2.out
 go_wp2_with fail
 go_ret3
 exact ⟨rfl,rfl⟩
theorem st3okA (ad:Addr)(c n:Nat)(b0 b1 b2:Nat)(w:World)(c0:w.cell? ad=some (.int .u8 (b0:Int)))(c1:w.cell? ⟨ad.block,ad.off+1,none⟩=some (.int .u8 (b1:Int)))(c2:w.cell? ⟨ad.block,ad.off+2,none⟩=some (.int .u8 (b2:Int)))(h0:224≤b0)(h1:b0<240)(hn:3≤n)(t1:(bits .and .u8 (b1:Int) 192 != 128)=false)(k1:b1<256)(t2:(bits .and .u8 (b2:Int) 192 != 128)=false)(k2:b2<256)(hv:2048≤(((b0:Int)%16)*64+(b1:Int)%64)*64+(b2:Int)%64)(hv2:(((b0:Int)%16)*64+(b1:Int)%64)*64+(b2:Int)%64≤55295)(hm:n≤1000000) :
  Calls Try.prog 99 #[.slice (some ad) n c] w fun e w'=>e=.returned (.tuple #[.int .i32 ((((b0:Int)%16)*64+(b1:Int)%64)*64+(b2:Int)%64),.int .i64 3,.bool true])∧w=w':=by
 have HV:=Lib.hid hv
 clear hv
 have HV2:=Lib.hid hv2
 clear hv2
 go_enter Try.func99,Try.ntmps99
 go_wp2_with fail
 refine wp_loop_rounds 3 ?_
 rw [rounds_succ]
 go_wp2_with fail
 rw [rounds_succ]
 go_wp2_with fail
 rw [rounds_succ]
 have hv:=HV.out
 have hv2:=HV2.out
 go_wp2_with fail
 go_ret3
 exact ⟨rfl,rfl⟩
theorem st3okB (ad:Addr)(c n:Nat)(b0 b1 b2:Nat)(w:World)(c0:w.cell? ad=some (.int .u8 (b0:Int)))(c1:w.cell? ⟨ad.block,ad.off+1,none⟩=some (.int .u8 (b1:Int)))(c2:w.cell? ⟨ad.block,ad.off+2,none⟩=some (.int .u8 (b2:Int)))(h0:224≤b0)(h1:b0<240)(hn:3≤n)(t1:(bits .and .u8 (b1:Int) 192 != 128)=false)(k1:b1<256)(t2:(bits .and .u8 (b2:Int) 192 != 128)=false)(k2:b2<256)(hv:57344≤(((b0:Int)%16)*64+(b1:Int)%64)*64+(b2:Int)%64)(hm:n≤1000000) :
  Calls Try.prog 99 #[.slice (some ad) n c] w fun e w'=>e=.returned (.tuple #[.int .i32 ((((b0:Int)%16)*64+(b1:Int)%64)*64+(b2:Int)%64),.int .i64 3,.bool true])∧w=w':=by
 have HV:=Lib.hid hv
 clear hv
 go_enter Try.func99,Try.ntmps99
 go_wp2_with fail
 refine wp_loop_rounds 3 ?_
 rw [rounds_succ]
 go_wp2_with fail
 rw [rounds_succ]
 go_wp2_with fail
 rw [rounds_succ]
 have hv:=HV.out
 go_wp2_with fail
 go_ret3
 exact ⟨rfl,rfl⟩
theorem st4short (ad:Addr)(c n:Nat)(b0:Nat)(w:World)(c0:w.cell? ad=some (.int .u8 (b0:Int)))(h0:240≤b0)(h1:b0<248)(hn:1≤n)(hs:n<4)(_hm:n≤1000000) :
  Calls Try.prog 99 #[.slice (some ad) n c] w fun e w'=>e=.returned (.tuple #[.int .i32 0,.int .i64 1,.bool false])∧w=w':=by
 go_enter Try.func99,Try.ntmps99
 go_wp2_with fail
 go_ret3
 exact ⟨rfl,rfl⟩
theorem st4bad1 (ad:Addr)(c n:Nat)(b0 b1:Nat)(w:World)(c0:w.cell? ad=some (.int .u8 (b0:Int)))(c1:w.cell? ⟨ad.block,ad.off+1,none⟩=some (.int .u8 (b1:Int)))(h0:240≤b0)(h1:b0<248)(hn:4≤n)(t1:(bits .and .u8 (b1:Int) 192 != 128)=true)(hm:n≤1000000) :
  Calls Try.prog 99 #[.slice (some ad) n c] w fun e w'=>e=.returned (.tuple #[.int .i32 0,.int .i64 1,.bool false])∧w=w':=by
 go_enter Try.func99,Try.ntmps99
 go_wp2_with fail
 refine wp_loop_rounds 4 ?_
 rw [rounds_succ]
 go_wp2_with fail
 go_ret3
 exact ⟨rfl,rfl⟩
theorem st4bad2 (ad:Addr)(c n:Nat)(b0 b1 b2:Nat)(w:World)(c0:w.cell? ad=some (.int .u8 (b0:Int)))(c1:w.cell? ⟨ad.block,ad.off+1,none⟩=some (.int .u8 (b1:Int)))(c2:w.cell? ⟨ad.block,ad.off+2,none⟩=some (.int .u8 (b2:Int)))(h0:240≤b0)(h1:b0<248)(hn:4≤n)(t1:(bits .and .u8 (b1:Int) 192 != 128)=false)(k1:b1<256)(t2:(bits .and .u8 (b2:Int) 192 != 128)=true)(hm:n≤1000000) :
  Calls Try.prog 99 #[.slice (some ad) n c] w fun e w'=>e=.returned (.tuple #[.int .i32 0,.int .i64 1,.bool false])∧w=w':=by
 go_enter Try.func99,Try.ntmps99
 go_wp2_with fail
 refine wp_loop_rounds 4 ?_
 rw [rounds_succ]
 go_wp2_with fail
 rw [rounds_succ]
 go_wp2_with fail
 go_ret3
 exact ⟨rfl,rfl⟩
theorem st4bad3 (ad:Addr)(c n:Nat)(b0 b1 b2 b3:Nat)(w:World)(c0:w.cell? ad=some (.int .u8 (b0:Int)))(c1:w.cell? ⟨ad.block,ad.off+1,none⟩=some (.int .u8 (b1:Int)))(c2:w.cell? ⟨ad.block,ad.off+2,none⟩=some (.int .u8 (b2:Int)))(c3:w.cell? ⟨ad.block,ad.off+3,none⟩=some (.int .u8 (b3:Int)))(h0:240≤b0)(h1:b0<248)(hn:4≤n)(t1:(bits .and .u8 (b1:Int) 192 != 128)=false)(k1:b1<256)(t2:(bits .and .u8 (b2:Int) 192 != 128)=false)(k2:b2<256)(t3:(bits .and .u8 (b3:Int) 192 != 128)=true)(hm:n≤1000000) :
  Calls Try.prog 99 #[.slice (some ad) n c] w fun e w'=>e=.returned (.tuple #[.int .i32 0,.int .i64 1,.bool false])∧w=w':=by
 go_enter Try.func99,Try.ntmps99
 go_wp2_with fail
 refine wp_loop_rounds 4 ?_
 rw [rounds_succ]
 go_wp2_with fail
 rw [rounds_succ]
 go_wp2_with fail
 rw [rounds_succ]
 go_wp2_with fail
 go_ret3
 exact ⟨rfl,rfl⟩
theorem st4small (ad:Addr)(c n:Nat)(b0 b1 b2 b3:Nat)(w:World)(c0:w.cell? ad=some (.int .u8 (b0:Int)))(c1:w.cell? ⟨ad.block,ad.off+1,none⟩=some (.int .u8 (b1:Int)))(c2:w.cell? ⟨ad.block,ad.off+2,none⟩=some (.int .u8 (b2:Int)))(c3:w.cell? ⟨ad.block,ad.off+3,none⟩=some (.int .u8 (b3:Int)))(h0:240≤b0)(h1:b0<248)(hn:4≤n)(t1:(bits .and .u8 (b1:Int) 192 != 128)=false)(k1:b1<256)(t2:(bits .and .u8 (b2:Int) 192 != 128)=false)(k2:b2<256)(t3:(bits .and .u8 (b3:Int) 192 != 128)=false)(k3:b3<256)(hv:((((b0:Int)%8)*64+(b1:Int)%64)*64+(b2:Int)%64)*64+(b3:Int)%64≤65535)(hm:n≤1000000) :
  Calls Try.prog 99 #[.slice (some ad) n c] w fun e w'=>e=.returned (.tuple #[.int .i32 0,.int .i64 1,.bool false])∧w=w':=by
 have HV:=Lib.hid hv
 clear hv
 go_enter Try.func99,Try.ntmps99
 go_wp2_with fail
 refine wp_loop_rounds 4 ?_
 rw [rounds_succ]
 go_wp2_with fail
 rw [rounds_succ]
 go_wp2_with fail
 rw [rounds_succ]
 go_wp2_with fail
 rw [rounds_succ]
 have hv:=HV.out
 go_wp2_with fail
 go_ret3
 exact ⟨rfl,rfl⟩
theorem st4big (ad:Addr)(c n:Nat)(b0 b1 b2 b3:Nat)(w:World)(c0:w.cell? ad=some (.int .u8 (b0:Int)))(c1:w.cell? ⟨ad.block,ad.off+1,none⟩=some (.int .u8 (b1:Int)))(c2:w.cell? ⟨ad.block,ad.off+2,none⟩=some (.int .u8 (b2:Int)))(c3:w.cell? ⟨ad.block,ad.off+3,none⟩=some (.int .u8 (b3:Int)))(h0:240≤b0)(h1:b0<248)(hn:4≤n)(t1:(bits .and .u8 (b1:Int) 192 != 128)=false)(k1:b1<256)(t2:(bits .and .u8 (b2:Int) 192 != 128)=false)(k2:b2<256)(t3:(bits .and .u8 (b3:Int) 192 != 128)=false)(k3:b3<256)(hv:1114111<((((b0:Int)%8)*64+(b1:Int)%64)*64+(b2:Int)%64)*64+(b3:Int)%64)(hm:n≤1000000) :
  Calls Try.prog 99 #[.slice (some ad) n c] w fun e w'=>e=.returned (.tuple #[.int .i32 0,.int .i64 1,.bool false])∧w=w':=by
 have HV:=Lib.hid hv
 clear hv
 go_enter Try.func99,Try.ntmps99
 go_wp2_with fail
 refine wp_loop_rounds 4 ?_
 rw [rounds_succ]
 go_wp2_with fail
 rw [rounds_succ]
 go_wp2_with fail
 rw [rounds_succ]
 go_wp2_with fail
 rw [rounds_succ]
 have hv:=HV.out
 go_wp2_with fail
 go_ret3
 exact ⟨rfl,rfl⟩
theorem st4ok (ad:Addr)(c n:Nat)(b0 b1 b2 b3:Nat)(w:World)(c0:w.cell? ad=some (.int .u8 (b0:Int)))(c1:w.cell? ⟨ad.block,ad.off+1,none⟩=some (.int .u8 (b1:Int)))(c2:w.cell? ⟨ad.block,ad.off+2,none⟩=some (.int .u8 (b2:Int)))(c3:w.cell? ⟨ad.block,ad.off+3,none⟩=some (.int .u8 (b3:Int)))(h0:240≤b0)(h1:b0<248)(hn:4≤n)(t1:(bits .and .u8 (b1:Int) 192 != 128)=false)(k1:b1<256)(t2:(bits .and .u8 (b2:Int) 192 != 128)=false)(k2:b2<256)(t3:(bits .and .u8 (b3:Int) 192 != 128)=false)(k3:b3<256)(hv:65536≤((((b0:Int)%8)*64+(b1:Int)%64)*64+(b2:Int)%64)*64+(b3:Int)%64)(hv2:((((b0:Int)%8)*64+(b1:Int)%64)*64+(b2:Int)%64)*64+(b3:Int)%64≤1114111)(hm:n≤1000000) :
  Calls Try.prog 99 #[.slice (some ad) n c] w fun e w'=>e=.returned (.tuple #[.int .i32 (((((b0:Int)%8)*64+(b1:Int)%64)*64+(b2:Int)%64)*64+(b3:Int)%64),.int .i64 4,.bool true])∧w=w':=by
 have HV:=Lib.hid hv
 clear hv
 have HV2:=Lib.hid hv2
 clear hv2
 go_enter Try.func99,Try.ntmps99
 go_wp2_with fail
 refine wp_loop_rounds 4 ?_
 rw [rounds_succ]
 go_wp2_with fail
 rw [rounds_succ]
 go_wp2_with fail
 rw [rounds_succ]
 go_wp2_with fail
 rw [rounds_succ]
 have hv:=HV.out
 have hv2:=HV2.out
 go_wp2_with fail
 go_ret3
 exact ⟨rfl,rfl⟩
def stOk (l:List UInt8):Bool:=!((decodeL l).1==65533 && (decodeL l).2==1)
def stRu (l:List UInt8):Int:=if stOk l then ((decodeL l).1:Int) else 0
theorem st_bad {l:List UInt8}(h:decodeL l=(65533,1)):Ending.returned (.tuple #[.int .i32 0,.int .i64 1,.bool false])=Ending.returned (.tuple #[.int .i32 (stRu l),.int .i64 ((decodeL l).2:Nat),.bool (stOk l)]):=by
 have h1:stOk l=false:=by unfold stOk;rw [h];rfl
 have h2:stRu l=0:=by unfold stRu;rw [h1];rfl
 rw [h1,h2,h]
 rfl
theorem st_good {l:List UInt8}{v k:Nat}{z y:Int}(h:decodeL l=(v,k))(hz:z=(v:Int))(hy:y=(k:Int))(hk:v<128∨1<k):Ending.returned (.tuple #[.int .i32 z,.int .i64 y,.bool true])=Ending.returned (.tuple #[.int .i32 (stRu l),.int .i64 ((decodeL l).2:Nat),.bool (stOk l)]):=by
 have h1:stOk l=true:=by
  unfold stOk
  rw [h,Bool.not_eq_true',Bool.and_eq_false_iff]
  rcases hk with hk | hk
  ·left;exact beq_eq_false_iff_ne.2 (by show v≠65533;omega)
  ·right;exact beq_eq_false_iff_ne.2 (by show k≠1;omega)
 have h2:stRu l=(v:Int):=by unfold stRu;rw [h1,h];rfl
 rw [h1,h2,h,hz,hy]
theorem step_any (ad:Addr)(c:Nat)(l:List UInt8)(w:World)(hne:l≠[])(hm:l.length≤1000000)(hx:∀(j:Nat)(x:UInt8),l[j]? = some x→w.cell? (ad.add j)=some (.int .u8 (x.toNat:Int))) :
  Calls Try.prog 99 #[.slice (some ad) l.length c] w fun e w'=>e=.returned (.tuple #[.int .i32 (stRu l),.int .i64 ((decodeL l).2:Nat),.bool (stOk l)])∧w=w':=by
 have hl:0<l.length:=List.length_pos_iff.2 hne
 have hN:=decodeL_N l
 have hsh:=decodeN_shape l.length (l.getD 0 0).toNat (l.getD 1 0).toNat (l.getD 2 0).toNat (l.getD 3 0).toNat
 have hg:∀j,j<l.length→l[j]? = some (l.getD j 0):=fun j hj=>by simp [List.getD,List.getElem?_eq_getElem hj]
 have c0:w.cell? ad=some (.int .u8 ((l.getD 0 0).toNat:Int)):=by
  have:=hx 0 _ (hg 0 hl)
  simpa [Addr.add] using this
 have c1:1<l.length→w.cell? ⟨ad.block,ad.off+1,none⟩=some (.int .u8 ((l.getD 1 0).toNat:Int)):=fun h=>hx 1 _ (hg 1 h)
 have c2:2<l.length→w.cell? ⟨ad.block,ad.off+2,none⟩=some (.int .u8 ((l.getD 2 0).toNat:Int)):=fun h=>hx 2 _ (hg 2 h)
 have c3:3<l.length→w.cell? ⟨ad.block,ad.off+3,none⟩=some (.int .u8 ((l.getD 3 0).toNat:Int)):=fun h=>hx 3 _ (hg 3 h)
 have k0:=(l.getD 0 0).toNat_lt
 have k1:=(l.getD 1 0).toNat_lt
 have k2:=(l.getD 2 0).toNat_lt
 have k3:=(l.getD 3 0).toNat_lt
 clear hx hg
 generalize hn:l.length=n at *
 generalize (l.getD 0 0).toNat=b0 at *
 generalize (l.getD 1 0).toNat=b1 at *
 generalize (l.getD 2 0).toNat=b2 at *
 generalize (l.getD 3 0).toNat=b3 at *
 have y1:=fun h:b1 / 64=2=>cont_yes b1 k1 h
 have y2:=fun h:b2 / 64=2=>cont_yes b2 k2 h
 have y3:=fun h:b3 / 64=2=>cont_yes b3 k3 h
 have n1:=fun h:¬b1 / 64=2=>cont_no b1 k1 h
 have n2:=fun h:¬b2 / 64=2=>cont_no b2 k2 h
 have n3:=fun h:¬b3 / 64=2=>cont_no b3 k3 h
 by_cases a1:b0<128
 ·exact (st1 ad c n b0 w c0 a1 (by omega) hm).mono fun _ _ ⟨he,hw⟩=>⟨he.trans (st_good (v:=b0) (k:=1) (h:=by rw [hN];unfold decodeN;rw [if_pos a1]) (by omega) (by omega) (by omega)),hw⟩
 by_cases a2:b0<192
 ·exact (stBadA ad c n b0 w c0 (by omega) a2 (by omega) hm).mono fun _ _ ⟨he,hw⟩=>⟨he.trans (st_bad (by rw [hN];rcases hsh with ⟨_,q⟩ | ⟨_,_,_,_,q⟩ | ⟨_,_,_,_,_,_,q⟩ | ⟨_,_,_,_,_,_,_,q⟩ | q <;> first | exact q | (exfalso;omega))),hw⟩
 by_cases a3:b0<224
 ·by_cases s:n<2
  ·exact (st2short ad c n b0 w c0 (by omega) a3 (by omega) s hm).mono fun _ _ ⟨he,hw⟩=>⟨he.trans (st_bad (by rw [hN];rcases hsh with ⟨_,q⟩ | ⟨_,_,_,_,q⟩ | ⟨_,_,_,_,_,_,q⟩ | ⟨_,_,_,_,_,_,_,q⟩ | q <;> first | exact q | (exfalso;omega))),hw⟩
  by_cases q1:b1 / 64=2
  ·by_cases v1:(b0:Int)%32*64+(b1:Int)%64≤127
   ·exact (st2small ad c n b0 b1 w c0 (c1 (by omega)) (by omega) a3 (by omega) (y1 q1) k1 v1 hm).mono fun _ _ ⟨he,hw⟩=>⟨he.trans (st_bad (by rw [hN];rcases hsh with ⟨_,q⟩ | ⟨_,_,_,_,q⟩ | ⟨_,_,_,_,_,_,q⟩ | ⟨_,_,_,_,_,_,_,q⟩ | q <;> first | exact q | (exfalso;omega))),hw⟩
   ·exact (st2ok ad c n b0 b1 w c0 (c1 (by omega)) (by omega) a3 (by omega) (y1 q1) k1 (by omega) hm).mono fun _ _ ⟨he,hw⟩=>⟨he.trans (st_good (v:=b0%32*64+b1%64) (k:=2) (h:=by rw [hN];unfold decodeN;rw [if_neg (by omega),if_pos ⟨by omega,by omega,q1⟩,if_pos (by omega)]) (by omega) (by omega) (by omega)),hw⟩
  ·exact (st2bad1 ad c n b0 b1 w c0 (c1 (by omega)) (by omega) a3 (by omega) (n1 q1) hm).mono fun _ _ ⟨he,hw⟩=>⟨he.trans (st_bad (by rw [hN];rcases hsh with ⟨_,q⟩ | ⟨_,_,_,_,q⟩ | ⟨_,_,_,_,_,_,q⟩ | ⟨_,_,_,_,_,_,_,q⟩ | q <;> first | exact q | (exfalso;omega))),hw⟩
 by_cases a4:b0<240
 ·by_cases s:n<3
  ·exact (st3short ad c n b0 w c0 (by omega) a4 (by omega) s hm).mono fun _ _ ⟨he,hw⟩=>⟨he.trans (st_bad (by rw [hN];rcases hsh with ⟨_,q⟩ | ⟨_,_,_,_,q⟩ | ⟨_,_,_,_,_,_,q⟩ | ⟨_,_,_,_,_,_,_,q⟩ | q <;> first | exact q | (exfalso;omega))),hw⟩
  by_cases q1:b1 / 64=2
  ·by_cases q2:b2 / 64=2
   ·by_cases v1:((b0:Int)%16*64+(b1:Int)%64)*64+(b2:Int)%64≤2047
    ·exact (st3small ad c n b0 b1 b2 w c0 (c1 (by omega)) (c2 (by omega)) (by omega) a4 (by omega) (y1 q1) k1 (y2 q2) k2 v1 hm).mono fun _ _ ⟨he,hw⟩=>⟨he.trans (st_bad (by rw [hN];rcases hsh with ⟨_,q⟩ | ⟨_,_,_,_,q⟩ | ⟨_,_,_,_,_,_,q⟩ | ⟨_,_,_,_,_,_,_,q⟩ | q <;> first | exact q | (exfalso;omega))),hw⟩
    by_cases v2:((b0:Int)%16*64+(b1:Int)%64)*64+(b2:Int)%64≤55295
    ·exact (st3okA ad c n b0 b1 b2 w c0 (c1 (by omega)) (c2 (by omega)) (by omega) a4 (by omega) (y1 q1) k1 (y2 q2) k2 (by omega) v2 hm).mono fun _ _ ⟨he,hw⟩=>⟨he.trans (st_good (v:=b0%16*4096+b1%64*64+b2%64) (k:=3) (h:=by rw [hN];unfold decodeN;rw [if_neg (by omega),if_neg (by omega),if_pos ⟨by omega,⟨by omega,q1⟩,by omega,q2⟩,if_pos ⟨by omega,by omega⟩]) (by omega) (by omega) (by omega)),hw⟩
    by_cases v3:((b0:Int)%16*64+(b1:Int)%64)*64+(b2:Int)%64≤57343
    ·exact (st3sur ad c n b0 b1 b2 w c0 (c1 (by omega)) (c2 (by omega)) (by omega) a4 (by omega) (y1 q1) k1 (y2 q2) k2 (by omega) v3 hm).mono fun _ _ ⟨he,hw⟩=>⟨he.trans (st_bad (by rw [hN];rcases hsh with ⟨_,q⟩ | ⟨_,_,_,_,q⟩ | ⟨_,_,_,_,_,_,q⟩ | ⟨_,_,_,_,_,_,_,q⟩ | q <;> first | exact q | (exfalso;omega))),hw⟩
    ·exact (st3okB ad c n b0 b1 b2 w c0 (c1 (by omega)) (c2 (by omega)) (by omega) a4 (by omega) (y1 q1) k1 (y2 q2) k2 (by omega) hm).mono fun _ _ ⟨he,hw⟩=>⟨he.trans (st_good (v:=b0%16*4096+b1%64*64+b2%64) (k:=3) (h:=by rw [hN];unfold decodeN;rw [if_neg (by omega),if_neg (by omega),if_pos ⟨by omega,⟨by omega,q1⟩,by omega,q2⟩,if_pos ⟨by omega,by omega⟩]) (by omega) (by omega) (by omega)),hw⟩
   ·exact (st3bad2 ad c n b0 b1 b2 w c0 (c1 (by omega)) (c2 (by omega)) (by omega) a4 (by omega) (y1 q1) k1 (n2 q2) hm).mono fun _ _ ⟨he,hw⟩=>⟨he.trans (st_bad (by rw [hN];rcases hsh with ⟨_,q⟩ | ⟨_,_,_,_,q⟩ | ⟨_,_,_,_,_,_,q⟩ | ⟨_,_,_,_,_,_,_,q⟩ | q <;> first | exact q | (exfalso;omega))),hw⟩
  ·exact (st3bad1 ad c n b0 b1 w c0 (c1 (by omega)) (by omega) a4 (by omega) (n1 q1) hm).mono fun _ _ ⟨he,hw⟩=>⟨he.trans (st_bad (by rw [hN];rcases hsh with ⟨_,q⟩ | ⟨_,_,_,_,q⟩ | ⟨_,_,_,_,_,_,q⟩ | ⟨_,_,_,_,_,_,_,q⟩ | q <;> first | exact q | (exfalso;omega))),hw⟩
 by_cases a5:b0<248
 ·by_cases s:n<4
  ·exact (st4short ad c n b0 w c0 (by omega) a5 (by omega) s hm).mono fun _ _ ⟨he,hw⟩=>⟨he.trans (st_bad (by rw [hN];rcases hsh with ⟨_,q⟩ | ⟨_,_,_,_,q⟩ | ⟨_,_,_,_,_,_,q⟩ | ⟨_,_,_,_,_,_,_,q⟩ | q <;> first | exact q | (exfalso;omega))),hw⟩
  by_cases q1:b1 / 64=2
  ·by_cases q2:b2 / 64=2
   ·by_cases q3:b3 / 64=2
    ·by_cases v1:(((b0:Int)%8*64+(b1:Int)%64)*64+(b2:Int)%64)*64+(b3:Int)%64≤65535
     ·exact (st4small ad c n b0 b1 b2 b3 w c0 (c1 (by omega)) (c2 (by omega)) (c3 (by omega)) (by omega) a5 (by omega) (y1 q1) k1 (y2 q2) k2 (y3 q3) k3 v1 hm).mono fun _ _ ⟨he,hw⟩=>⟨he.trans (st_bad (by rw [hN];rcases hsh with ⟨_,q⟩ | ⟨_,_,_,_,q⟩ | ⟨_,_,_,_,_,_,q⟩ | ⟨_,_,_,_,_,_,_,q⟩ | q <;> first | exact q | (exfalso;omega))),hw⟩
     by_cases v2:(((b0:Int)%8*64+(b1:Int)%64)*64+(b2:Int)%64)*64+(b3:Int)%64≤1114111
     ·exact (st4ok ad c n b0 b1 b2 b3 w c0 (c1 (by omega)) (c2 (by omega)) (c3 (by omega)) (by omega) a5 (by omega) (y1 q1) k1 (y2 q2) k2 (y3 q3) k3 (by omega) v2 hm).mono fun _ _ ⟨he,hw⟩=>⟨he.trans (st_good (v:=b0%8*262144+b1%64*4096+b2%64*64+b3%64) (k:=4) (h:=by rw [hN];unfold decodeN;rw [if_neg (by omega),if_neg (by omega),if_neg (by omega),if_pos ⟨by omega,⟨by omega,q1⟩,⟨by omega,q2⟩,by omega,q3⟩,if_pos ⟨by omega,by omega⟩]) (by omega) (by omega) (by omega)),hw⟩
     ·exact (st4big ad c n b0 b1 b2 b3 w c0 (c1 (by omega)) (c2 (by omega)) (c3 (by omega)) (by omega) a5 (by omega) (y1 q1) k1 (y2 q2) k2 (y3 q3) k3 (by omega) hm).mono fun _ _ ⟨he,hw⟩=>⟨he.trans (st_bad (by rw [hN];rcases hsh with ⟨_,q⟩ | ⟨_,_,_,_,q⟩ | ⟨_,_,_,_,_,_,q⟩ | ⟨_,_,_,_,_,_,_,q⟩ | q <;> first | exact q | (exfalso;omega))),hw⟩
    ·exact (st4bad3 ad c n b0 b1 b2 b3 w c0 (c1 (by omega)) (c2 (by omega)) (c3 (by omega)) (by omega) a5 (by omega) (y1 q1) k1 (y2 q2) k2 (n3 q3) hm).mono fun _ _ ⟨he,hw⟩=>⟨he.trans (st_bad (by rw [hN];rcases hsh with ⟨_,q⟩ | ⟨_,_,_,_,q⟩ | ⟨_,_,_,_,_,_,q⟩ | ⟨_,_,_,_,_,_,_,q⟩ | q <;> first | exact q | (exfalso;omega))),hw⟩
   ·exact (st4bad2 ad c n b0 b1 b2 w c0 (c1 (by omega)) (c2 (by omega)) (by omega) a5 (by omega) (y1 q1) k1 (n2 q2) hm).mono fun _ _ ⟨he,hw⟩=>⟨he.trans (st_bad (by rw [hN];rcases hsh with ⟨_,q⟩ | ⟨_,_,_,_,q⟩ | ⟨_,_,_,_,_,_,q⟩ | ⟨_,_,_,_,_,_,_,q⟩ | q <;> first | exact q | (exfalso;omega))),hw⟩
  ·exact (st4bad1 ad c n b0 b1 w c0 (c1 (by omega)) (by omega) a5 (by omega) (n1 q1) hm).mono fun _ _ ⟨he,hw⟩=>⟨he.trans (st_bad (by rw [hN];rcases hsh with ⟨_,q⟩ | ⟨_,_,_,_,q⟩ | ⟨_,_,_,_,_,_,q⟩ | ⟨_,_,_,_,_,_,_,q⟩ | q <;> first | exact q | (exfalso;omega))),hw⟩
 ·exact (stBadB ad c n b0 w c0 (by omega) k0 (by omega) hm).mono fun _ _ ⟨he,hw⟩=>⟨he.trans (st_bad (by rw [hN];rcases hsh with ⟨_,q⟩ | ⟨_,_,_,_,q⟩ | ⟨_,_,_,_,_,_,q⟩ | ⟨_,_,_,_,_,_,_,q⟩ | q <;> first | exact q | (exfalso;omega))),hw⟩
theorem repl_or (l:List UInt8)(hne:l≠[])(hr:(decodeL l).1=65533)(hb:¬l.take 3=[239,191,189]):(decodeL l).2=1:=by
 have hL:=decodeL_le l hne
 have hN:=decodeL_N l
 rcases decodeN_shape l.length (l.getD 0 0).toNat (l.getD 1 0).toNat (l.getD 2 0).toNat (l.getD 3 0).toNat with ⟨p,q⟩ | ⟨p1,p2,p3,p4,q⟩ | ⟨p1,p2,p3,p4,p5,p6,q⟩ | ⟨p1,p2,p3,p4,p5,p6,p7,q⟩ | q
 ·rw [hN,q]
 ·rw [hN,q] at hr
  have hr:(l.getD 0 0).toNat%32*64+(l.getD 1 0).toNat%64=65533:=hr
  omega
 ·rw [hN,q] at hr hL
  have hr:(l.getD 0 0).toNat%16*4096+(l.getD 1 0).toNat%64*64+(l.getD 2 0).toNat%64=65533:=hr
  obtain ⟨b0,b1,b2,t,rfl⟩:=three_of l hL
  exfalso
  apply hb
  have k0:=b0.toNat_lt
  have k1:=b1.toNat_lt
  have k2:=b2.toNat_lt
  have p1:b0.toNat / 16=14:=p1
  have p3:b1.toNat / 64=2:=p3
  have p4:b2.toNat / 64=2:=p4
  have hr:b0.toNat%16*4096+b1.toNat%64*64+b2.toNat%64=65533:=hr
  have e0:b0=239:=UInt8.toNat_inj.1 (show b0.toNat=239 by omega)
  have e1:b1=191:=UInt8.toNat_inj.1 (show b1.toNat=191 by omega)
  have e2:b2=189:=UInt8.toNat_inj.1 (show b2.toNat=189 by omega)
  subst e0;subst e1;subst e2
  rfl
 ·rw [hN,q] at hr
  have hr:(l.getD 0 0).toNat%8*262144+(l.getD 1 0).toNat%64*4096+(l.getD 2 0).toNat%64*64+(l.getD 3 0).toNat%64=65533:=hr
  omega
 ·rw [hN,q]
theorem bad_eq (l:List UInt8)(hne:l≠[]):badP (l.take (decodeL l).2)=(!stOk l || stRu l==0):=by
 rw [badP_eq]
 unfold stRu stOk
 by_cases hr:(decodeL l).1=65533
 ·by_cases hb:l.take 3=[239,191,189]
  ·have hw:(decodeL l).2=3:=by
    have h2:l=239 :: 191 :: 189 :: l.drop 3:=by
     have:=(List.take_append_drop 3 l).symm
     rw [hb] at this
     exact this
    rw [h2,dec_repl]
   rw [hr,hb,hw]
   decide
  ·have hw:=repl_or l hne hr hb
   have hb':(l.take 3==[239,191,189])=false:=beq_eq_false_iff_ne.2 hb
   rw [hr,hb',hw]
   decide
 ·have h1:((decodeL l).1==65533)=false:=beq_eq_false_iff_ne.2 hr
  rw [h1]
  simp only [Bool.false_and,Bool.or_false,Bool.not_false,if_true,Bool.not_true,Bool.false_or]
  rw [Bool.eq_iff_iff,beq_iff_eq,beq_iff_eq]
  omega
theorem chk_stepL (l:List UInt8)(p:Nat)(h:p<l.length):chkP (ps (l.drop p)) p =
  if (!stOk (l.drop p) || stRu (l.drop p)==0) then (p:Int) else chkP (ps (l.drop (p+(decodeL (l.drop p)).2))) (p+(decodeL (l.drop p)).2):=by
 have hne:l.drop p≠[]:=by
  intro e
  have:=congrArg List.length e
  rw [List.length_drop,List.length_nil] at this
  omega
 have hle:=decodeL_le _ hne
 conv=>lhs;rw [ps_cons _ hne,List.drop_drop]
 show (if badP _=true then _ else chkP _ (p+_))=_
 rw [bad_eq _ hne,List.length_take,Nat.min_eq_left hle]
theorem add_add (a:Addr)(p j:Nat):(a.add p).add j=a.add (p+j):=by
 unfold Addr.add
 by_cases hj:j=0
 ·subst hj;simp
 ·by_cases hp:p=0
  ·subst hp;simp [hj]
  ·simp [hj,hp,Nat.add_assoc]
theorem step_at (ad:Addr)(c:Nat)(l:List UInt8)(p:Nat)(w:World)(h:p<l.length)(hm:l.length≤1000000)(hx:∀(j:Nat)(x:UInt8),l[j]? = some x→w.cell? (ad.add j)=some (.int .u8 (x.toNat:Int))) :
  Calls Try.prog 99 #[.slice (some (ad.add p)) (l.length - p) (c - p)] w fun e w'=>e=.returned (.tuple #[.int .i32 (stRu (l.drop p)),.int .i64 ((decodeL (l.drop p)).2:Nat),.bool (stOk (l.drop p))])∧w=w':=by
 have hne:l.drop p≠[]:=by
  intro e
  have:=congrArg List.length e
  rw [List.length_drop,List.length_nil] at this
  omega
 have h2:=step_any (ad.add p) (c - p) (l.drop p) w hne (by rw [List.length_drop];omega) (fun j x hj=>by
  rw [List.getElem?_drop] at hj
  rw [add_add]
  exact hx _ x hj)
 rw [List.length_drop] at h2
 exact h2
theorem drop_w (l:List UInt8)(p:Nat)(h:p<l.length):1≤(decodeL (l.drop p)).2∧p+(decodeL (l.drop p)).2≤l.length:=by
 have hne:l.drop p≠[]:=by
  intro e
  have:=congrArg List.length e
  rw [List.length_drop,List.length_nil] at this
  omega
 have h1:=decodeL_width (l.drop p)
 have h2:=decodeL_le _ hne
 rw [List.length_drop] at h2
 omega
theorem rcheck_some (ad:Addr)(c:Nat)(l:List UInt8)(w:World)(hc:l.length≤c)(hm:l.length≤1000000)(hx:∀(j:Nat)(x:UInt8),l[j]? = some x→w.cell? (ad.add j)=some (.int .u8 (x.toNat:Int))) :
  Calls Try.prog 80 #[.slice (some ad) l.length c] w fun e w'=>e=.returned (.int .i64 (chkL l))∧w=w':=by
 have HX:=Lib.hid hx
 clear hx
 go_enter Try.func80,Try.ntmps80
 go_wp2
 go_loop [3] (fun i=>∃p:Nat,p≤l.length∧i=.int .i64 p∧Hid (chkP (ps (l.drop p)) p=chkL l)) (fun i=>l.length - (intOf i).toNat)
 case atStart=>exact ⟨0,Nat.zero_le _,rfl,rfl⟩
 case round =>
  obtain ⟨p,hp,rfl,hk⟩:=hrel
  by_cases hlt:p<l.length
  ·have hcp:p<c:=by omega
   have fS:=step_at ad c l p w hlt hm HX.out
   have hst:=Lib.hid (chk_stepL l p hlt)
   obtain ⟨hw1,hw2⟩:=drop_w l p hlt
   generalize (decodeL (l.drop p)).2=wd at *
   generalize stOk (l.drop p)=ok at *
   generalize stRu (l.drop p)=r at *
   cases ok with
   | false =>
    have hfin:Hid (chkL l=(p:Int)):=by
     have hk:=hk.out
     rw [hst.out] at hk
     exact hk.symm
    go_wp2_with fail
    refine fS.mono ?_
    rintro e w' ⟨rfl,rfl⟩
    go_wp2_with fail
    go_ret
    exact ⟨ret_int (by rw [hfin.out]),rfl⟩
   | true =>
    by_cases h0:r=0
    ·subst h0
     have hfin:Hid (chkL l=(p:Int)):=by
      have hk:=hk.out
      rw [hst.out] at hk
      exact hk.symm
     go_wp2_with fail
     refine fS.mono ?_
     rintro e w' ⟨rfl,rfl⟩
     go_wp2_with fail
     go_ret
     exact ⟨ret_int (by rw [hfin.out]),rfl⟩
    ·have h0b:(r==0)=false:=beq_eq_false_iff_ne.2 h0
     have hfin:Hid (chkP (ps (l.drop (p+wd))) (p+wd)=chkL l):=by
      have hk:=hk.out
      rw [hst.out,h0b] at hk
      exact hk
     have H0:=Lib.hid h0
     clear h0
     go_wp2_with fail
     refine fS.mono ?_
     rintro e w' ⟨rfl,rfl⟩
     go_wp2_with fail
     go_round
     case rel=>exact ⟨p+wd,hw2,by go_num,hfin⟩
     case measure=>simp [intOf];omega
  ·go_wp2
   go_ret
   have hk:=hk.out
   rw [List.drop_of_length_le (by omega)] at hk
   exact ⟨ret_int (by rw [←hk];rfl),rfl⟩
theorem rcheck_none (c:Nat)(w:World) :
  Calls Try.prog 80 #[.slice none 0 c] w fun e w'=>e=.returned (.int .i64 (-1))∧w=w':=by
 go_enter Try.func80,Try.ntmps80
 go_wp2
 go_loop [3] (fun i=>i=.int .i64 0) (fun _=>0)
 case atStart=>exact rfl
 case round =>
  obtain rfl:=hrel
  go_wp2
  go_ret
  exact ⟨rfl,rfl⟩
theorem rcheck_any (v:Value)(l:List UInt8)(w:World)(B:Nat)(hv:BytesAt w B v l)(hm:l.length≤1000000) :
  Calls Try.prog 80 #[v] w fun e w'=>e=.returned (.int .i64 (chkL l))∧w=w':=by
 obtain ⟨A,c,rfl,hc,_,hn,_,hx⟩:=hv
 cases A with
 | some ad=>exact rcheck_some ad c l w hc hm (hx ad rfl)
 | none =>
  obtain rfl:=hn rfl
  exact rcheck_none c w
end Go.Proofs.Ytnhpacaoobpkhaa
