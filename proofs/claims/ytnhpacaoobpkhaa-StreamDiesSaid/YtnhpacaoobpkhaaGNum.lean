import Derived.Test.YtnhpacaoobpkhaaGBase
namespace Go.Proofs.Ytnhpacaoobpkhaa
open Go.RowKit Go.Lib
set_option maxRecDepth 100000
set_option maxHeartbeats 1000000
def sizeI (n:Int):Int:=if n≤-1 then 0 else if n≤127 then 1 else if n≤16383 then 2 else if n≤2097151 then 3 else if n≤268435455 then 4 else 0
theorem size_neg {n:Int}(h:n≤-1):sizeI n=0:=by unfold sizeI;rw [if_pos h]
theorem size_1 {n:Int}(h:0≤n)(h1:n≤127):sizeI n=1:=by unfold sizeI;rw [if_neg (by omega),if_pos h1]
theorem size_2 {n:Int}(h:128≤n)(h1:n≤16383):sizeI n=2:=by unfold sizeI;rw [if_neg (by omega),if_neg (by omega),if_pos h1]
theorem size_3 {n:Int}(h:16384≤n)(h1:n≤2097151):sizeI n=3:=by unfold sizeI;rw [if_neg (by omega),if_neg (by omega),if_neg (by omega),if_pos h1]
theorem size_4 {n:Int}(h:2097152≤n)(h1:n≤268435455):sizeI n=4:=by unfold sizeI;rw [if_neg (by omega),if_neg (by omega),if_neg (by omega),if_neg (by omega),if_pos h1]
theorem size_big {n:Int}(h:268435456≤n):sizeI n=0:=by unfold sizeI;rw [if_neg (by omega),if_neg (by omega),if_neg (by omega),if_neg (by omega),if_neg (by omega)]
theorem size_le (n:Int):0≤sizeI n∧sizeI n≤4:=by
 unfold sizeI
 repeat' split
 all_goals omega
theorem size_any (n:Int)(hl:-9223372036854775808≤n)(hh:n≤9223372036854775807)(w:World) :
  Calls Try.prog 93 #[.int .i64 n] w fun e w'=>e=.returned (.int .i64 (sizeI n))∧w=w':=by
 by_cases h0:n≤-1
 ·rw [size_neg h0]
  go_enter Try.func93,Try.ntmps93
  go_wp2
  go_ret
  exact ⟨rfl,rfl⟩
 by_cases h5:268435456≤n
 ·rw [size_big h5]
  go_enter Try.func93,Try.ntmps93
  go_wp2
  go_ret
  exact ⟨rfl,rfl⟩
 by_cases h1:n≤127
 ·rw [size_1 (by omega) h1]
  go_enter Try.func93,Try.ntmps93
  go_wp2
  refine wp_loop_rounds 1 ?_
  rw [rounds_succ]
  go_wp2
  go_ret
  exact ⟨rfl,rfl⟩
 by_cases h2:n≤16383
 ·rw [size_2 (by omega) h2]
  go_enter Try.func93,Try.ntmps93
  go_wp2
  refine wp_loop_rounds 2 ?_
  rw [rounds_succ]
  go_wp2
  rw [rounds_succ]
  go_wp2
  go_ret
  exact ⟨rfl,rfl⟩
 by_cases h3:n≤2097151
 ·rw [size_3 (by omega) h3]
  go_enter Try.func93,Try.ntmps93
  go_wp2
  refine wp_loop_rounds 3 ?_
  rw [rounds_succ]
  go_wp2
  rw [rounds_succ]
  go_wp2
  rw [rounds_succ]
  go_wp2
  go_ret
  exact ⟨rfl,rfl⟩
 ·rw [size_4 (by omega) (by omega)]
  go_enter Try.func93,Try.ntmps93
  go_wp2
  refine wp_loop_rounds 4 ?_
  rw [rounds_succ]
  go_wp2
  rw [rounds_succ]
  go_wp2
  rw [rounds_succ]
  go_wp2
  rw [rounds_succ]
  go_wp2
  go_ret
  exact ⟨rfl,rfl⟩
theorem rsize_any (n:Int)(hl:-9223372036854775808≤n)(hh:n≤9223372036854775807)(w:World) :
  Calls Try.prog 70 #[.int .i64 n] w fun e w'=>e=.returned (.int .i64 (sizeI n))∧w=w':=by
 by_cases h0:n≤-1
 ·rw [size_neg h0]
  go_enter Try.func70,Try.ntmps70
  go_wp2
  go_ret
  exact ⟨rfl,rfl⟩
 by_cases h5:268435456≤n
 ·rw [size_big h5]
  go_enter Try.func70,Try.ntmps70
  go_wp2
  go_ret
  exact ⟨rfl,rfl⟩
 by_cases h1:n≤127
 ·rw [size_1 (by omega) h1]
  go_enter Try.func70,Try.ntmps70
  go_wp2
  go_ret
  exact ⟨rfl,rfl⟩
 by_cases h2:n≤16383
 ·rw [size_2 (by omega) h2]
  go_enter Try.func70,Try.ntmps70
  go_wp2
  go_ret
  exact ⟨rfl,rfl⟩
 by_cases h3:n≤2097151
 ·rw [size_3 (by omega) h3]
  go_enter Try.func70,Try.ntmps70
  go_wp2
  go_ret
  exact ⟨rfl,rfl⟩
 ·rw [size_4 (by omega) (by omega)]
  go_enter Try.func70,Try.ntmps70
  go_wp2
  go_ret
  exact ⟨rfl,rfl⟩
def putZ (n:Int):List Int:=if n≤-1 then [] else if n≤127 then [n] else if n≤16383 then [n%128+128,n / 128] else if n≤2097151 then [n%128+128,n / 128%128+128,n / 16384] else if n≤268435455 then [n%128+128,n / 128%128+128,n / 16384%128+128,n / 2097152] else []
def putL (n:Int):List UInt8:=(putZ n).map fun b=>UInt8.ofNat b.toNat
theorem or_more (x:Int):bits .or .u8 (x%256) 128=x%128+128:=by
 have key:∀y:Fin 256,bits .or .u8 (y.val:Int) 128=(y.val:Int)%128+128:=by decide +kernel
 have h1:=key ⟨(x%256).toNat,by omega⟩
 simp only [Int.toNat_of_nonneg (show 0≤x%256 by omega)] at h1
 rw [h1]
 omega
theorem or_last (x:Int)(h:0≤x)(h1:x≤127):bits .andNot .u8 (bits .or .u8 x 128) 128=x:=by
 have key:∀y:Fin 128,bits .andNot .u8 (bits .or .u8 (y.val:Int) 128) 128=(y.val:Int):=by decide +kernel
 have h1:=key ⟨x.toNat,by omega⟩
 simp only [Int.toNat_of_nonneg h] at h1
 exact h1
theorem put_cells (l:List Int)(h:∀b ∈ l,0≤b∧b≤255):(l.map fun b=>UInt8.ofNat b.toNat).map (fun b=>Value.int .u8 (b.toNat:Int))=l.map (Value.int .u8):=by
 rw [List.map_map]
 apply List.map_congr_left
 intro b hb
 have:=h b hb
 show Value.int .u8 ((UInt8.ofNat b.toNat).toNat:Int)=Value.int .u8 b
 rw [show (UInt8.ofNat b.toNat).toNat=b.toNat by rw [UInt8.toNat_ofNat'];omega]
 congr 1
 omega
theorem put_1 {n:Int}(h:0≤n)(h1:n≤127):putZ n=[n]:=by unfold putZ;rw [if_neg (by omega),if_pos h1]
theorem put_2 {n:Int}(h:128≤n)(h1:n≤16383):putZ n=[n%128+128,n / 128]:=by unfold putZ;rw [if_neg (by omega),if_neg (by omega),if_pos h1]
theorem put_3 {n:Int}(h:16384≤n)(h1:n≤2097151):putZ n=[n%128+128,n / 128%128+128,n / 16384]:=by unfold putZ;rw [if_neg (by omega),if_neg (by omega),if_neg (by omega),if_pos h1]
theorem put_4 {n:Int}(h:2097152≤n)(h1:n≤268435455):putZ n=[n%128+128,n / 128%128+128,n / 16384%128+128,n / 2097152]:=by unfold putZ;rw [if_neg (by omega),if_neg (by omega),if_neg (by omega),if_neg (by omega),if_pos h1]
theorem put_none {n:Int}(h:n≤-1∨268435456≤n):putZ n=[]:=by
 unfold putZ
 by_cases h0:n≤-1
 ·rw [if_pos h0]
 ·rw [if_neg h0,if_neg (by omega),if_neg (by omega),if_neg (by omega),if_neg (by omega)]
theorem put_small (n:Int):∀b ∈ putZ n,0≤b∧b≤255:=by
 unfold putZ
 intro b hb
 repeat' split at hb
 all_goals
  simp at hb
  try omega
theorem putL_len (n:Int):(putL n).length≤4:=by
 unfold putL putZ
 rw [List.length_map]
 repeat' split
 all_goals simp
def putC (n:Int):Array Value:=((putL n).map fun b=>Value.int .u8 (b.toNat:Int)).toArray
theorem putC_eq (n:Int):putC n=((putZ n).map (Value.int .u8)).toArray:=by
 unfold putC putL
 rw [put_cells _ (put_small n)]
theorem make_n (k:Nat)(hk:k≤4)(C:Array Value)(hC:C=(List.replicate k (Value.int .u8 0)).toArray)(w:World) :
  (Instr.makeSlice 22 (.int .i64 (k:Int)) (.int .i64 (k:Int))).run Try.prog w=.ok (.slice (some ⟨w.heap.size,0,none⟩) k k) (w.alloc (.cells C 5)):=by
 obtain ⟨i0,hi,hz0,hz1,hz2⟩:=info_parts Try.info5
 have hm:=run_make (P:=Try.prog) w 22 5 i0 _ Try.underlying22 hi hz0 .i64 .i64 (k:Int) (k:Int) (by omega) (by omega) (by rw [hz2];omega) (by omega)
 simp only [Int.toNat_natCast] at hm
 have e:madeCells (Value.int .u8 0).cells (k*i0.size)=C:=by
  apply Array.toList_inj.1
  rw [hz1,Nat.mul_one,hC]
  exact toList_madeCells_one _ _
 rw [hm,e]
theorem make1 (w:World):(Instr.makeSlice 22 (.int .i64 1) (.int .i64 1)).run Try.prog w=.ok (.slice (some ⟨w.heap.size,0,none⟩) 1 1) (w.alloc (.cells #[.int .u8 0] 5)):=make_n 1 (by omega) _ rfl w
theorem make2 (w:World):(Instr.makeSlice 22 (.int .i64 2) (.int .i64 2)).run Try.prog w=.ok (.slice (some ⟨w.heap.size,0,none⟩) 2 2) (w.alloc (.cells #[.int .u8 0,.int .u8 0] 5)):=make_n 2 (by omega) _ rfl w
theorem make3 (w:World):(Instr.makeSlice 22 (.int .i64 3) (.int .i64 3)).run Try.prog w=.ok (.slice (some ⟨w.heap.size,0,none⟩) 3 3) (w.alloc (.cells #[.int .u8 0,.int .u8 0,.int .u8 0] 5)):=make_n 3 (by omega) _ rfl w
theorem make4 (w:World):(Instr.makeSlice 22 (.int .i64 4) (.int .i64 4)).run Try.prog w=.ok (.slice (some ⟨w.heap.size,0,none⟩) 4 4) (w.alloc (.cells #[.int .u8 0,.int .u8 0,.int .u8 0,.int .u8 0] 5)):=make_n 4 (by omega) _ rfl w
theorem put1 (n:Int)(h:0≤n)(h1:n≤127)(w:World) :
  Calls Try.prog 60 #[.int .i64 n] w fun e w'=>e=.returned (.tuple #[.slice (some ⟨w.heap.size,0,none⟩) 1 1,.int .i64 0])∧w'=w.alloc (.cells (putC n) 5):=by
 have hs:=fun W=>size_any n (by omega) (by omega) W
 rw [size_1 h h1] at hs
 have hm:=make1
 have hC:=Lib.hid (putC_eq n)
 go_enter Try.func60,Try.ntmps60
 go_wp2_with fail
 refine (hs _).mono ?_
 rintro e w1 ⟨rfl,rfl⟩
 go_wp2_with fail
 refine wp_loop_rounds 2 ?_
 rw [rounds_succ]
 go_wp2
 rw [rounds_succ]
 go_wp2
 go_ret2
 refine ⟨rfl,?_⟩
 rw [hC.out,put_1 h h1]
 rw [or_last n (by omega) (by omega)]
 rfl
theorem put2 (n:Int)(h:128≤n)(h1:n≤16383)(w:World) :
  Calls Try.prog 60 #[.int .i64 n] w fun e w'=>e=.returned (.tuple #[.slice (some ⟨w.heap.size,0,none⟩) 2 2,.int .i64 0])∧w'=w.alloc (.cells (putC n) 5):=by
 have hs:=fun W=>size_any n (by omega) (by omega) W
 rw [size_2 h h1] at hs
 have hm:=make2
 have hC:=Lib.hid (putC_eq n)
 go_enter Try.func60,Try.ntmps60
 go_wp2_with fail
 refine (hs _).mono ?_
 rintro e w1 ⟨rfl,rfl⟩
 go_wp2_with fail
 refine wp_loop_rounds 3 ?_
 rw [rounds_succ]
 go_wp2
 rw [rounds_succ]
 go_wp2
 rw [rounds_succ]
 go_wp2
 go_ret2
 refine ⟨rfl,?_⟩
 rw [hC.out,put_2 h h1]
 rw [or_last (n / 128) (by omega) (by omega),or_more]
 rfl
theorem put3 (n:Int)(h:16384≤n)(h1:n≤2097151)(w:World) :
  Calls Try.prog 60 #[.int .i64 n] w fun e w'=>e=.returned (.tuple #[.slice (some ⟨w.heap.size,0,none⟩) 3 3,.int .i64 0])∧w'=w.alloc (.cells (putC n) 5):=by
 have hs:=fun W=>size_any n (by omega) (by omega) W
 rw [size_3 h h1] at hs
 have hm:=make3
 have hC:=Lib.hid (putC_eq n)
 go_enter Try.func60,Try.ntmps60
 go_wp2_with fail
 refine (hs _).mono ?_
 rintro e w1 ⟨rfl,rfl⟩
 go_wp2_with fail
 refine wp_loop_rounds 4 ?_
 rw [rounds_succ]
 go_wp2
 rw [rounds_succ]
 go_wp2
 rw [rounds_succ]
 go_wp2
 rw [rounds_succ]
 go_wp2
 go_ret2
 refine ⟨rfl,?_⟩
 rw [hC.out,put_3 h h1]
 rw [or_last (n / 16384) (by omega) (by omega),or_more,or_more]
 rfl
theorem put4 (n:Int)(h:2097152≤n)(h1:n≤268435455)(w:World) :
  Calls Try.prog 60 #[.int .i64 n] w fun e w'=>e=.returned (.tuple #[.slice (some ⟨w.heap.size,0,none⟩) 4 4,.int .i64 0])∧w'=w.alloc (.cells (putC n) 5):=by
 have hs:=fun W=>size_any n (by omega) (by omega) W
 rw [size_4 h h1] at hs
 have hm:=make4
 have hC:=Lib.hid (putC_eq n)
 go_enter Try.func60,Try.ntmps60
 go_wp2_with fail
 refine (hs _).mono ?_
 rintro e w1 ⟨rfl,rfl⟩
 go_wp2_with fail
 refine wp_loop_rounds 5 ?_
 rw [rounds_succ]
 go_wp2
 rw [rounds_succ]
 go_wp2
 rw [rounds_succ]
 go_wp2
 rw [rounds_succ]
 go_wp2
 rw [rounds_succ]
 go_wp2
 go_ret2
 refine ⟨rfl,?_⟩
 rw [hC.out,put_4 h h1]
 rw [or_last (n / 2097152) (by omega) (by omega),or_more,or_more,or_more]
 rfl
theorem lit_cells (w:World)(t:TypeId)(news:List Value)(C:Array Value)(hC:C=news.toArray):∀j u,news[j]? = some u→(w.alloc (.cells C t)).cell? (Addr.add ⟨w.heap.size,0,none⟩ j)=some u:=by
 intro j u hj
 rw [show (Addr.add ⟨w.heap.size,0,none⟩ j)=⟨w.heap.size,j,none⟩ by simp [Addr.add];exact fun h=>h.symm]
 rw [cell_of_row (w.alloc (.cells C t)) w.heap.size j C t (0,0) (heap_alloc_new w _),hC]
 simpa using hj
theorem i64_and127 (x:Int)(h0:0≤x)(h1:x≤268435455):bits .and .i64 x 127=x%128:=by
 obtain ⟨n,rfl⟩:=Int.eq_ofNat_of_zero_le h0
 show IntKind.i64.wrap ((BitVec.ofInt 64 (n:Int) &&& BitVec.ofInt 64 127).toNat:Int)=_
 have e:(BitVec.ofInt 64 (n:Int)).toNat=n:=by rw [BitVec.ofInt_natCast,BitVec.toNat_ofNat];exact Nat.mod_eq_of_lt (by omega)
 have e2:(BitVec.ofInt 64 127).toNat=127:=by decide
 rw [BitVec.toNat_and,e,e2,show n &&& 127=n%128 from Nat.and_two_pow_sub_one_eq_mod n 7,IntKind.wrap_i64]
 omega
theorem low7 (x:Int)(h0:0≤x)(h1:x≤268435455):bits .or .u8 (bits .and .i64 x 127%256) 128=x%128+128:=by
 rw [i64_and127 x h0 h1,or_more]
 omega
theorem top7 (x:Int)(h0:0≤x)(h1:x≤127):bits .and .i64 x 127%256=x:=by
 rw [i64_and127 x h0 (by omega)]
 omega
theorem rput1 (n:Int)(h:0≤n)(h1:n≤127)(w:World) :
  Calls Try.prog 40 #[.int .i64 n] w fun e w'=>∃v,e=.returned (.tuple #[v,.int .i64 0])∧w'.ownsRow w.heap.size 5 1 v 1 (putC n).toList∧Below w.heap.size w w':=by
 obtain ⟨i0,hi,hz0,hz1,hz2⟩:=info_parts Try.info5
 have hs:=fun W=>rsize_any n (by omega) (by omega) W
 rw [size_1 h h1] at hs
 have hC:=Lib.hid (putC_eq n)
 go_enter Try.func40,Try.ntmps40
 go_wp2_with fail
 refine (hs _).mono ?_
 rintro e w1 ⟨rfl,rfl⟩
 go_wp2_with fail
 refine wp_loop_rounds 2 ?_
 rw [rounds_succ]
 go_wp2_with (at_builtin;go_must (refine wpList_append_own _ rfl _ _ 22 rfl w.heap.size 5 i0 (.int .u8 0) 1 1 Try.underlying22 hi hz0 hz1 hz2 rfl (by decide) _ _ _ rfl ((World.ownsRow_nil _ _ _ _).alloc _) ⟨_,0,none⟩ 1 1 [.int .u8 _] rfl rfl (lit_cells _ _ _ _ rfl) (by simp [Value.oneCell']) (by unfold maxLen;omega) (by omega) (by first | omega | (simp;done) | (simp;omega)) ?_))
 intro v1 w2 hown1 hgrow1 _
 have B1:=((Below.refl w.heap.size w).alloc (Nat.le_refl _) _).grown hgrow1 (by simp) (fun g hg=>by cases hg)
 have s1:=B1.size
 go_wp2_with fail
 rw [rounds_succ]
 go_wp2_with fail
 go_ret2
 refine ⟨v1,rfl,?_,B1⟩
 rw [top7 n (by omega) (by omega)] at hown1
 rw [hC.out,put_1 h h1]
 exact hown1
theorem rput2 (n:Int)(h:128≤n)(h1:n≤16383)(w:World) :
  Calls Try.prog 40 #[.int .i64 n] w fun e w'=>∃v,e=.returned (.tuple #[v,.int .i64 0])∧w'.ownsRow w.heap.size 5 1 v 2 (putC n).toList∧Below w.heap.size w w':=by
 obtain ⟨i0,hi,hz0,hz1,hz2⟩:=info_parts Try.info5
 have hs:=fun W=>rsize_any n (by omega) (by omega) W
 rw [size_2 h h1] at hs
 have hC:=Lib.hid (putC_eq n)
 go_enter Try.func40,Try.ntmps40
 go_wp2_with fail
 refine (hs _).mono ?_
 rintro e w1 ⟨rfl,rfl⟩
 go_wp2_with fail
 refine wp_loop_rounds 3 ?_
 rw [rounds_succ]
 go_wp2_with (at_builtin;go_must (refine wpList_append_own _ rfl _ _ 22 rfl w.heap.size 5 i0 (.int .u8 0) 1 1 Try.underlying22 hi hz0 hz1 hz2 rfl (by decide) _ _ _ rfl ((World.ownsRow_nil _ _ _ _).alloc _) ⟨_,0,none⟩ 1 1 [.int .u8 _] rfl rfl (lit_cells _ _ _ _ rfl) (by simp [Value.oneCell']) (by unfold maxLen;omega) (by omega) (by first | omega | (simp;done) | (simp;omega)) ?_))
 intro v1 w2 hown1 hgrow1 _
 have B1:=((Below.refl w.heap.size w).alloc (Nat.le_refl _) _).grown hgrow1 (by simp) (fun g hg=>by cases hg)
 have s1:=B1.size
 go_wp2_with fail
 rw [rounds_succ]
 go_wp2_with (at_builtin;go_must (refine wpList_append_own _ rfl _ _ 22 rfl w.heap.size 5 i0 (.int .u8 0) 1 1 Try.underlying22 hi hz0 hz1 hz2 rfl (by decide) _ _ _ rfl (hown1.alloc _) ⟨_,0,none⟩ 1 1 [.int .u8 _] rfl rfl (lit_cells _ _ _ _ rfl) (by simp [Value.oneCell']) (by unfold maxLen;omega) (by omega) (by first | omega | (simp;done) | (simp;omega)) ?_))
 intro v2 w3 hown2 hgrow2 _
 have B2:=(B1.alloc s1 _).grown hgrow2 (by simp;omega) (fun g hg=>(hown1.lt g hg).1)
 have s2:=B2.size
 go_wp2_with fail
 rw [rounds_succ]
 go_wp2_with fail
 go_ret2
 refine ⟨v2,rfl,?_,B2⟩
 rw [low7 n (by omega) (by omega),top7 (n / 128) (by omega) (by omega)] at hown2
 rw [hC.out,put_2 h h1]
 exact hown2
theorem rput3 (n:Int)(h:16384≤n)(h1:n≤2097151)(w:World) :
  Calls Try.prog 40 #[.int .i64 n] w fun e w'=>∃v,e=.returned (.tuple #[v,.int .i64 0])∧w'.ownsRow w.heap.size 5 1 v 3 (putC n).toList∧Below w.heap.size w w':=by
 obtain ⟨i0,hi,hz0,hz1,hz2⟩:=info_parts Try.info5
 have hs:=fun W=>rsize_any n (by omega) (by omega) W
 rw [size_3 h h1] at hs
 have hC:=Lib.hid (putC_eq n)
 go_enter Try.func40,Try.ntmps40
 go_wp2_with fail
 refine (hs _).mono ?_
 rintro e w1 ⟨rfl,rfl⟩
 go_wp2_with fail
 refine wp_loop_rounds 4 ?_
 rw [rounds_succ]
 go_wp2_with (at_builtin;go_must (refine wpList_append_own _ rfl _ _ 22 rfl w.heap.size 5 i0 (.int .u8 0) 1 1 Try.underlying22 hi hz0 hz1 hz2 rfl (by decide) _ _ _ rfl ((World.ownsRow_nil _ _ _ _).alloc _) ⟨_,0,none⟩ 1 1 [.int .u8 _] rfl rfl (lit_cells _ _ _ _ rfl) (by simp [Value.oneCell']) (by unfold maxLen;omega) (by omega) (by first | omega | (simp;done) | (simp;omega)) ?_))
 intro v1 w2 hown1 hgrow1 _
 have B1:=((Below.refl w.heap.size w).alloc (Nat.le_refl _) _).grown hgrow1 (by simp) (fun g hg=>by cases hg)
 have s1:=B1.size
 go_wp2_with fail
 rw [rounds_succ]
 go_wp2_with (at_builtin;go_must (refine wpList_append_own _ rfl _ _ 22 rfl w.heap.size 5 i0 (.int .u8 0) 1 1 Try.underlying22 hi hz0 hz1 hz2 rfl (by decide) _ _ _ rfl (hown1.alloc _) ⟨_,0,none⟩ 1 1 [.int .u8 _] rfl rfl (lit_cells _ _ _ _ rfl) (by simp [Value.oneCell']) (by unfold maxLen;omega) (by omega) (by first | omega | (simp;done) | (simp;omega)) ?_))
 intro v2 w3 hown2 hgrow2 _
 have B2:=(B1.alloc s1 _).grown hgrow2 (by simp;omega) (fun g hg=>(hown1.lt g hg).1)
 have s2:=B2.size
 go_wp2_with fail
 rw [rounds_succ]
 go_wp2_with (at_builtin;go_must (refine wpList_append_own _ rfl _ _ 22 rfl w.heap.size 5 i0 (.int .u8 0) 1 1 Try.underlying22 hi hz0 hz1 hz2 rfl (by decide) _ _ _ rfl (hown2.alloc _) ⟨_,0,none⟩ 1 1 [.int .u8 _] rfl rfl (lit_cells _ _ _ _ rfl) (by simp [Value.oneCell']) (by unfold maxLen;omega) (by omega) (by first | omega | (simp;done) | (simp;omega)) ?_))
 intro v3 w4 hown3 hgrow3 _
 have B3:=(B2.alloc s2 _).grown hgrow3 (by simp;omega) (fun g hg=>(hown2.lt g hg).1)
 have s3:=B3.size
 go_wp2_with fail
 rw [rounds_succ]
 go_wp2_with fail
 go_ret2
 refine ⟨v3,rfl,?_,B3⟩
 rw [low7 n (by omega) (by omega),low7 (n / 128) (by omega) (by omega),top7 (n / 16384) (by omega) (by omega)] at hown3
 rw [hC.out,put_3 h h1]
 exact hown3
theorem rput4 (n:Int)(h:2097152≤n)(h1:n≤268435455)(w:World) :
  Calls Try.prog 40 #[.int .i64 n] w fun e w'=>∃v,e=.returned (.tuple #[v,.int .i64 0])∧w'.ownsRow w.heap.size 5 1 v 4 (putC n).toList∧Below w.heap.size w w':=by
 obtain ⟨i0,hi,hz0,hz1,hz2⟩:=info_parts Try.info5
 have hs:=fun W=>rsize_any n (by omega) (by omega) W
 rw [size_4 h h1] at hs
 have hC:=Lib.hid (putC_eq n)
 go_enter Try.func40,Try.ntmps40
 go_wp2_with fail
 refine (hs _).mono ?_
 rintro e w1 ⟨rfl,rfl⟩
 go_wp2_with fail
 refine wp_loop_rounds 5 ?_
 rw [rounds_succ]
 go_wp2_with (at_builtin;go_must (refine wpList_append_own _ rfl _ _ 22 rfl w.heap.size 5 i0 (.int .u8 0) 1 1 Try.underlying22 hi hz0 hz1 hz2 rfl (by decide) _ _ _ rfl ((World.ownsRow_nil _ _ _ _).alloc _) ⟨_,0,none⟩ 1 1 [.int .u8 _] rfl rfl (lit_cells _ _ _ _ rfl) (by simp [Value.oneCell']) (by unfold maxLen;omega) (by omega) (by first | omega | (simp;done) | (simp;omega)) ?_))
 intro v1 w2 hown1 hgrow1 _
 have B1:=((Below.refl w.heap.size w).alloc (Nat.le_refl _) _).grown hgrow1 (by simp) (fun g hg=>by cases hg)
 have s1:=B1.size
 go_wp2_with fail
 rw [rounds_succ]
 go_wp2_with (at_builtin;go_must (refine wpList_append_own _ rfl _ _ 22 rfl w.heap.size 5 i0 (.int .u8 0) 1 1 Try.underlying22 hi hz0 hz1 hz2 rfl (by decide) _ _ _ rfl (hown1.alloc _) ⟨_,0,none⟩ 1 1 [.int .u8 _] rfl rfl (lit_cells _ _ _ _ rfl) (by simp [Value.oneCell']) (by unfold maxLen;omega) (by omega) (by first | omega | (simp;done) | (simp;omega)) ?_))
 intro v2 w3 hown2 hgrow2 _
 have B2:=(B1.alloc s1 _).grown hgrow2 (by simp;omega) (fun g hg=>(hown1.lt g hg).1)
 have s2:=B2.size
 go_wp2_with fail
 rw [rounds_succ]
 go_wp2_with (at_builtin;go_must (refine wpList_append_own _ rfl _ _ 22 rfl w.heap.size 5 i0 (.int .u8 0) 1 1 Try.underlying22 hi hz0 hz1 hz2 rfl (by decide) _ _ _ rfl (hown2.alloc _) ⟨_,0,none⟩ 1 1 [.int .u8 _] rfl rfl (lit_cells _ _ _ _ rfl) (by simp [Value.oneCell']) (by unfold maxLen;omega) (by omega) (by first | omega | (simp;done) | (simp;omega)) ?_))
 intro v3 w4 hown3 hgrow3 _
 have B3:=(B2.alloc s2 _).grown hgrow3 (by simp;omega) (fun g hg=>(hown2.lt g hg).1)
 have s3:=B3.size
 go_wp2_with fail
 rw [rounds_succ]
 go_wp2_with (at_builtin;go_must (refine wpList_append_own _ rfl _ _ 22 rfl w.heap.size 5 i0 (.int .u8 0) 1 1 Try.underlying22 hi hz0 hz1 hz2 rfl (by decide) _ _ _ rfl (hown3.alloc _) ⟨_,0,none⟩ 1 1 [.int .u8 _] rfl rfl (lit_cells _ _ _ _ rfl) (by simp [Value.oneCell']) (by unfold maxLen;omega) (by omega) (by first | omega | (simp;done) | (simp;omega)) ?_))
 intro v4 w5 hown4 hgrow4 _
 have B4:=(B3.alloc s3 _).grown hgrow4 (by simp;omega) (fun g hg=>(hown3.lt g hg).1)
 have s4:=B4.size
 go_wp2_with fail
 rw [rounds_succ]
 go_wp2_with fail
 go_ret2
 refine ⟨v4,rfl,?_,B4⟩
 rw [low7 n (by omega) (by omega),low7 (n / 128) (by omega) (by omega),low7 (n / 16384) (by omega) (by omega),top7 (n / 2097152) (by omega) (by omega)] at hown4
 rw [hC.out,put_4 h h1]
 exact hown4
theorem put_ok (n:Int)(h:0≤n)(h1:n≤268435455)(w:World) :
  Calls Try.prog 60 #[.int .i64 n] w fun e w'=>∃A c,e=.returned (.tuple #[.slice A (putL n).length c,.int .i64 0])∧BytesAt w' w'.heap.size (.slice A (putL n).length c) (putL n)∧Below w.heap.size w w':=by
 have key:∀k:Nat,(putL n).length=k→Calls Try.prog 60 #[.int .i64 n] w (fun e w'=>e=.returned (.tuple #[.slice (some ⟨w.heap.size,0,none⟩) k k,.int .i64 0])∧w'=w.alloc (.cells (putC n) 5)) →
   Calls Try.prog 60 #[.int .i64 n] w fun e w'=>∃A c,e=.returned (.tuple #[.slice A (putL n).length c,.int .i64 0])∧BytesAt w' w'.heap.size (.slice A (putL n).length c) (putL n)∧Below w.heap.size w w':=by
  intro k hk hc
  refine hc.mono ?_
  rintro e w' ⟨rfl,rfl⟩
  refine ⟨some ⟨w.heap.size,0,none⟩,k,by rw [hk],?_,(Below.refl _ _).alloc (Nat.le_refl _) _⟩
  have hb:=bytesAt_new w (putL n) (putC n) (0,0) rfl (by have:=putL_len n;unfold maxLen;omega)
  rw [World.size_alloc]
  rw [hk] at hb ⊢
  exact hb
 by_cases q1:n≤127
 ·exact key 1 (by unfold putL;rw [put_1 h q1];rfl) (put1 n h q1 w)
 by_cases q2:n≤16383
 ·exact key 2 (by unfold putL;rw [put_2 (by omega) q2];rfl) (put2 n (by omega) q2 w)
 by_cases q3:n≤2097151
 ·exact key 3 (by unfold putL;rw [put_3 (by omega) q3];rfl) (put3 n (by omega) q3 w)
 ·exact key 4 (by unfold putL;rw [put_4 (by omega) h1];rfl) (put4 n (by omega) h1 w)
theorem rput_ok (n:Int)(h:0≤n)(h1:n≤268435455)(w:World) :
  Calls Try.prog 40 #[.int .i64 n] w fun e w'=>∃A c,e=.returned (.tuple #[.slice A (putL n).length c,.int .i64 0])∧BytesAt w' w'.heap.size (.slice A (putL n).length c) (putL n)∧Below w.heap.size w w':=by
 have key:∀k:Nat,(putL n).length=k→Calls Try.prog 40 #[.int .i64 n] w (fun e w'=>∃v,e=.returned (.tuple #[v,.int .i64 0])∧w'.ownsRow w.heap.size 5 1 v k (putC n).toList∧Below w.heap.size w w') →
   Calls Try.prog 40 #[.int .i64 n] w fun e w'=>∃A c,e=.returned (.tuple #[.slice A (putL n).length c,.int .i64 0])∧BytesAt w' w'.heap.size (.slice A (putL n).length c) (putL n)∧Below w.heap.size w w':=by
  intro k hk hc
  refine hc.mono ?_
  rintro e w' ⟨v,rfl,ho,hb⟩
  rw [←hk] at ho
  have hv:=ownsBytes ho
  obtain ⟨A,c,rfl,_⟩:=id hv
  exact ⟨A,c,rfl,hv,hb⟩
 by_cases q1:n≤127
 ·exact key 1 (by unfold putL;rw [put_1 h q1];rfl) (rput1 n h q1 w)
 by_cases q2:n≤16383
 ·exact key 2 (by unfold putL;rw [put_2 (by omega) q2];rfl) (rput2 n (by omega) q2 w)
 by_cases q3:n≤2097151
 ·exact key 3 (by unfold putL;rw [put_3 (by omega) q3];rfl) (rput3 n (by omega) q3 w)
 ·exact key 4 (by unfold putL;rw [put_4 (by omega) h1];rfl) (rput4 n (by omega) h1 w)
theorem put_no (n:Int)(h:n≤-1∨268435456≤n)(hl:-9223372036854775808≤n)(hh:n≤9223372036854775807)(w:World) :
  Calls Try.prog 60 #[.int .i64 n] w fun e w'=>e=.returned (.tuple #[.slice none 0 0,.int .i64 31])∧w=w':=by
 have hs:=fun W=>size_any n hl hh W
 rw [show sizeI n=0 by rcases h with h | h;exact size_neg h;exact size_big h] at hs
 clear h
 go_enter Try.func60,Try.ntmps60
 go_wp2_with fail
 refine (hs _).mono ?_
 rintro e w1 ⟨rfl,rfl⟩
 go_wp2_with fail
 go_ret2
 exact ⟨rfl,rfl⟩
theorem rput_no (n:Int)(h:n≤-1∨268435456≤n)(hl:-9223372036854775808≤n)(hh:n≤9223372036854775807)(w:World) :
  Calls Try.prog 40 #[.int .i64 n] w fun e w'=>e=.returned (.tuple #[.slice none 0 0,.int .i64 31])∧w=w':=by
 have hs:=fun W=>rsize_any n hl hh W
 rw [show sizeI n=0 by rcases h with h | h;exact size_neg h;exact size_big h] at hs
 clear h
 go_enter Try.func40,Try.ntmps40
 go_wp2_with fail
 refine (hs _).mono ?_
 rintro e w1 ⟨rfl,rfl⟩
 go_wp2_with fail
 go_ret2
 exact ⟨rfl,rfl⟩
def errI (n:Int):Int:=if n≤-1∨268435456≤n then 31 else 0
theorem put_any (n:Int)(hl:-9223372036854775808≤n)(hh:n≤9223372036854775807)(w:World) :
  Calls Try.prog 60 #[.int .i64 n] w fun e w'=>∃A c,e=.returned (.tuple #[.slice A (putL n).length c,.int .i64 (errI n)])∧BytesAt w' w'.heap.size (.slice A (putL n).length c) (putL n)∧Below w.heap.size w w':=by
 by_cases h:n≤-1∨268435456≤n
 ·have e1:putL n=[]:=by unfold putL;rw [put_none h];rfl
  have e2:errI n=31:=if_pos h
  rw [e1,e2]
  refine (put_no n h hl hh w).mono ?_
  rintro e w' ⟨rfl,rfl⟩
  exact ⟨none,0,rfl,⟨none,0,rfl,by simp,by decide,fun _=>rfl,by simp,by simp⟩,Below.refl _ _⟩
 ·have e2:errI n=0:=if_neg h
  rw [e2]
  exact put_ok n (by omega) (by omega) w
theorem rput_any (n:Int)(hl:-9223372036854775808≤n)(hh:n≤9223372036854775807)(w:World) :
  Calls Try.prog 40 #[.int .i64 n] w fun e w'=>∃A c,e=.returned (.tuple #[.slice A (putL n).length c,.int .i64 (errI n)])∧BytesAt w' w'.heap.size (.slice A (putL n).length c) (putL n)∧Below w.heap.size w w':=by
 by_cases h:n≤-1∨268435456≤n
 ·have e1:putL n=[]:=by unfold putL;rw [put_none h];rfl
  have e2:errI n=31:=if_pos h
  rw [e1,e2]
  refine (rput_no n h hl hh w).mono ?_
  rintro e w' ⟨rfl,rfl⟩
  exact ⟨none,0,rfl,⟨none,0,rfl,by simp,by decide,fun _=>rfl,by simp,by simp⟩,Below.refl _ _⟩
 ·have e2:errI n=0:=if_neg h
  rw [e2]
  exact rput_ok n (by omega) (by omega) w
def wholeT (n s:Int):Int×Int×Int:=if sizeI n=s then (n,s,0) else (0,0,21)
def readAt:Nat→Int→List UInt8→Int×Int×Int
 | _,_,[]=>(0,0,20)
 | i,n,c :: r=>if c.toNat≤127 then wholeT (n+(c.toNat:Int)*128 ^ i) (i+1) else if i=3 then (0,0,21) else readAt (i+1) (n+((c.toNat:Int)%128)*128 ^ i) r
def readT (l:List UInt8):Int×Int×Int:=readAt 0 0 l
theorem whole_any (n s a b d:Int)(hT:wholeT n s=(a,b,d))(hl:0≤n)(hh:n≤268435455)(w:World) :
  Calls Try.prog 100 #[.int .i64 n,.int .i64 s] w fun e w'=>e=.returned (.tuple #[.int .i64 a,.int .i64 b,.int .i64 d])∧w=w':=by
 have hs:=fun W=>size_any n (by omega) (by omega) W
 by_cases q:sizeI n=s
 ·have e1:wholeT n s=(n,s,0):=if_pos q
  rw [e1] at hT
  obtain ⟨rfl,rfl,rfl⟩:n=a∧s=b∧(0:Int)=d:=by simpa using hT
  rw [q] at hs
  clear q e1 hT
  go_enter Try.func100,Try.ntmps100
  go_wp2_with fail
  refine (hs _).mono ?_
  rintro e w1 ⟨rfl,rfl⟩
  go_wp2_with fail
  go_ret3
  exact ⟨rfl,rfl⟩
 ·have e1:wholeT n s=(0,0,21):=if_neg q
  rw [e1] at hT
  obtain ⟨rfl,rfl,rfl⟩:(0:Int)=a∧(0:Int)=b∧(21:Int)=d:=by simpa using hT
  have hz:=size_le n
  generalize sizeI n=z at *
  clear e1 hT
  go_enter Try.func100,Try.ntmps100
  go_wp2_with fail
  refine (hs _).mono ?_
  rintro e w1 ⟨rfl,rfl⟩
  go_wp2_with fail
  go_ret3
  exact ⟨rfl,rfl⟩
theorem or_add (n x k:Nat)(h:n<2 ^ k)(hx:n+x*2 ^ k≤268435455):bits .or .i64 (n:Int) ((x*2 ^ k:Nat):Int)=((n+x*2 ^ k:Nat):Int):=by
 have hp:0<2 ^ k:=Nat.two_pow_pos k
 generalize hy:x*2 ^ k=y at *
 show IntKind.i64.wrap ((BitVec.ofInt 64 (n:Int) ||| BitVec.ofInt 64 (y:Int)).toNat:Int)=_
 have e1:(BitVec.ofInt 64 (n:Int)).toNat=n:=by rw [BitVec.ofInt_natCast,BitVec.toNat_ofNat];exact Nat.mod_eq_of_lt (by omega)
 have e2:(BitVec.ofInt 64 (y:Int)).toNat=y:=by rw [BitVec.ofInt_natCast,BitVec.toNat_ofNat];exact Nat.mod_eq_of_lt (by omega)
 have e3:n ||| y=n+y:=by
  have:=Nat.two_pow_add_eq_or_of_lt h x
  rw [Nat.or_comm,←hy,Nat.mul_comm,←this,Nat.add_comm]
 rw [BitVec.toNat_or,e1,e2,e3,IntKind.wrap_i64]
 omega
theorem andNot_more:∀y:Fin 256,bits .andNot .u8 (y.val:Int) 128=((y.val%128:Nat):Int):=by decide +kernel
theorem pow_le (j:Nat)(hj:j≤3):(2:Nat) ^ (7*j)=128 ^ j∧(128:Int) ^ j=((128 ^ j:Nat):Int)∧(128:Nat) ^ j≤2097152∧(128:Int) ^ (j+1)=128*128 ^ j:=by
 match j,hj with
 | 0,_=>decide
 | 1,_=>decide
 | 2,_=>decide
 | 3,_=>decide
theorem wrap_in (n:Int)(h:-9223372036854775808≤n)(h1:n≤9223372036854775807):wrap64 n=n:=by
 unfold wrap64
 omega
theorem acc_P (m z K P:Nat)(hK:2 ^ K=P)(hP:P≤2097152)(hz:z≤127)(h1:m<P) :
  bits .or .i64 (m:Int) (wrap64 (wrap64 (z:Int)*(P:Int)))=(m:Int)+(z:Int)*(P:Int)∧(m:Int)+(z:Int)*(P:Int)+1≤128*(P:Int):=by
 have hmul:z*P≤127*P:=Nat.mul_le_mul_right _ hz
 have hor:=or_add m z K (by rw [hK];exact h1) (by rw [hK];omega)
 rw [hK] at hor
 have e1:wrap64 (z:Int)=(z:Int):=wrap_in _ (by omega) (by omega)
 rw [e1,←Int.natCast_mul]
 generalize z*P=y at *
 have e2:wrap64 (y:Int)=(y:Int):=wrap_in _ (by omega) (by omega)
 rw [e2,hor]
 omega
theorem acc_eq (n:Int)(z j:Nat)(hz:z<256)(hj:j≤3)(h0:0≤n)(h1:n+1≤128 ^ j) :
  bits .or .i64 n (wrap64 (wrap64 (bits .andNot .u8 (z:Int) 128)*2 ^ (7*j)))=n+((z:Int)%128)*128 ^ j∧0≤n+((z:Int)%128)*128 ^ j∧n+((z:Int)%128)*128 ^ j+1≤128 ^ (j+1)∧n+((z:Int)%128)*128 ^ j≤268435455:=by
 obtain ⟨p1,p2,p3,p4⟩:=pow_le j hj
 have e2:(2:Int) ^ (7*j)=((128 ^ j:Nat):Int):=by rw [←p1,Int.natCast_pow];rfl
 have e:=andNot_more ⟨z,hz⟩
 simp only at e
 rw [e,e2,p4,p2]
 rw [p2] at h1
 generalize 128 ^ j=P at *
 obtain ⟨m,rfl⟩:=Int.eq_ofNat_of_zero_le h0
 have key:=acc_P m (z%128) (7*j) P p1 p3 (by omega) (by omega)
 rw [show (z:Int)%128=((z%128:Nat):Int) by omega]
 clear p1 e2 e h1 h0 p2 p4
 refine ⟨key.1,?_,key.2,?_⟩
 ·have:=Int.mul_nonneg (Int.natCast_nonneg (z%128)) (Int.natCast_nonneg P)
  omega
 ·have:=key.2
  omega
theorem readAt_end {i:Nat}{n:Int}{c:UInt8}{r:List UInt8}(h:c.toNat≤127):readAt i n (c :: r)=wholeT (n+(c.toNat:Int)*128 ^ i) (i+1):=if_pos h
theorem readAt_far {i:Nat}{n:Int}{c:UInt8}{r:List UInt8}(h:¬c.toNat≤127)(hi:i=3):readAt i n (c :: r)=(0,0,21):=by
 subst hi
 show (if _ then _ else _)=_
 rw [if_neg h,if_pos rfl]
theorem readAt_more {i:Nat}{n:Int}{c:UInt8}{r:List UInt8}(h:¬c.toNat≤127)(hi:i≠3):readAt i n (c :: r)=readAt (i+1) (n+((c.toNat:Int)%128)*128 ^ i) r:=by
 show (if _ then _ else _)=_
 rw [if_neg h,if_neg hi]
theorem read_some (ad:Addr)(c:Nat)(l:List UInt8)(w:World)(a b d:Int)(hT:readT l=(a,b,d))(hl:l.length≤1000000)(hx:∀(j:Nat)(x:UInt8),l[j]? = some x→w.cell? (ad.add j)=some (.int .u8 (x.toNat:Int))) :
  Calls Try.prog 83 #[.slice (some ad) l.length c] w fun e w'=>e=.returned (.tuple #[.int .i64 a,.int .i64 b,.int .i64 d])∧w=w':=by
 have HX:=Lib.hid hx
 clear hx
 have HT:=Lib.hid hT
 clear hT
 go_enter Try.func83,Try.ntmps83
 go_wp2
 go_loopw [5,10] (fun sn si wr=>∃(j:Nat) (n:Int),j≤3∧j≤l.length∧sn=.int .i64 n∧si=.int .i64 j∧0≤n∧n+1≤128 ^ j∧Hid (readAt j n (l.drop j)=(a,b,d))∧wr=w) (fun _ i _=>4 - (intOf i).toNat)
 case atStart=>exact ⟨0,0,by omega,by omega,rfl,rfl,by omega,by decide,HT,rfl⟩
 case round =>
  obtain ⟨j,n,hj,hjl,rfl,rfl,hn0,hn1,hrd,rfl⟩:=hrel
  by_cases hlt:j<l.length
  ·have hcell:=HX.out j _ (List.getElem?_eq_getElem hlt)
   have hd:l.drop j=l[j] :: l.drop (j+1):=List.drop_eq_getElem_cons hlt
   have HD:=Lib.hid hd
   clear hd
   have hb256:l[j].toNat<256:=l[j].toNat_lt
   generalize l[j]=x at *
   have hacc:=acc_eq n x.toNat j hb256 hj hn0 hn1
   have HA:=Lib.hid hacc
   clear hacc
   by_cases hz:x.toNat≤127
   ·have hfin:Hid (wholeT (n+((x.toNat:Int)%128)*128 ^ j) ((j:Int)+1)=(a,b,d)):=by
     have h:=hrd.out
     rw [HD.out,readAt_end hz] at h
     rw [←h]
     congr 2
     have:((x.toNat:Int)%128)=(x.toNat:Int):=by omega
     rw [this]
    generalize x.toNat=z at *
    clear hrd HD hn1
    go_wp2_with fail
    rw [HA.out.1]
    refine (whole_any _ _ _ _ _ hfin.out HA.out.2.1 HA.out.2.2.2 _).mono ?_
    rintro e w1 ⟨rfl,rfl⟩
    go_wp2_with fail
    go_ret3
    exact ⟨rfl,rfl⟩
   ·by_cases h3:3≤j
    ·have hfin:(0:Int)=a∧(0:Int)=b∧(21:Int)=d:=by
      have h:=hrd.out
      rw [HD.out,readAt_far hz (by omega)] at h
      simpa using h
     obtain ⟨rfl,rfl,rfl⟩:=hfin
     generalize x.toNat=z at *
     clear hrd HD hn1 HT
     go_wp2_with fail
     go_ret3
     exact ⟨rfl,rfl⟩
    ·have hfin:Hid (readAt (j+1) (n+((x.toNat:Int)%128)*128 ^ j) (l.drop (j+1))=(a,b,d)):=by
      have h:=hrd.out
      rw [HD.out,readAt_more hz (by omega)] at h
      exact h
     generalize x.toNat=z at *
     clear hrd HD hn1
     go_wp2_with fail
     go_roundw
     case rel =>
      refine ⟨j+1,_,by omega,by omega,by rw [HA.out.1],by go_num,HA.out.2.1,HA.out.2.2.1,hfin,trivial⟩
     case measure=>simp [intOf];omega
  ·have hfin:(0:Int)=a∧(0:Int)=b∧(20:Int)=d:=by
    have h:=hrd.out
    rw [List.drop_of_length_le (by omega)] at h
    unfold readAt at h
    simpa using h
   obtain ⟨rfl,rfl,rfl⟩:=hfin
   clear hrd HT
   go_wp2_with fail
   go_ret3
   exact ⟨rfl,rfl⟩
theorem read_none (c:Nat)(w:World) :
  Calls Try.prog 83 #[.slice none 0 c] w fun e w'=>e=.returned (.tuple #[.int .i64 0,.int .i64 0,.int .i64 20])∧w=w':=by
 go_enter Try.func83,Try.ntmps83
 go_wp2_with fail
 refine wp_loop_rounds 1 ?_
 rw [rounds_succ]
 go_wp2_with fail
 go_ret3
 exact ⟨rfl,rfl⟩
theorem read_any (v:Value)(l:List UInt8)(w:World)(B:Nat)(hv:BytesAt w B v l)(hl:l.length≤1000000)(a b d:Int)(hT:readT l=(a,b,d)) :
  Calls Try.prog 83 #[v] w fun e w'=>e=.returned (.tuple #[.int .i64 a,.int .i64 b,.int .i64 d])∧w=w':=by
 obtain ⟨A,c,rfl,_,_,hn,_,hx⟩:=hv
 cases A with
 | some ad=>exact read_some ad c l w a b d hT hl (hx ad rfl)
 | none =>
  obtain rfl:=hn rfl
  obtain ⟨rfl,rfl,rfl⟩:(0:Int)=a∧(0:Int)=b∧(20:Int)=d:=by
   unfold readT readAt at hT
   simpa using hT
  exact read_none c w
theorem and_more:∀y:Fin 256,bits .and .u8 (y.val:Int) 127=bits .andNot .u8 (y.val:Int) 128:=by decide +kernel
theorem acc_eq2 (n:Int)(z j:Nat)(hz:z<256)(hj:j≤3)(h0:0≤n)(h1:n+1≤128 ^ j) :
  bits .or .i64 n (wrap64 (wrap64 (bits .and .u8 (z:Int) 127)*2 ^ (7*j)))=n+((z:Int)%128)*128 ^ j∧0≤n+((z:Int)%128)*128 ^ j∧n+((z:Int)%128)*128 ^ j+1≤128 ^ (j+1)∧n+((z:Int)%128)*128 ^ j≤268435455:=by
 have e:=and_more ⟨z,hz⟩
 simp only at e
 rw [e]
 exact acc_eq n z j hz hj h0 h1
theorem rread_some (ad:Addr)(c:Nat)(l:List UInt8)(w:World)(a b d:Int)(hT:readT l=(a,b,d))(hl:l.length≤1000000)(hx:∀(j:Nat)(x:UInt8),l[j]? = some x→w.cell? (ad.add j)=some (.int .u8 (x.toNat:Int))) :
  Calls Try.prog 57 #[.slice (some ad) l.length c] w fun e w'=>e=.returned (.tuple #[.int .i64 a,.int .i64 b,.int .i64 d])∧w=w':=by
 have HX:=Lib.hid hx
 clear hx
 have HT:=Lib.hid hT
 clear hT
 go_enter Try.func57,Try.ntmps57
 go_wp2
 go_loopw [5,6] (fun sn si wr=>∃(j:Nat) (n:Int),j≤4∧j≤l.length∧sn=.int .i64 n∧si=.int .i64 j∧0≤n∧Hid (j≤3→n+1≤128 ^ j∧readAt j n (l.drop j)=(a,b,d))∧Hid (4≤j→(0,0,21)=(a,b,d))∧wr=w) (fun _ i _=>4 - (intOf i).toNat)
 case atStart=>exact ⟨0,0,by omega,by omega,rfl,rfl,by omega,fun _=>⟨by decide,HT⟩,fun h=>by omega,rfl⟩
 case round =>
  obtain ⟨j,n,hj,hjl,rfl,rfl,hn0,hrd,hfar,rfl⟩:=hrel
  by_cases hj4:4≤j
  ·obtain ⟨rfl,rfl,rfl⟩:(0:Int)=a∧(0:Int)=b∧(21:Int)=d:=by simpa using hfar.out hj4
   clear hrd HT hfar
   go_wp2_with fail
   go_ret3
   exact ⟨rfl,rfl⟩
  have hj3:j≤3:=by omega
  have hn1:=(hrd.out hj3).1
  have hrd:=Lib.hid (hrd.out hj3).2
  by_cases hlt:j<l.length
  ·have hcell:=HX.out j _ (List.getElem?_eq_getElem hlt)
   have hd:l.drop j=l[j] :: l.drop (j+1):=List.drop_eq_getElem_cons hlt
   have HD:=Lib.hid hd
   clear hd
   have hb256:l[j].toNat<256:=l[j].toNat_lt
   generalize l[j]=x at *
   have hacc:=acc_eq2 n x.toNat j hb256 hj3 hn0 hn1
   have HA:=Lib.hid hacc
   clear hacc
   by_cases hz:x.toNat≤127
   ·have hfin:Hid (wholeT (n+((x.toNat:Int)%128)*128 ^ j) ((j:Int)+1)=(a,b,d)):=by
     have h:=hrd.out
     rw [HD.out,readAt_end hz] at h
     rw [←h]
     congr 2
     have:((x.toNat:Int)%128)=(x.toNat:Int):=by omega
     rw [this]
    generalize x.toNat=z at *
    clear hrd HD hn1 hfar
    have hs:=fun W=>rsize_any (n+((z:Int)%128)*128 ^ j) (by have:=HA.out.2.1;omega) (by have:=HA.out.2.2.2;omega) W
    have hsz:=size_le (n+((z:Int)%128)*128 ^ j)
    have hfin:=hfin
    unfold wholeT at hfin
    generalize sizeI (n+((z:Int)%128)*128 ^ j)=s at *
    by_cases q:s=(j:Int)+1
    ·have h3:=hfin.out
     rw [if_pos q] at h3
     obtain ⟨h3a,h3b,h3c⟩:n+((z:Int)%128)*128 ^ j=a∧(j:Int)+1=b∧(0:Int)=d:=by simpa using h3
     have e1:=HA.out.1
     rw [h3a] at e1 hs
     have E1:=Lib.hid e1
     subst h3c
     have H3:=Lib.hid h3b
     clear HA hfin h3 h3a h3b e1
     go_wp2_with fail
     rw [E1.out]
     refine (hs _).mono ?_
     rintro e w1 ⟨rfl,rfl⟩
     go_wp2_with fail
     go_ret3
     exact ⟨by rw [←H3.out];rfl,rfl⟩
    ·have h3:=hfin.out
     rw [if_neg q] at h3
     obtain ⟨rfl,rfl,rfl⟩:(0:Int)=a∧(0:Int)=b∧(21:Int)=d:=by simpa using h3
     have e1:=HA.out.1
     have E1:=Lib.hid e1
     clear HA hfin h3 e1
     go_wp2_with fail
     rw [E1.out]
     refine (hs _).mono ?_
     rintro e w1 ⟨rfl,rfl⟩
     go_wp2_with fail
     go_ret3
     exact ⟨rfl,rfl⟩
   ·have hfin:Hid (j+1≤3→n+((x.toNat:Int)%128)*128 ^ j+1≤128 ^ (j+1)∧readAt (j+1) (n+((x.toNat:Int)%128)*128 ^ j) (l.drop (j+1))=(a,b,d)):=by
     intro h3
     refine ⟨HA.out.2.2.1,?_⟩
     have h:=hrd.out
     rw [HD.out,readAt_more hz (by omega)] at h
     exact h
    have hfin2:Hid (4≤j+1→(0,0,21)=(a,b,d)):=by
     intro h3
     have h:=hrd.out
     rw [HD.out,readAt_far hz (by omega)] at h
     exact h
    generalize x.toNat=z at *
    clear hrd HD hn1 hfar
    go_wp2_with fail
    go_roundw
    case rel =>
     exact ⟨j+1,_,by omega,by omega,by rw [HA.out.1],by go_num,HA.out.2.1,hfin,hfin2,trivial⟩
    case measure=>simp [intOf];omega
  ·obtain ⟨rfl,rfl,rfl⟩:(0:Int)=a∧(0:Int)=b∧(20:Int)=d:=by
    have h:=hrd.out
    rw [List.drop_of_length_le (by omega)] at h
    unfold readAt at h
    simpa using h
   clear hrd HT hfar hn1
   go_wp2_with fail
   go_ret3
   exact ⟨rfl,rfl⟩
theorem rread_none (c:Nat)(w:World) :
  Calls Try.prog 57 #[.slice none 0 c] w fun e w'=>e=.returned (.tuple #[.int .i64 0,.int .i64 0,.int .i64 20])∧w=w':=by
 go_enter Try.func57,Try.ntmps57
 go_wp2_with fail
 refine wp_loop_rounds 1 ?_
 rw [rounds_succ]
 go_wp2_with fail
 go_ret3
 exact ⟨rfl,rfl⟩
theorem rread_any (v:Value)(l:List UInt8)(w:World)(B:Nat)(hv:BytesAt w B v l)(hl:l.length≤1000000)(a b d:Int)(hT:readT l=(a,b,d)) :
  Calls Try.prog 57 #[v] w fun e w'=>e=.returned (.tuple #[.int .i64 a,.int .i64 b,.int .i64 d])∧w=w':=by
 obtain ⟨A,c,rfl,_,_,hn,_,hx⟩:=hv
 cases A with
 | some ad=>exact rread_some ad c l w a b d hT hl (hx ad rfl)
 | none =>
  obtain rfl:=hn rfl
  obtain ⟨rfl,rfl,rfl⟩:(0:Int)=a∧(0:Int)=b∧(20:Int)=d:=by
   unfold readT readAt at hT
   simpa using hT
  exact rread_none c w
theorem byte_of (b:Int)(h:0≤b)(h1:b≤255):(((UInt8.ofNat b.toNat).toNat:Nat):Int)=b:=by
 rw [UInt8.toNat_ofNat']
 omega
theorem putL_1 {n:Int}(h:0≤n)(h1:n≤127):putL n=[UInt8.ofNat n.toNat]:=by unfold putL;rw [put_1 h h1];rfl
theorem putL_2 {n:Int}(h:128≤n)(h1:n≤16383):putL n=[UInt8.ofNat (n%128+128).toNat,UInt8.ofNat (n / 128).toNat]:=by unfold putL;rw [put_2 h h1];rfl
theorem putL_3 {n:Int}(h:16384≤n)(h1:n≤2097151):putL n=[UInt8.ofNat (n%128+128).toNat,UInt8.ofNat (n / 128%128+128).toNat,UInt8.ofNat (n / 16384).toNat]:=by unfold putL;rw [put_3 h h1];rfl
theorem putL_4 {n:Int}(h:2097152≤n)(h1:n≤268435455):putL n=[UInt8.ofNat (n%128+128).toNat,UInt8.ofNat (n / 128%128+128).toNat,UInt8.ofNat (n / 16384%128+128).toNat,UInt8.ofNat (n / 2097152).toNat]:=by unfold putL;rw [put_4 h h1];rfl
theorem read_last (i:Nat)(n v x:Int)(m:List UInt8)(h:0≤v)(h1:v≤127)(hx:n+v*128 ^ i=x)(hs:sizeI x=(i:Int)+1):readAt i n (UInt8.ofNat v.toNat :: m)=(x,(i:Int)+1,0):=by
 have e:=byte_of v h (by omega)
 rw [readAt_end (by omega),e,hx]
 exact if_pos hs
theorem read_next (i:Nat)(n v:Int)(m:List UInt8)(h:128≤v)(h1:v≤255)(hi:i≠3):readAt i n (UInt8.ofNat v.toNat :: m)=readAt (i+1) (n+(v - 128)*128 ^ i) m:=by
 have e:=byte_of v (by omega) h1
 rw [readAt_more (by omega) hi,e]
 congr 3
 omega
theorem back_T (x:Int)(h:0≤x)(h1:x≤268435455)(m:List UInt8):readT (putL x++m)=(x,((putL x).length:Int),0):=by
 by_cases q1:x≤127
 ·rw [putL_1 h q1]
  exact read_last 0 0 x x m h q1 (by omega) (size_1 h q1)
 by_cases q2:x≤16383
 ·rw [putL_2 (by omega) q2]
  refine (read_next 0 0 _ _ (by omega) (by omega) (by decide)).trans ?_
  exact read_last 1 _ _ x m (by omega) (by omega) (by omega) (size_2 (by omega) q2)
 by_cases q3:x≤2097151
 ·rw [putL_3 (by omega) q3]
  refine (read_next 0 0 _ _ (by omega) (by omega) (by decide)).trans ?_
  refine (read_next 1 _ _ _ (by omega) (by omega) (by decide)).trans ?_
  exact read_last 2 _ _ x m (by omega) (by omega) (by omega) (size_3 (by omega) q3)
 ·rw [putL_4 (by omega) h1]
  refine (read_next 0 0 _ _ (by omega) (by omega) (by decide)).trans ?_
  refine (read_next 1 _ _ _ (by omega) (by omega) (by decide)).trans ?_
  refine (read_next 2 _ _ _ (by omega) (by omega) (by decide)).trans ?_
  exact read_last 3 _ _ x m (by omega) (by omega) (by omega) (size_4 (by omega) h1)
end Go.Proofs.Ytnhpacaoobpkhaa
