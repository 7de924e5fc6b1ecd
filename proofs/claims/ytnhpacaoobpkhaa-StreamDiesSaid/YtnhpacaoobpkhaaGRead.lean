import Derived.Test.YtnhpacaoobpkhaaGParse
import Derived.Deep.RegionHeld3
import Derived.Test.YtnhpacaoobpkhaaGConn
namespace Go.Proofs.Ytnhpacaoobpkhaa
open Go.RowKit Go.Lib
set_option linter.unusedVariables false
set_option maxRecDepth 100000
set_option maxHeartbeats 8000000
theorem wread_in (ad:Addr) (cap:Nat) (b:List UInt8) (c:Int) (w:World) (hv:BytesAt w w.heap.size (.slice (some ad) b.length cap) b) (hm:b.length≤1000000) (z0:w.cell? ad=some (.int .u8 c)) (c0:0≤c) (c1:c≤255) (k0:1≤c / 16) (k1:c / 16≤14)
  (i j:Nat) (hij:i≤j) (hj:j≤b.length) (hn0:0<b.length) (hT:bndP b=((i:Int),(j:Int),0)) (q:Pk) (hq:q=parR c ((b.take j).drop i)) (RES:Pk×Int×Int) (hRES:RES=if rightP q && decide (encP q=b.take j) then (q,(j:Int),0) else (pk0,0,21)) :
  Calls Try.prog 23 #[.slice (some ad) b.length cap] w (RdPost w RES):=by
 have HB:=Lib.hid (bounds_any (some ad) cap b w.heap.size (w.alloc (.cells (pkC pk0 sv0) 28)) (by simp) (hv.to (Nat.le_refl _) ((Below.refl _ _).alloc (Nat.le_refl _) _)) hm i j 0 hT)
 have hcap:b.length≤cap∧cap≤9223372036854775807:=by
  obtain ⟨A',c',hv1,hc,hm',hz,_⟩:=hv
  injection hv1 with v1 v2 v3
  subst v3
  exact ⟨hc,hm'⟩
 have hSL:=sl_at hv i j hij hj
 have hlen:((b.take j).drop i).length=j - i:=by rw [List.length_drop,List.length_take];omega
 have ok:PkOk q:=by rw [hq];exact par_ok c c0 c1 _ (by omega)
 have HPAR:=Lib.hid (fun (W:World) (hW:Below w.heap.size w W)=>by
  have h1:=(hSL.below hW).more hW.size
  unfold slV at h1
  rw [←hlen] at h1
  have h2:=parse_any c c0 c1 k0 k1 ((b.take j).drop i) _ _ W h1 (by omega)
  rw [←hq,hlen] at h2
  exact (h2:Calls Try.prog 54 #[.int .u8 c,slV ad cap i j] W (ParPost W q)))
 have hTK:=Lib.hid (fun (W:World) (hW:Below w.heap.size w W)=>by
  have h1:=BytesAt.tk (hv.below hW) j hj
  exact h1)
 have HRES:=Lib.hid hRES
 have OK:=Lib.hid ok
 have zlt:ad.block<w.heap.size:=World.block_lt_of_cell? _ _ z0
 clear hv hSL hq hT hlen ok hRES
 generalize b.take j=bj at *
 generalize b.length=n at *
 go_enter Try.func23,Try.ntmps23
 go_wp2_with fail
 refine HB.out.mono ?_
 rintro e w1 ⟨rfl,hb1⟩
 have B1:Hid (Below w.heap.size w w1):=Lib.hid (thn ((Below.refl _ _).alloc (Nat.le_refl _) _) hb1)
 have R0:=Lib.hid (heap_below hb1 (heap_alloc_last _ _))
 have z1:w1.cell? ad=some (.int .u8 c):=(B1.out.cell (p:=ad) zlt).trans z0
 have zs:w.heap.size<w1.heap.size:=by have:=hb1.size;simp at this;omega
 clear hb1 HB z0
 go_wp2_with fail
 refine wp_region_held_drew (S:=fun W=>W.cell? ad=some (.int .u8 c)) (by rfl) z1 ?_
 intro hS
 refine tkH 0 (.slice (some ad) n cap) hS ?_ (hy:=.inl ⟨by rfl,fun W hW=>rfl⟩)
 refine tkH 1 (.pointer (some ad)) hS ?_ (hy:=.inl ⟨by rfl,fun W hW=>by simp [execOp,go_sem, *]⟩)
 refine tkH 2 (.int .u8 c) hS ?_ (hy:=.inl ⟨by rfl,fun W hW=>by simp [execOp,go_sem,hW]⟩)
 refine tkH 3 (.slice (some ad) n cap) hS ?_ (hy:=.inl ⟨by rfl,fun W hW=>rfl⟩)
 refine tkH 4 (.int .i64 (i:Int)) hS ?_ (hy:=.inl ⟨by rfl,fun W hW=>rfl⟩)
 refine tkH 5 (.int .i64 (j:Int)) hS ?_ (hy:=.inl ⟨by rfl,fun W hW=>rfl⟩)
 refine tkH 6 (slV ad cap i j) hS ?_ (hy:=.inl ⟨by rfl,fun W hW=>sl_exec (ad:=ad) (n:=n) (cap:=cap) (i:=(i:Int)) (j:=(j:Int)) rfl rfl rfl rfl (by omega) (by omega) (by omega) W⟩)
 refine wpAnyH_ready (rs:=[7,8]) (by kernel_rfl) (by simp) (AllReadyH.cons (by rfl) ?_ (AllReadyH.cons (by rfl) ?_ AllReadyH.nil))
 ·intro K' hK
  rw [if_pos (by rfl)]
  go_wp2_with fail
  refine (HPAR.out _ (Below.drew B1.out)).mono ?_
  rintro e w2 ⟨s,rfl,hpk,hb2⟩
  have z2:w2.cell? ad=some (.int .u8 c):=(hb2.cell (p:=ad) (Nat.lt_trans zlt zs)).trans z1
  go_wp2_with fail
  refine hK.out _ _ z2 ?_
  clear hK K' hS
  intro hS
  refine wpAnyH_ready (rs:=[8]) (by kernel_rfl) (by simp) (AllReadyH.cons (by rfl) ?_ AllReadyH.nil)
  intro K' hK
  rw [if_pos (by rfl)]
  go_wp2_with fail
  refine hK.out _ _ (World.cell?_alloc_some _ _ _ (by rw [z2];rfl) |>.trans z2) ?_
  clear hK K' hS
  intro hS
  refine wpAnyH_ready (rs:=[9]) (by kernel_rfl) (by simp) (AllReadyH.cons (by rfl) ?_ AllReadyH.nil)
  intro K' hK
  rw [if_pos (by rfl)]
  refine wp_store_row 28 _ _ rfl (w2.heap.size) (pkC q s) (by rfl) (by rfl) 28 (pkC pk0 sv0) (heap_alloc_last _ _) pk_sz (by rfl) (by rw [←Array.all_toList];exact pkc_one _ _) ?_
  rw [World.setRow_alloc_new]
  refine hK.out _ _ (World.cell?_alloc_some _ _ _ (by rw [z2];rfl) |>.trans z2) ?_
  clear hK K' hS
  intro hS
  refine wpAnyH_done (by kernel_rfl) ?_ _
  obtain ⟨g,hgg⟩:∃g,g=w2.heap.size:=⟨_,rfl⟩
  obtain ⟨W,hW⟩:∃W,W=w2.alloc (.cells (pkC q s) 28):=⟨_,rfl⟩
  have hg:W.heap[g]? = some (.cells (pkC q s) 28 (0,0)):=by rw [hW,hgg];exact heap_alloc_last _ _
  have hb3:Below w2.heap.size w2 W:=by rw [hW];exact (Below.refl _ _).alloc (Nat.le_refl _) _
  have hPk:PkOwn W (w.heap.size+1) q s:=(hpk.on hb3).mono (by simp;omega)
  have hBel:Below w.heap.size w W:=thn (Below.drew B1.out) (thn hb2 hb3)
  have hr0:W.heap[w.heap.size]? = some (.cells (pkC pk0 sv0) 28 (0,0)):=heap_below hb3 (heap_below hb2 R0.out)
  rw [←hW,←hgg]
  clear hW hgg hb3 hpk hb2 hS z2
  go_wp2_with ((with_reducible show wpList _ _ _ (⟨_,.load 28 (.tmp 8),_,_,_,_⟩ :: _) _ _);refine ld_pk g (by rfl) (by rfl) (pkC q s) _ _ (by exact hg) (by rfl) ?_)
  rcases hR:rightP q with _ | _
  ·refine (wput_no q s W.heap.size W hPk.at_ (Nat.le_refl _) OK.out hR).mono ?_
   rintro e w5 ⟨rfl,hb5⟩
   have R5:=heap_below hb5 hr0
   go_wp2_with ((with_reducible show wpList _ _ _ (⟨_,.store 28 (.tmp 2) _,_,_,_,_⟩ :: _) _ _);refine stR (w.heap.size) _ (pkC (pk0) (sv0)) (by rfl) (by rfl) (by exact R5) (by rfl) (by rfl) (pkc_one _ _) ?_)
   refine bodyPost_ret (results_row2 (by rfl) _ _ (w.heap.size) _ (by rfl) (ldv_pk (setRow_heap _ _ _ _ _ _ (by exact R5)))) (by rfl) ?_
   have E:RES=(pk0,0,21):=by rw [HRES.out];rw [hR];rfl
   rw [E]
   exact ⟨sv0,rfl,pk0_own _ _,below_setRow (hBel.trans (hb5.mono hBel.size)) (Nat.le_refl _) _⟩
  ·refine (wput_yes q s W.heap.size W hPk.at_ (Nat.le_refl _) OK.out hPk.nil hR).mono ?_
   rintro e w5 ⟨A5,c5,rfl,o5,hb5⟩
   have R5:=heap_below hb5 hr0
   have hg5:=heap_below hb5 hg
   have BEL5:Below w.heap.size w w5:=hBel.trans (hb5.mono hBel.size)
   have L5:=(ownsBytes o5)
   have T5:=(hTK.out w5 BEL5).more BEL5.size
   rcases hE:(encP q==bj) with _ | _
   ·have HBE:=Lib.hid (beq_any _ _ _ _ _ w5 L5 T5)
    rw [hE] at HBE
    clear L5 T5 o5
    generalize (encP q).length=L at *
    go_wp2_with fail
    refine HBE.out.mono ?_
    rintro e w6 ⟨rfl,rfl⟩
    go_wp2_with ((with_reducible show wpList _ _ _ (⟨_,.store 28 (.tmp 2) _,_,_,_,_⟩ :: _) _ _);refine stR (w.heap.size) _ (pkC (pk0) (sv0)) (by rfl) (by rfl) (by exact R5) (by rfl) (by rfl) (pkc_one _ _) ?_)
    refine bodyPost_ret (results_row2 (by rfl) _ _ (w.heap.size) _ (by rfl) (ldv_pk (setRow_heap _ _ _ _ _ _ (by exact R5)))) (by rfl) ?_
    have E:RES=(pk0,0,21):=by rw [HRES.out];rw [hR];simp only [beq_eq_false_iff_ne,ne_eq] at hE;simp [hE]
    rw [E]
    exact ⟨sv0,rfl,pk0_own _ _,below_setRow BEL5 (Nat.le_refl _) _⟩
   ·have HBE:=Lib.hid (beq_any _ _ _ _ _ w5 L5 T5)
    rw [hE] at HBE
    clear L5 T5 o5
    generalize hLL:(encP q).length=L at *
    clear hLL
    go_wp2_with fail
    refine HBE.out.mono ?_
    rintro e w6 ⟨rfl,rfl⟩
    go_wp2_with (first
     | ((with_reducible show wpList _ _ _ (⟨_,.load 28 (.tmp 8),_,_,_,_⟩ :: _) _ _);refine ld_pk g (by rfl) (by rfl) (pkC q s) _ _ (by exact hg5) (by rfl) ?_)
     | ((with_reducible show wpList _ _ _ (⟨_,.store 28 (.tmp 2) _,_,_,_,_⟩ :: _) _ _);refine stR (w.heap.size) _ (pkC (q) (s)) (by rfl) (by rfl) (by exact R5) (by rfl) (by rfl) (pkc_one _ _) ?_))
    refine bodyPost_ret (results_row2 (by rfl) _ _ (w.heap.size) _ (by rfl) (ldv_pk (setRow_heap _ _ _ _ _ _ (by exact R5)))) (by rfl) ?_
    have E:RES=(q,(j:Int),0):=by rw [HRES.out];rw [hR];simp only [beq_iff_eq] at hE;simp [hE]
    rw [E]
    exact ⟨s,rfl,((hPk.on hb5).set (Nat.lt_succ_self _) _).mono (Nat.le_succ _),below_setRow BEL5 (Nat.le_refl _) _⟩
 ·intro K' hK
  rw [if_pos (by rfl)]
  go_wp2_with fail
  have zA:(w1.drew.alloc (.cells (pkC pk0 sv0) 28)).cell? ad=some (.int .u8 c):=World.cell?_alloc_some _ _ _ (by rw [hS];rfl) |>.trans hS
  refine hK.out _ _ zA ?_
  clear hK K' hS
  intro hS
  refine wpAnyH_ready (rs:=[7]) (by kernel_rfl) (by simp) (AllReadyH.cons (by rfl) ?_ AllReadyH.nil)
  intro K' hK
  rw [if_pos (by rfl)]
  go_wp2_with fail
  have B2:Below w.heap.size w (w1.drew.alloc (.cells (pkC pk0 sv0) 28)):=alB (Below.drew B1.out) _
  refine (HPAR.out _ B2).mono ?_
  rintro e w2 ⟨s,rfl,hpk,hb2⟩
  have rg:w2.heap[w1.heap.size]? = some (.cells (pkC pk0 sv0) 28 (0,0)):=heap_below hb2 (heap_alloc_last w1.drew _)
  have z2:w2.cell? ad=some (.int .u8 c):=(hb2.cell (p:=ad) (by simp;omega)).trans zA
  go_wp2_with fail
  refine hK.out _ _ z2 ?_
  clear hK K' hS
  intro hS
  refine wpAnyH_ready (rs:=[9]) (by kernel_rfl) (by simp) (AllReadyH.cons (by rfl) ?_ AllReadyH.nil)
  intro K' hK
  rw [if_pos (by rfl)]
  refine wp_store_row 28 _ _ rfl (w1.heap.size) (pkC q s) (by rfl) (by rfl) 28 (pkC pk0 sv0) rg pk_sz (by rfl) (by rw [←Array.all_toList];exact pkc_one _ _) ?_
  have hb3:Below w1.heap.size w2 (w2.setRow w1.heap.size (pkC q s)):=below_setRow (Below.refl _ _) (Nat.le_refl _) _
  refine hK.out _ _ ((hb3.cell (p:=ad) (by omega)).trans z2) ?_
  clear hK K' hS
  intro hS
  refine wpAnyH_done (by kernel_rfl) ?_ _
  obtain ⟨g,hgg⟩:∃g,g=w1.heap.size:=⟨_,rfl⟩
  have hg0:(w2.setRow w1.heap.size (pkC q s)).heap[w1.heap.size]? = some (.cells (pkC q s) 28 (0,0)):=setRow_heap _ _ _ _ _ _ rg
  obtain ⟨W,hW⟩:∃W,W=w2.setRow w1.heap.size (pkC q s):=⟨_,rfl⟩
  have hg:W.heap[g]? = some (.cells (pkC q s) 28 (0,0)):=by rw [hW,hgg];exact hg0
  have hBel:Below w.heap.size w W:=by rw [hW];exact below_setRow (thn B2 hb2) (by omega) _
  have hr0:W.heap[w.heap.size]? = some (.cells (pkC pk0 sv0) 28 (0,0)):=by
   rw [hW,hb3.block _ zs]
   exact heap_below hb2 (heap_keep R0.out)
  have hPk:PkOwn W (w.heap.size+1) q s:=by
   rw [hW]
   exact (hpk.set (by simp) _).mono (by simp;omega)
  rw [←hW,←hgg]
  clear hW hgg hb3 hpk hb2 hS z2 zA rg hg0 B2
  go_wp2_with ((with_reducible show wpList _ _ _ (⟨_,.load 28 (.tmp 8),_,_,_,_⟩ :: _) _ _);refine ld_pk g (by rfl) (by rfl) (pkC q s) _ _ (by exact hg) (by rfl) ?_)
  rcases hR:rightP q with _ | _
  ·refine (wput_no q s W.heap.size W hPk.at_ (Nat.le_refl _) OK.out hR).mono ?_
   rintro e w5 ⟨rfl,hb5⟩
   have R5:=heap_below hb5 hr0
   go_wp2_with ((with_reducible show wpList _ _ _ (⟨_,.store 28 (.tmp 2) _,_,_,_,_⟩ :: _) _ _);refine stR (w.heap.size) _ (pkC (pk0) (sv0)) (by rfl) (by rfl) (by exact R5) (by rfl) (by rfl) (pkc_one _ _) ?_)
   refine bodyPost_ret (results_row2 (by rfl) _ _ (w.heap.size) _ (by rfl) (ldv_pk (setRow_heap _ _ _ _ _ _ (by exact R5)))) (by rfl) ?_
   have E:RES=(pk0,0,21):=by rw [HRES.out];rw [hR];rfl
   rw [E]
   exact ⟨sv0,rfl,pk0_own _ _,below_setRow (hBel.trans (hb5.mono hBel.size)) (Nat.le_refl _) _⟩
  ·refine (wput_yes q s W.heap.size W hPk.at_ (Nat.le_refl _) OK.out hPk.nil hR).mono ?_
   rintro e w5 ⟨A5,c5,rfl,o5,hb5⟩
   have R5:=heap_below hb5 hr0
   have hg5:=heap_below hb5 hg
   have BEL5:Below w.heap.size w w5:=hBel.trans (hb5.mono hBel.size)
   have L5:=(ownsBytes o5)
   have T5:=(hTK.out w5 BEL5).more BEL5.size
   rcases hE:(encP q==bj) with _ | _
   ·have HBE:=Lib.hid (beq_any _ _ _ _ _ w5 L5 T5)
    rw [hE] at HBE
    clear L5 T5 o5
    generalize (encP q).length=L at *
    go_wp2_with fail
    refine HBE.out.mono ?_
    rintro e w6 ⟨rfl,rfl⟩
    go_wp2_with ((with_reducible show wpList _ _ _ (⟨_,.store 28 (.tmp 2) _,_,_,_,_⟩ :: _) _ _);refine stR (w.heap.size) _ (pkC (pk0) (sv0)) (by rfl) (by rfl) (by exact R5) (by rfl) (by rfl) (pkc_one _ _) ?_)
    refine bodyPost_ret (results_row2 (by rfl) _ _ (w.heap.size) _ (by rfl) (ldv_pk (setRow_heap _ _ _ _ _ _ (by exact R5)))) (by rfl) ?_
    have E:RES=(pk0,0,21):=by rw [HRES.out];rw [hR];simp only [beq_eq_false_iff_ne,ne_eq] at hE;simp [hE]
    rw [E]
    exact ⟨sv0,rfl,pk0_own _ _,below_setRow BEL5 (Nat.le_refl _) _⟩
   ·have HBE:=Lib.hid (beq_any _ _ _ _ _ w5 L5 T5)
    rw [hE] at HBE
    clear L5 T5 o5
    generalize hLL:(encP q).length=L at *
    clear hLL
    go_wp2_with fail
    refine HBE.out.mono ?_
    rintro e w6 ⟨rfl,rfl⟩
    go_wp2_with (first
     | ((with_reducible show wpList _ _ _ (⟨_,.load 28 (.tmp 8),_,_,_,_⟩ :: _) _ _);refine ld_pk g (by rfl) (by rfl) (pkC q s) _ _ (by exact hg5) (by rfl) ?_)
     | ((with_reducible show wpList _ _ _ (⟨_,.store 28 (.tmp 2) _,_,_,_,_⟩ :: _) _ _);refine stR (w.heap.size) _ (pkC (q) (s)) (by rfl) (by rfl) (by exact R5) (by rfl) (by rfl) (pkc_one _ _) ?_))
    refine bodyPost_ret (results_row2 (by rfl) _ _ (w.heap.size) _ (by rfl) (ldv_pk (setRow_heap _ _ _ _ _ _ (by exact R5)))) (by rfl) ?_
    have E:RES=(q,(j:Int),0):=by rw [HRES.out];rw [hR];simp only [beq_iff_eq] at hE;simp [hE]
    rw [E]
    exact ⟨s,rfl,((hPk.on hb5).set (Nat.lt_succ_self _) _).mono (Nat.le_succ _),below_setRow BEL5 (Nat.le_refl _) _⟩
theorem wread_any (A:Option Addr)(cap:Nat)(b:List UInt8)(w:World)(hv:BytesAt w w.heap.size (.slice A b.length cap) b)(hm:b.length≤1000000) :
  Calls Try.prog 23 #[.slice A b.length cap] w (RdPost w (rdP b)):=by
 rcases b with _ | ⟨c,r⟩
 ·exact wread_bad A cap [] w.heap.size w (Nat.le_refl _) hv hm 0 0 20 rfl (by decide)
 ·by_cases hz:(bndP (c :: r)).2.2≠0
  ·have e:rdP (c :: r)=(pk0,0,(bndP (c :: r)).2.2):=by simp only [rdP];rw [if_pos hz]
   rw [e]
   exact wread_bad A cap (c :: r) w.heap.size w (Nat.le_refl _) hv hm _ _ _ rfl hz
  ·have e:=fun h=>(show rdP (c :: r)=_ from if_neg (c:=(bndP (c :: r)).2.2≠0) h)
   rw [e hz]
   simp only [ne_eq,Decidable.not_not] at hz
   obtain ⟨h1,h2,h3,h4,h5,h6,_⟩:=bnd_ok c r hz
   rcases A with _ | ad
   ·obtain ⟨A',c',hv1,hc,hm',hn,_⟩:=hv
    injection hv1 with v1 v2 v3
    have:=hn v1.symm
    cases this
   have z0:w.cell? ad=some (.int .u8 (c.toNat:Int)):=cell_zero hv
   have hc:=c.toNat_lt
   obtain ⟨k0,k1⟩:=beg_head (c.toNat:Int) (by omega) (by omega) h1
   generalize hx:(bndP (c :: r)).1=x at *
   generalize hy:(bndP (c :: r)).2.1=y at *
   have hT:bndP (c :: r)=(((x.toNat:Nat):Int),((y.toNat:Nat):Int),0):=by
    rw [Int.toNat_of_nonneg (by omega),Int.toNat_of_nonneg (by omega),←hx,←hy,←hz]
   refine wread_in ad cap (c :: r) c.toNat w hv hm z0 (by omega) (by omega) k0 k1 x.toNat y.toNat (by omega) (by omega) (by simp) hT _ rfl _ ?_
   rw [Int.toNat_of_nonneg (by omega:0≤y)]
theorem plain_right (k:Int)(h:k=12∨k=13∨k=14):rightP {pk0 with kind:=k}=true:=by
 rcases h with rfl | rfl | rfl <;> decide +kernel
theorem ping_enc:encP {pk0 with kind:=12}=[192,0]:=by decide +kernel
theorem rd_a:rdP [208,0,7]=({pk0 with kind:=13},2,0):=by
 have h:=rd_enc {pk0 with kind:=13} (plain_right 13 (by omega)) [7]
 have e:encP {pk0 with kind:=13}=[208,0]:=by decide +kernel
 rw [e] at h
 exact h
theorem rd_b:rdP [192,1,7]=(pk0,0,21):=by decide +kernel
theorem rd_c:rdP [48,5]=(pk0,0,20):=by decide +kernel
theorem right_0:rightP pk0=false:=by decide +kernel
theorem plain_okk (k:Int)(h0:0≤k)(h1:k≤15):PkOk {pk0 with kind:=k}:=by
 have z:i64In 0:=⟨by decide,by decide⟩
 have e0:ByteArray.empty.size≤1000000:=by decide
 exact ⟨⟨by simp only;omega,by simp only;omega⟩,z,z,z,z,z,z,e0,Nat.zero_le _,e0,e0,Nat.zero_le _,e0,Nat.zero_le _,Nat.zero_le _,Nat.zero_le _,fun x hx=>by simp [pk0] at hx,fun x hx=>by simp [pk0] at hx⟩
theorem plain_att (k:Int)(w:World)(B:Nat):PkAt w B {pk0 with kind:=k} sv0:=⟨bytes_nil _ _,bytes_nil _ _,bytes_nil _ _,subs_nil _ _,ints_nil _ _⟩
theorem new_bytes (w:World)(g:Nat)(hg:w.heap.size=g)(l:List UInt8)(C:Array Value)(n:Nat)(hn:n=l.length)(hC:C=(l.map fun b=>Value.int .u8 (b.toNat:Int)).toArray)(hm:l.length≤1000) :
  BytesAt (w.alloc (.cells C 5)) (w.alloc (.cells C 5)).heap.size (.slice (some ⟨g,0,none⟩) l.length n) l:=by
 subst hn hg
 have h:=bytesAt_new w l C (0,0) hC (by unfold maxLen;omega)
 have e:(w.alloc (.cells C 5)).heap.size=w.heap.size+1:=by simp
 rw [e];exact h
theorem known3_any (w:World):Calls Try.prog 13 #[] w fun e w'=>e=.returned (.bool true)∧Below w.heap.size w w':=by
 go_enter Try.func13,Try.ntmps13
 go_wp2_with fail
 refine (wput_yes {pk0 with kind:=12} sv0 w.heap.size w (plain_att 12 _ _) (Nat.le_refl _) (plain_okk 12 (by omega) (by omega)) ⟨fun _=>rfl,fun _=>rfl,fun _=>rfl⟩ (plain_right 12 (by omega))).mono ?_
 rw [ping_enc]
 unfold PutPost
 rintro e w1 ⟨A1,c1,rfl,o1,hb1⟩
 have B1:=ownsBytes o1
 go_wp2_with fail
 refine (wread_any (some ⟨w1.heap.size,0,none⟩) 3 [208,0,7] _ (new_bytes _ (w1.heap.size) (by simp) [208,0,7] _ 3 rfl (by rfl) (by decide)) (by decide)).mono ?_
 rw [rd_a]
 rintro e w2 ⟨s2,rfl,o2,hb2⟩
 clear o2
 have bl2:Below w1.heap.size w1 w2:=thn ((Below.refl _ _).alloc (Nat.le_refl _) _) hb2
 have H2:=Lib.hid bl2
 clear hb2 bl2
 go_wp2_with ((with_reducible show wpList _ _ _ (⟨_,.store 28 (.tmp 3) _,_,_,_,_⟩ :: _) _ _);refine stLst (w2.heap.size) (by rfl) _ (pkC {pk0 with kind:=13} s2) (by rfl) (by rfl) (by rfl) (by rfl) (pkc_one _ _) ?_)
 refine (wread_any (some ⟨w2.heap.size+1,0,none⟩) 3 [192,1,7] _ (new_bytes _ (w2.heap.size+1) (by simp) [192,1,7] _ 3 rfl (by rfl) (by decide)) (by decide)).mono ?_
 rw [rd_b]
 rintro e w3 ⟨s3,rfl,o3,hb3⟩
 clear o3
 have bl3:Below (w2.alloc (.cells (pkC {pk0 with kind:=13} s2) 28)).heap.size (w2.alloc (.cells (pkC {pk0 with kind:=13} s2) 28)) w3:=thn ((Below.refl _ _).alloc (Nat.le_refl _) _) hb3
 have r3:=heap_below bl3 (heap_alloc_last _ _)
 have H3:=Lib.hid bl3
 clear hb3 bl3
 go_wp2_with ((with_reducible show wpList _ _ _ (⟨_,.store 28 (.tmp 6) _,_,_,_,_⟩ :: _) _ _);refine stLst (w3.heap.size) (by rfl) _ (pkC pk0 s3) (by rfl) (by rfl) (by rfl) (by rfl) (pkc_one _ _) ?_)
 refine (wread_any (some ⟨w3.heap.size+1,0,none⟩) 2 [48,5] _ (new_bytes _ (w3.heap.size+1) (by simp) [48,5] _ 2 rfl (by rfl) (by decide)) (by decide)).mono ?_
 rw [rd_c]
 rintro e w4 ⟨s4,rfl,o4,hb4⟩
 clear o4
 have bl4:Below (w3.alloc (.cells (pkC pk0 s3) 28)).heap.size (w3.alloc (.cells (pkC pk0 s3) 28)) w4:=thn ((Below.refl _ _).alloc (Nat.le_refl _) _) hb4
 have r4:=heap_below bl4 (heap_keep r3)
 have r5:=heap_keep (o':=.cells (pkC pk0 s4) 28) r4
 have c5:=row_cells r5
 have bl5:Below w.heap.size w w4:=thn hb1 (thn H2.out (thn (alB (Below.refl _ _) _) (thn H3.out (thn (alB (Below.refl _ _) _) bl4))))
 have cv:(convert 22 9 (.slice A1 2 c1)).run Try.prog (w4.alloc (.cells (pkC pk0 s4) 28))=.ok (.string ⟨#[192,0]⟩) (w4.alloc (.cells (pkC pk0 s4) 28)) :=
  (B1.to (Nat.le_refl _) (alB (thn H2.out (thn (alB (Below.refl _ _) _) (thn H3.out (thn (alB (Below.refl _ _) _) bl4)))) _)).conv
 have H5:=Lib.hid bl5
 clear bl5 bl4 hb4 B1 o1 hb1 r3 r4 r5 H2 H3
 go_wp2_with (first
  | ((with_reducible show wpList _ _ _ (⟨_,.store 28 (.tmp 9) _,_,_,_,_⟩ :: _) _ _);refine stLst (w4.heap.size) (by rfl) _ (pkC pk0 s4) (by rfl) (by rfl) (by rfl) (by rfl) (pkc_one _ _) ?_)
  | (go_at_call 19;refine (right_any pk0 sv0 w.heap.size _ (pk0_at _ _) (by have:=H5.out.size;simp;omega) (plain_okk 0 (by omega) (by omega))).mono ?_;rintro e w' ⟨rfl,hb⟩;obtain ⟨hc,hf⟩:=bcell hb;have hz:w4.heap.size<w'.heap.size:=(by have:=hb.size;(try simp at this);omega)))
 go_ret
 exact ⟨ret_bool (by rw [right_0];rfl),thn H5.out (thn (alB (Below.refl _ _) _) hb)⟩
end Go.Proofs.Ytnhpacaoobpkhaa
