import Derived.Test.YtnhpacaoobpkhaaGFits
namespace Go.Proofs.Ytnhpacaoobpkhaa
open Go.RowKit Go.Lib
set_option maxRecDepth 100000
set_option maxHeartbeats 4000000
theorem own_below {w w':World}{base n:Nat}{v:Value}{xs:List Value}(h:w.ownsRow base 5 1 v n xs)(hb:Below w.heap.size w w'):w'.ownsRow base 5 1 v n xs:=by
 rcases h':v.ownBlock with _ | g
 ·exact h.kept (row:=none) ⟨hb.os,hb.tape,hb.output,hb.size,fun k hk _=>hb.block k hk⟩ (.inl h')
 ·exact h.kept (row:=none) ⟨hb.os,hb.tape,hb.output,hb.size,fun k hk _=>hb.block k hk⟩ (.inr (by rw [h'];simp))
theorem ap_run {w:World} {ty:TypeId} (base:Nat) (A:Option Addr) (c n:Nat) (l:List UInt8) (B:Nat) (A2:Option Addr) (c2 m:Nat) (l2:List UInt8) (hown:w.ownsRow base 5 1 (.slice A n c) n (Lib.byteCells l))
  (hv:BytesAt w B (.slice A2 m c2) l2) (hz:A2=none→c2=0) (hs:n+m≤100000000) (hb:base≤w.heap.size) :
  ∃(A':Option Addr) (c':Nat) (w':World),(Builtin.append_ #[22,22] ty #[.slice A n c,.slice A2 m c2]).run Try.prog w=.ok (.slice A' (n+m) c') w'∧w'.ownsRow base 5 1 (.slice A' (n+m) c') (n+m) (Lib.byteCells (l++l2))∧App w w' (.slice A n c) (.slice A' (n+m) c'):=by
 obtain ⟨i0,hi,hz0,hz1,hz2⟩:=info_parts Try.info5
 obtain ⟨A3,c3,hv3,_,_,hn3,_,hx3⟩:=hv
 injection hv3 with e1 e2 e3
 subst e1;subst e2;subst e3
 cases A2 with
 | none =>
  have e:=hn3 rfl
  subst e
  have e:=hz rfl
  subst e
  refine ⟨A,c,w,?_,by simpa using hown,App.refl _ _⟩
  simpa using run_append_owned_none (P:=Try.prog) (w:=w) base 22 ty 5 i0 1 Try.underlying22 hi _ n _ hown
 | some ad =>
  obtain ⟨v',w',hr,h2,h3,_,ho⟩:=run_append_own_at (P:=Try.prog) w base 22 ty 5 i0 _ 1 1 Try.underlying22 hi hz0 hz1 hz2 rfl (by decide) _ n _ hown ad l2.length c2 (Lib.byteCells l2) (by rw [Lib.byteCells_length];omega) (fun j u hj=>by
   rw [Lib.byteCells,List.getElem?_map] at hj
   obtain ⟨q,hq,rfl⟩:=Option.map_eq_some_iff.1 hj
   exact hx3 ad rfl j q hq) (fun u hu=>by
   rw [Lib.byteCells,List.mem_map] at hu
   obtain ⟨q,_,rfl⟩:=hu
   rfl) (by unfold maxLen;omega) (by omega) hb
  have e:Lib.byteCells (l++l2)=Lib.byteCells l++Lib.byteCells l2:=Lib.byteCells_append _ _
  have own':v'.ownBlock=(Value.slice A n c).ownBlock∨∃g,v'.ownBlock=some g∧w.heap.size≤g:=by
   rcases ho with q | q
   ·exact .inl q
   ·exact .inr ⟨_,q,Nat.le_refl _⟩
  rcases h2.2 with ⟨rfl,q⟩ | ⟨g',cap',cur',hv',_⟩
  ·refine ⟨none,0,w',?_,?_,?_⟩
   ·rw [q];exact hr
   ·rw [e,q];rw [q] at h2;exact h2
   ·rw [q];exact ⟨h3,own'⟩
  ·subst hv'
   exact ⟨_,_,w',hr,by rw [e];exact h2,⟨h3,own'⟩⟩
theorem ap_bytes_wp {a:Act} {w:World} {K:Act→World→Prop} {Q:Exit→Act→World→Prop} {d:Tmp} {x y:Operand} {ty:TypeId} {ps:String} {af:Array Edge}
  (base:Nat) (A:Option Addr) (c n:Nat) (l:List UInt8) (B:Nat) (A2:Option Addr) (c2 m:Nat) (l2:List UInt8) (hx:a.eval x=.slice A n c) (hy:a.eval y=.slice A2 m c2) (hown:w.ownsRow base 5 1 (.slice A n c) n (Lib.byteCells l))
  (hv:BytesAt w B (.slice A2 m c2) l2) (hz:A2=none→c2=0) (hs:n+m≤100000000) (hb:base≤w.heap.size)
  (h:∀(A':Option Addr) (c':Nat) (w':World),w'.ownsRow base 5 1 (.slice A' (n+m) c') (n+m) (Lib.byteCells (l++l2))→App w w' (.slice A n c) (.slice A' (n+m) c')→K (a.put (some d) (.slice A' (n+m) c')) w') :
  Oper.wp Try.prog ⟨some d,.call ⟨.builtin .append,#[x,y],#[22,22]⟩,ty,ps,af,none⟩ a w K Q:=by
 obtain ⟨A',c',w',hr,h2,h3⟩:=ap_run (ty:=ty) base A c n l B A2 c2 m l2 hown hv hz hs hb
 unfold Oper.wp execOp
 simp only [resolve,invoke,builtin,Sem.run_bind,Sem.run_pure,Result.andThen_ok,List.map_toArray,List.map_cons,List.map_nil,hx,hy,hr]
 exact h _ _ _ h2 h3
theorem ld_run2 {g:Nat}{W:World}{cs:Array Value}(h:W.heap[g]? = some (.cells cs 28 (0,0)))(hs:cs.size=24):(Instr.loadAt 28 (.pointer (some ⟨g,0,none⟩))).run Try.prog W=.ok (.agg cs) W:=by
 simp only [Instr.loadAt,Instr.sureAddr,Sem.run_bind,Sem.run_pure,Result.andThen_ok,run_loadVar_row W g _ 28 cs (0,0) _ h Try.underlying28 rfl (by rw [hs];exact pk_sz)]
theorem ld_exec2 {a:Act}{o:Oper}{x:Operand}{g:Nat}{W:World}{cs:Array Value}(ho:o.op=.load 28 x)(hx:a.eval x=.pointer (some ⟨g,0,none⟩))(h:W.heap[g]? = some (.cells cs 28 (0,0)))(hs:cs.size=24) :
  (execOp a.eval o).run Try.prog W=.ok (.value (.agg cs)) W:=by
 unfold execOp
 simp only [ho,hx,Sem.run_bind,Sem.run_pure,ld_run2 h hs,Result.andThen_ok]
theorem AppPost.gen {base:Nat}{v:Value}{w w':World}{l:List UInt8}{e:Ending}(h:AppPost base v w l e w') :
  ∃(A:Option Addr) (c:Nat) (L:List UInt8),Hid (l=L)∧e=.returned (.slice A L.length c)∧w'.ownsRow base 5 1 (.slice A L.length c) L.length (Lib.byteCells L)∧App w w' v (.slice A L.length c)∧L.length=l.length:=by
 obtain ⟨A,c,h1,h2,h3⟩:=h
 exact ⟨A,c,l,Lib.hid rfl,h1,h2,h3,rfl⟩
def mqtt:ByteArray:=⟨#[77,81,84,84]⟩
def lumpsL (p:Pk):List UInt8:=textL p.cli++((if p.hw then textL p.wtop++lumpL p.wpay else [])++((if p.hu then textL p.user else [])++(if p.hp then lumpL p.pass else [])))
def connL (p:Pk):List UInt8:=textL mqtt++([UInt8.ofNat p.level.toNat,UInt8.ofNat (cflagsP p).toNat]++(pairL p.keep++lumpsL p))
theorem two_cells {x y:Int}(h0:0≤x)(h1:x≤255)(k0:0≤y)(k1:y≤255):(#[Value.int .u8 x,Value.int .u8 y]:Array Value)=(([UInt8.ofNat x.toNat,UInt8.ofNat y.toNat]:List UInt8).map fun b=>Value.int .u8 (b.toNat:Int)).toArray:=by
 simp only [List.map_cons,List.map_nil];rw [u8c h0 h1,u8c k0 k1]
theorem cflags_in (p:Pk)(h0:0≤p.wqos)(h1:p.wqos≤2):0≤cflagsP p∧cflagsP p≤255:=by
 obtain ⟨a1,b1⟩:=flagI_in p.clean 2 (by omega)
 obtain ⟨a2,b2⟩:=flagI_in p.hw 4 (by omega)
 obtain ⟨a3,b3⟩:=flagI_in p.wret 32 (by omega)
 obtain ⟨a4,b4⟩:=flagI_in p.hp 64 (by omega)
 obtain ⟨a5,b5⟩:=flagI_in p.hu 128 (by omega)
 unfold cflagsP;omega
theorem addConnect_any (p:Pk) (s:Sv) (base:Nat) (A:Option Addr) (c n:Nat) (l:List UInt8) (B:Nat) (w:World) (hown:w.ownsRow base 5 1 (.slice A n c) n (Lib.byteCells l)) (hn:n=l.length) (hl:l.length≤1000) (hb:base≤w.heap.size)
  (hv:BytesAt w B (.slice s.wA p.wpay.length s.wC) p.wpay) (hz:s.wA=none→s.wC=0) (hv2:BytesAt w B (.slice s.uA p.pass.length s.uC) p.pass) (hz2:s.uA=none→s.uC=0) (hB:B≤base)
  (t1:p.cli.size≤65535) (t2:p.wtop.size≤65535) (t3:p.wpay.length≤65535) (t4:p.user.size≤65535) (t5:p.pass.length≤65535) (l0:0≤p.level) (l1:p.level≤255) (k0:0≤p.keep) (k1:p.keep≤65535) (q0:0≤p.wqos) (q1:p.wqos≤2) :
  Calls Try.prog 62 #[.slice A n c,pkV p s] w (AppPost base (.slice A n c) w (l++connL p)):=by
 subst hn
 have hbw:Below w.heap.size w (w.alloc (.cells (pkC p s) 28)):=(Below.refl _ _).alloc (Nat.le_refl _) _
 have HNE:=Lib.hid (own_ne hown)
 have hp:=addText_any base A c l.length l mqtt (w.alloc (.cells (pkC p s) 28)) (hown.alloc _) rfl (by omega) (by simp;omega) (by decide)
 have hlt:=fun k hk=>(hown.lt k hk).1
 have HV:=Lib.hid hv
 have HV2:=Lib.hid hv2
 have hsz:mqtt.size=4:=rfl
 obtain ⟨f0,f1⟩:=cflags_in p q0 q1
 clear hv hv2
 go_enter Try.func62,Try.ntmps62
 go_wp2_with fail
 refine hp.mono ?_
 rintro e w1 ⟨A1,c1,rfl,ho,ha⟩
 obtain ⟨r1,n1⟩:=ha.row (heap_alloc_last _ _) HNE.out
 have a1:=ha.pre hbw
 have hb1:base≤w1.heap.size:=Nat.le_trans hb a1.grew.size
 have hg1:w.heap.size<w1.heap.size:=(Array.getElem?_eq_some_iff.1 r1).1
 have hk1:(l++(pairL (mqtt.size:Int)++mqtt.data.toList)).length≤1006:=by rw [List.length_append,List.length_append,pairL_len];simp [mqtt];omega
 generalize hL1:l++(pairL (mqtt.size:Int)++mqtt.data.toList)=L1 at *
 have HL1:=Lib.hid hL1
 have C1:=row_cells r1
 clear hL1 hp ha hsz
 have hw1:IntKind.u8.wrap p.level=p.level:=IntWalk.u8_in _ (by omega)
 have hw2:IntKind.u8.wrap (cflagsP p)=cflagsP p:=IntWalk.u8_in _ (by omega)
 go_wp2_with fail
 refine wp_region_held_drew (S:=(fun W=>W.heap[w.heap.size]? = some (.cells (pkC p s) 28 (0,0)))) (by rfl) r1 ?_
 intro hS
 refine tkH 0 (.slice A1 L1.length c1) hS ?_ (hy:=.inl ⟨by rfl,fun W hW=>rfl⟩)
 refine tkH 1 (.pointer (some ⟨w.heap.size,7,none⟩)) hS ?_
 refine tkH 2 (.int .i64 p.level) hS ?_ (hy:=.inl ⟨by rfl,fun W hW=>by simp [execOp,go_sem,row_cells hW]⟩)
 refine tkH 3 (.int .u8 p.level) hS ?_ (hy:=.inl ⟨by rfl,fun W _=>by simp [execOp,go_sem,hw1]⟩)
 refine tkH 4 (pkV p s) hS ?_ (hy:=.inl ⟨by rfl,fun W hW=>ld_exec2 rfl rfl hW rfl⟩)
 refine wpAnyH_ready (rs:=[5]) (by kernel_rfl) (by simp) (AllReadyH.cons (by rfl) ?_ AllReadyH.nil)
 intro K' hK
 rw [if_pos (by rfl)]
 go_wp2_with fail
 refine (cflags_any p s _ q0 q1).mono ?_
 rintro e w2 ⟨rfl,hb2⟩
 go_wp2_with fail
 refine hK.out _ _ (heap_below hb2 hS) ?_
 clear hK K' hS
 intro hS
 refine wpAnyH_ready (rs:=[6]) (by kernel_rfl) (by simp) (AllReadyH.cons (by rfl) ?_ AllReadyH.nil)
 intro K' hK
 rw [if_pos (by rfl)]
 go_wp2_with fail
 refine hK.out _ _ hS ?_
 clear hK K' hS
 intro hS
 refine wpAnyH_ready (rs:=[7]) (by kernel_rfl) (by simp) (AllReadyH.cons (by rfl) ?_ AllReadyH.nil)
 intro K' hK
 rw [if_pos (by rfl)]
 go_wp2_with fail
 refine hK.out _ _ (heap_keep hS) ?_
 clear hK K' hS
 intro hS
 refine wpAnyH_ready (rs:=[8]) (by kernel_rfl) (by simp) (AllReadyH.cons (by rfl) ?_ AllReadyH.nil)
 intro K' hK
 rw [if_pos (by rfl)]
 have hb2':Below w1.heap.size w1 w2:=⟨hb2.os,hb2.tape,hb2.output,hb2.size,hb2.block⟩
 have ho2:w2.ownsRow base 5 1 (.slice A1 L1.length c1) L1.length (Lib.byteCells L1):=own_below ho hb2'
 have hb3:base≤w2.heap.size:=Nat.le_trans hb1 hb2'.size
 refine ap_bytes_wp base A1 c1 L1.length L1 (w2.heap.size+1) (some ⟨w2.heap.size,0,none⟩) 2 2 [UInt8.ofNat p.level.toNat,UInt8.ofNat (cflagsP p).toNat] (by rfl) (by rfl) (ho2.alloc _) (bytesAt_new w2 [UInt8.ofNat p.level.toNat,UInt8.ofNat (cflagsP p).toNat] _ (0,0) (two_cells l0 l1 f0 f1) (by simp [maxLen])) (by simp) (by omega) (by simp;omega) ?_
 intro A2 c2 w3 ho3 ha3
 refine hK.out _ _ (ha3.row hS n1).1 ?_
 clear hK K' hS
 intro hS
 refine wpAnyH_ready (rs:=[9]) (by kernel_rfl) (by simp) (AllReadyH.cons (by rfl) ?_ AllReadyH.nil)
 intro K' hK
 rw [if_pos (by rfl)]
 go_wp2_with fail
 refine hK.out _ _ hS ?_
 clear hK K' hS
 intro hS
 have n2:=(ha3.row (heap_keep (heap_below hb2' r1)) n1).2
 have a2:=a1.trans ((ha3.pre ((Below.refl _ _).alloc (Nat.le_refl _) _)).pre hb2')
 have r2:=hS
 have e2:(L1++[UInt8.ofNat p.level.toNat,UInt8.ofNat (cflagsP p).toNat]).length=L1.length+2:=by simp
 rw [←e2] at ho3 a2 n2 ⊢
 have hk2:(L1++[UInt8.ofNat p.level.toNat,UInt8.ofNat (cflagsP p).toNat]).length≤1008:=by rw [e2];omega
 generalize hL2:L1++[UInt8.ofNat p.level.toNat,UInt8.ofNat (cflagsP p).toNat]=L2 at *
 have HL2:=Lib.hid hL2
 have hb3:base≤w3.heap.size:=Nat.le_trans hb a2.grew.size
 have C2:=row_cells r2
 clear ho2
 have ho2:=ho3
 clear ho3
 clear hL2 e2 ho hb1 hg1 C1 hw1 hw2 hS ha3 hb2 a1 n1 r1
 refine wpAnyH_done (by kernel_rfl) ?_ _
 rcases e1:p.hw with _ | _ <;> rcases e2:p.hu with _ | _ <;> rcases e3:p.hp with _ | _
 ·have E1:=Lib.hid e1
  have E2:=Lib.hid e2
  have E3:=Lib.hid e3
  go_wp2_with fail
  refine (addPair_any base A2 c2 L2.length L2 p.keep w3 ho2 rfl (by omega) hb3 k0 k1).mono ?_
  intro e w4 hpost
  obtain ⟨A3,c3,L3,HL3,rfl,ho3,ha3,hq3⟩:=hpost.gen
  obtain ⟨r3,n3⟩:=ha3.row r2 n2
  have C3:=row_cells r3
  have a3:=a2.trans ha3
  have hb4:base≤w4.heap.size:=Nat.le_trans hb a3.grew.size
  have hk3:L3.length≤1010:=by rw [hq3];simp [pairL];omega
  clear hq3 hpost ha3 ho2 C2 a2 r2 n2
  go_wp2_with fail
  refine (addText_any base A3 c3 L3.length L3 p.cli w4 ho3 rfl (by omega) hb4 t1).mono ?_
  intro e w5 hpost
  obtain ⟨A4,c4,L4,HL4,rfl,ho4,ha4,hq4⟩:=hpost.gen
  obtain ⟨r4,n4⟩:=ha4.row r3 n3
  have C4:=row_cells r4
  have a4:=a3.trans ha4
  have hb5:base≤w5.heap.size:=Nat.le_trans hb a4.grew.size
  have hk4:L4.length≤66547:=by rw [hq4];simp [pairL];omega
  clear hq4 hpost ha4 ho3 C3 a3 r3 n3
  have e:l++connL p=L4:=by rw [←HL4.out,←HL3.out,←HL2.out,←HL1.out];unfold connL lumpsL textL lumpL;rw [E1.out,E2.out,E3.out];simp
  have E:=Lib.hid e
  clear e
  go_wp2_with fail
  go_ret
  unfold AppPost
  rw [E.out]
  exact ⟨A4,c4,rfl,ho4,a4⟩
 ·have E1:=Lib.hid e1
  have E2:=Lib.hid e2
  have E3:=Lib.hid e3
  go_wp2_with fail
  refine (addPair_any base A2 c2 L2.length L2 p.keep w3 ho2 rfl (by omega) hb3 k0 k1).mono ?_
  intro e w4 hpost
  obtain ⟨A3,c3,L3,HL3,rfl,ho3,ha3,hq3⟩:=hpost.gen
  obtain ⟨r3,n3⟩:=ha3.row r2 n2
  have C3:=row_cells r3
  have a3:=a2.trans ha3
  have hb4:base≤w4.heap.size:=Nat.le_trans hb a3.grew.size
  have hk3:L3.length≤1010:=by rw [hq3];simp [pairL];omega
  clear hq3 hpost ha3 ho2 C2 a2 r2 n2
  go_wp2_with fail
  refine (addText_any base A3 c3 L3.length L3 p.cli w4 ho3 rfl (by omega) hb4 t1).mono ?_
  intro e w5 hpost
  obtain ⟨A4,c4,L4,HL4,rfl,ho4,ha4,hq4⟩:=hpost.gen
  obtain ⟨r4,n4⟩:=ha4.row r3 n3
  have C4:=row_cells r4
  have a4:=a3.trans ha4
  have hb5:base≤w5.heap.size:=Nat.le_trans hb a4.grew.size
  have hk4:L4.length≤66547:=by rw [hq4];simp [pairL];omega
  clear hq4 hpost ha4 ho3 C3 a3 r3 n3
  go_wp2_with fail
  refine (addLump_any base A4 c4 L4.length L4 B s.uA s.uC p.pass.length p.pass w5 ho4 rfl (HV2.out.below ((a4.below base hb hlt).mono hB)) rfl hz2 hB (by omega) hb5 t5).mono ?_
  intro e w6 hpost
  obtain ⟨A5,c5,L5,HL5,rfl,ho5,ha5,hq5⟩:=hpost.gen
  obtain ⟨r5,n5⟩:=ha5.row r4 n4
  have C5:=row_cells r5
  have a5:=a4.trans ha5
  have hb6:base≤w6.heap.size:=Nat.le_trans hb a5.grew.size
  have hk5:L5.length≤132084:=by rw [hq5];simp [pairL];omega
  clear hq5 hpost ha5 ho4 C4 a4 r4 n4
  have e:l++connL p=L5:=by rw [←HL5.out,←HL4.out,←HL3.out,←HL2.out,←HL1.out];unfold connL lumpsL textL lumpL;rw [E1.out,E2.out,E3.out];simp
  have E:=Lib.hid e
  clear e
  go_wp2_with fail
  go_ret
  unfold AppPost
  rw [E.out]
  exact ⟨A5,c5,rfl,ho5,a5⟩
 ·have E1:=Lib.hid e1
  have E2:=Lib.hid e2
  have E3:=Lib.hid e3
  go_wp2_with fail
  refine (addPair_any base A2 c2 L2.length L2 p.keep w3 ho2 rfl (by omega) hb3 k0 k1).mono ?_
  intro e w4 hpost
  obtain ⟨A3,c3,L3,HL3,rfl,ho3,ha3,hq3⟩:=hpost.gen
  obtain ⟨r3,n3⟩:=ha3.row r2 n2
  have C3:=row_cells r3
  have a3:=a2.trans ha3
  have hb4:base≤w4.heap.size:=Nat.le_trans hb a3.grew.size
  have hk3:L3.length≤1010:=by rw [hq3];simp [pairL];omega
  clear hq3 hpost ha3 ho2 C2 a2 r2 n2
  go_wp2_with fail
  refine (addText_any base A3 c3 L3.length L3 p.cli w4 ho3 rfl (by omega) hb4 t1).mono ?_
  intro e w5 hpost
  obtain ⟨A4,c4,L4,HL4,rfl,ho4,ha4,hq4⟩:=hpost.gen
  obtain ⟨r4,n4⟩:=ha4.row r3 n3
  have C4:=row_cells r4
  have a4:=a3.trans ha4
  have hb5:base≤w5.heap.size:=Nat.le_trans hb a4.grew.size
  have hk4:L4.length≤66547:=by rw [hq4];simp [pairL];omega
  clear hq4 hpost ha4 ho3 C3 a3 r3 n3
  go_wp2_with fail
  refine (addText_any base A4 c4 L4.length L4 p.user w5 ho4 rfl (by omega) hb5 t4).mono ?_
  intro e w6 hpost
  obtain ⟨A5,c5,L5,HL5,rfl,ho5,ha5,hq5⟩:=hpost.gen
  obtain ⟨r5,n5⟩:=ha5.row r4 n4
  have C5:=row_cells r5
  have a5:=a4.trans ha5
  have hb6:base≤w6.heap.size:=Nat.le_trans hb a5.grew.size
  have hk5:L5.length≤132084:=by rw [hq5];simp [pairL];omega
  clear hq5 hpost ha5 ho4 C4 a4 r4 n4
  have e:l++connL p=L5:=by rw [←HL5.out,←HL4.out,←HL3.out,←HL2.out,←HL1.out];unfold connL lumpsL textL lumpL;rw [E1.out,E2.out,E3.out];simp
  have E:=Lib.hid e
  clear e
  go_wp2_with fail
  go_ret
  unfold AppPost
  rw [E.out]
  exact ⟨A5,c5,rfl,ho5,a5⟩
 ·have E1:=Lib.hid e1
  have E2:=Lib.hid e2
  have E3:=Lib.hid e3
  go_wp2_with fail
  refine (addPair_any base A2 c2 L2.length L2 p.keep w3 ho2 rfl (by omega) hb3 k0 k1).mono ?_
  intro e w4 hpost
  obtain ⟨A3,c3,L3,HL3,rfl,ho3,ha3,hq3⟩:=hpost.gen
  obtain ⟨r3,n3⟩:=ha3.row r2 n2
  have C3:=row_cells r3
  have a3:=a2.trans ha3
  have hb4:base≤w4.heap.size:=Nat.le_trans hb a3.grew.size
  have hk3:L3.length≤1010:=by rw [hq3];simp [pairL];omega
  clear hq3 hpost ha3 ho2 C2 a2 r2 n2
  go_wp2_with fail
  refine (addText_any base A3 c3 L3.length L3 p.cli w4 ho3 rfl (by omega) hb4 t1).mono ?_
  intro e w5 hpost
  obtain ⟨A4,c4,L4,HL4,rfl,ho4,ha4,hq4⟩:=hpost.gen
  obtain ⟨r4,n4⟩:=ha4.row r3 n3
  have C4:=row_cells r4
  have a4:=a3.trans ha4
  have hb5:base≤w5.heap.size:=Nat.le_trans hb a4.grew.size
  have hk4:L4.length≤66547:=by rw [hq4];simp [pairL];omega
  clear hq4 hpost ha4 ho3 C3 a3 r3 n3
  go_wp2_with fail
  refine (addText_any base A4 c4 L4.length L4 p.user w5 ho4 rfl (by omega) hb5 t4).mono ?_
  intro e w6 hpost
  obtain ⟨A5,c5,L5,HL5,rfl,ho5,ha5,hq5⟩:=hpost.gen
  obtain ⟨r5,n5⟩:=ha5.row r4 n4
  have C5:=row_cells r5
  have a5:=a4.trans ha5
  have hb6:base≤w6.heap.size:=Nat.le_trans hb a5.grew.size
  have hk5:L5.length≤132084:=by rw [hq5];simp [pairL];omega
  clear hq5 hpost ha5 ho4 C4 a4 r4 n4
  go_wp2_with fail
  refine (addLump_any base A5 c5 L5.length L5 B s.uA s.uC p.pass.length p.pass w6 ho5 rfl (HV2.out.below ((a5.below base hb hlt).mono hB)) rfl hz2 hB (by omega) hb6 t5).mono ?_
  intro e w7 hpost
  obtain ⟨A6,c6,L6,HL6,rfl,ho6,ha6,hq6⟩:=hpost.gen
  obtain ⟨r6,n6⟩:=ha6.row r5 n5
  have C6:=row_cells r6
  have a6:=a5.trans ha6
  have hb7:base≤w7.heap.size:=Nat.le_trans hb a6.grew.size
  have hk6:L6.length≤197621:=by rw [hq6];simp [pairL];omega
  clear hq6 hpost ha6 ho5 C5 a5 r5 n5
  have e:l++connL p=L6:=by rw [←HL6.out,←HL5.out,←HL4.out,←HL3.out,←HL2.out,←HL1.out];unfold connL lumpsL textL lumpL;rw [E1.out,E2.out,E3.out];simp
  have E:=Lib.hid e
  clear e
  go_wp2_with fail
  go_ret
  unfold AppPost
  rw [E.out]
  exact ⟨A6,c6,rfl,ho6,a6⟩
 ·have E1:=Lib.hid e1
  have E2:=Lib.hid e2
  have E3:=Lib.hid e3
  go_wp2_with fail
  refine (addPair_any base A2 c2 L2.length L2 p.keep w3 ho2 rfl (by omega) hb3 k0 k1).mono ?_
  intro e w4 hpost
  obtain ⟨A3,c3,L3,HL3,rfl,ho3,ha3,hq3⟩:=hpost.gen
  obtain ⟨r3,n3⟩:=ha3.row r2 n2
  have C3:=row_cells r3
  have a3:=a2.trans ha3
  have hb4:base≤w4.heap.size:=Nat.le_trans hb a3.grew.size
  have hk3:L3.length≤1010:=by rw [hq3];simp [pairL];omega
  clear hq3 hpost ha3 ho2 C2 a2 r2 n2
  go_wp2_with fail
  refine (addText_any base A3 c3 L3.length L3 p.cli w4 ho3 rfl (by omega) hb4 t1).mono ?_
  intro e w5 hpost
  obtain ⟨A4,c4,L4,HL4,rfl,ho4,ha4,hq4⟩:=hpost.gen
  obtain ⟨r4,n4⟩:=ha4.row r3 n3
  have C4:=row_cells r4
  have a4:=a3.trans ha4
  have hb5:base≤w5.heap.size:=Nat.le_trans hb a4.grew.size
  have hk4:L4.length≤66547:=by rw [hq4];simp [pairL];omega
  clear hq4 hpost ha4 ho3 C3 a3 r3 n3
  go_wp2_with fail
  refine (addText_any base A4 c4 L4.length L4 p.wtop w5 ho4 rfl (by omega) hb5 t2).mono ?_
  intro e w6 hpost
  obtain ⟨A5,c5,L5,HL5,rfl,ho5,ha5,hq5⟩:=hpost.gen
  obtain ⟨r5,n5⟩:=ha5.row r4 n4
  have C5:=row_cells r5
  have a5:=a4.trans ha5
  have hb6:base≤w6.heap.size:=Nat.le_trans hb a5.grew.size
  have hk5:L5.length≤132084:=by rw [hq5];simp [pairL];omega
  clear hq5 hpost ha5 ho4 C4 a4 r4 n4
  go_wp2_with fail
  refine (addLump_any base A5 c5 L5.length L5 B s.wA s.wC p.wpay.length p.wpay w6 ho5 rfl (HV.out.below ((a5.below base hb hlt).mono hB)) rfl hz hB (by omega) hb6 t3).mono ?_
  intro e w7 hpost
  obtain ⟨A6,c6,L6,HL6,rfl,ho6,ha6,hq6⟩:=hpost.gen
  obtain ⟨r6,n6⟩:=ha6.row r5 n5
  have C6:=row_cells r6
  have a6:=a5.trans ha6
  have hb7:base≤w7.heap.size:=Nat.le_trans hb a6.grew.size
  have hk6:L6.length≤197621:=by rw [hq6];simp [pairL];omega
  clear hq6 hpost ha6 ho5 C5 a5 r5 n5
  have e:l++connL p=L6:=by rw [←HL6.out,←HL5.out,←HL4.out,←HL3.out,←HL2.out,←HL1.out];unfold connL lumpsL textL lumpL;rw [E1.out,E2.out,E3.out];simp
  have E:=Lib.hid e
  clear e
  go_wp2_with fail
  go_ret
  unfold AppPost
  rw [E.out]
  exact ⟨A6,c6,rfl,ho6,a6⟩
 ·have E1:=Lib.hid e1
  have E2:=Lib.hid e2
  have E3:=Lib.hid e3
  go_wp2_with fail
  refine (addPair_any base A2 c2 L2.length L2 p.keep w3 ho2 rfl (by omega) hb3 k0 k1).mono ?_
  intro e w4 hpost
  obtain ⟨A3,c3,L3,HL3,rfl,ho3,ha3,hq3⟩:=hpost.gen
  obtain ⟨r3,n3⟩:=ha3.row r2 n2
  have C3:=row_cells r3
  have a3:=a2.trans ha3
  have hb4:base≤w4.heap.size:=Nat.le_trans hb a3.grew.size
  have hk3:L3.length≤1010:=by rw [hq3];simp [pairL];omega
  clear hq3 hpost ha3 ho2 C2 a2 r2 n2
  go_wp2_with fail
  refine (addText_any base A3 c3 L3.length L3 p.cli w4 ho3 rfl (by omega) hb4 t1).mono ?_
  intro e w5 hpost
  obtain ⟨A4,c4,L4,HL4,rfl,ho4,ha4,hq4⟩:=hpost.gen
  obtain ⟨r4,n4⟩:=ha4.row r3 n3
  have C4:=row_cells r4
  have a4:=a3.trans ha4
  have hb5:base≤w5.heap.size:=Nat.le_trans hb a4.grew.size
  have hk4:L4.length≤66547:=by rw [hq4];simp [pairL];omega
  clear hq4 hpost ha4 ho3 C3 a3 r3 n3
  go_wp2_with fail
  refine (addText_any base A4 c4 L4.length L4 p.wtop w5 ho4 rfl (by omega) hb5 t2).mono ?_
  intro e w6 hpost
  obtain ⟨A5,c5,L5,HL5,rfl,ho5,ha5,hq5⟩:=hpost.gen
  obtain ⟨r5,n5⟩:=ha5.row r4 n4
  have C5:=row_cells r5
  have a5:=a4.trans ha5
  have hb6:base≤w6.heap.size:=Nat.le_trans hb a5.grew.size
  have hk5:L5.length≤132084:=by rw [hq5];simp [pairL];omega
  clear hq5 hpost ha5 ho4 C4 a4 r4 n4
  go_wp2_with fail
  refine (addLump_any base A5 c5 L5.length L5 B s.wA s.wC p.wpay.length p.wpay w6 ho5 rfl (HV.out.below ((a5.below base hb hlt).mono hB)) rfl hz hB (by omega) hb6 t3).mono ?_
  intro e w7 hpost
  obtain ⟨A6,c6,L6,HL6,rfl,ho6,ha6,hq6⟩:=hpost.gen
  obtain ⟨r6,n6⟩:=ha6.row r5 n5
  have C6:=row_cells r6
  have a6:=a5.trans ha6
  have hb7:base≤w7.heap.size:=Nat.le_trans hb a6.grew.size
  have hk6:L6.length≤197621:=by rw [hq6];simp [pairL];omega
  clear hq6 hpost ha6 ho5 C5 a5 r5 n5
  go_wp2_with fail
  refine (addLump_any base A6 c6 L6.length L6 B s.uA s.uC p.pass.length p.pass w7 ho6 rfl (HV2.out.below ((a6.below base hb hlt).mono hB)) rfl hz2 hB (by omega) hb7 t5).mono ?_
  intro e w8 hpost
  obtain ⟨A7,c7,L7,HL7,rfl,ho7,ha7,hq7⟩:=hpost.gen
  obtain ⟨r7,n7⟩:=ha7.row r6 n6
  have C7:=row_cells r7
  have a7:=a6.trans ha7
  have hb8:base≤w8.heap.size:=Nat.le_trans hb a7.grew.size
  have hk7:L7.length≤263158:=by rw [hq7];simp [pairL];omega
  clear hq7 hpost ha7 ho6 C6 a6 r6 n6
  have e:l++connL p=L7:=by rw [←HL7.out,←HL6.out,←HL5.out,←HL4.out,←HL3.out,←HL2.out,←HL1.out];unfold connL lumpsL textL lumpL;rw [E1.out,E2.out,E3.out];simp
  have E:=Lib.hid e
  clear e
  go_wp2_with fail
  go_ret
  unfold AppPost
  rw [E.out]
  exact ⟨A7,c7,rfl,ho7,a7⟩
 ·have E1:=Lib.hid e1
  have E2:=Lib.hid e2
  have E3:=Lib.hid e3
  go_wp2_with fail
  refine (addPair_any base A2 c2 L2.length L2 p.keep w3 ho2 rfl (by omega) hb3 k0 k1).mono ?_
  intro e w4 hpost
  obtain ⟨A3,c3,L3,HL3,rfl,ho3,ha3,hq3⟩:=hpost.gen
  obtain ⟨r3,n3⟩:=ha3.row r2 n2
  have C3:=row_cells r3
  have a3:=a2.trans ha3
  have hb4:base≤w4.heap.size:=Nat.le_trans hb a3.grew.size
  have hk3:L3.length≤1010:=by rw [hq3];simp [pairL];omega
  clear hq3 hpost ha3 ho2 C2 a2 r2 n2
  go_wp2_with fail
  refine (addText_any base A3 c3 L3.length L3 p.cli w4 ho3 rfl (by omega) hb4 t1).mono ?_
  intro e w5 hpost
  obtain ⟨A4,c4,L4,HL4,rfl,ho4,ha4,hq4⟩:=hpost.gen
  obtain ⟨r4,n4⟩:=ha4.row r3 n3
  have C4:=row_cells r4
  have a4:=a3.trans ha4
  have hb5:base≤w5.heap.size:=Nat.le_trans hb a4.grew.size
  have hk4:L4.length≤66547:=by rw [hq4];simp [pairL];omega
  clear hq4 hpost ha4 ho3 C3 a3 r3 n3
  go_wp2_with fail
  refine (addText_any base A4 c4 L4.length L4 p.wtop w5 ho4 rfl (by omega) hb5 t2).mono ?_
  intro e w6 hpost
  obtain ⟨A5,c5,L5,HL5,rfl,ho5,ha5,hq5⟩:=hpost.gen
  obtain ⟨r5,n5⟩:=ha5.row r4 n4
  have C5:=row_cells r5
  have a5:=a4.trans ha5
  have hb6:base≤w6.heap.size:=Nat.le_trans hb a5.grew.size
  have hk5:L5.length≤132084:=by rw [hq5];simp [pairL];omega
  clear hq5 hpost ha5 ho4 C4 a4 r4 n4
  go_wp2_with fail
  refine (addLump_any base A5 c5 L5.length L5 B s.wA s.wC p.wpay.length p.wpay w6 ho5 rfl (HV.out.below ((a5.below base hb hlt).mono hB)) rfl hz hB (by omega) hb6 t3).mono ?_
  intro e w7 hpost
  obtain ⟨A6,c6,L6,HL6,rfl,ho6,ha6,hq6⟩:=hpost.gen
  obtain ⟨r6,n6⟩:=ha6.row r5 n5
  have C6:=row_cells r6
  have a6:=a5.trans ha6
  have hb7:base≤w7.heap.size:=Nat.le_trans hb a6.grew.size
  have hk6:L6.length≤197621:=by rw [hq6];simp [pairL];omega
  clear hq6 hpost ha6 ho5 C5 a5 r5 n5
  go_wp2_with fail
  refine (addText_any base A6 c6 L6.length L6 p.user w7 ho6 rfl (by omega) hb7 t4).mono ?_
  intro e w8 hpost
  obtain ⟨A7,c7,L7,HL7,rfl,ho7,ha7,hq7⟩:=hpost.gen
  obtain ⟨r7,n7⟩:=ha7.row r6 n6
  have C7:=row_cells r7
  have a7:=a6.trans ha7
  have hb8:base≤w8.heap.size:=Nat.le_trans hb a7.grew.size
  have hk7:L7.length≤263158:=by rw [hq7];simp [pairL];omega
  clear hq7 hpost ha7 ho6 C6 a6 r6 n6
  have e:l++connL p=L7:=by rw [←HL7.out,←HL6.out,←HL5.out,←HL4.out,←HL3.out,←HL2.out,←HL1.out];unfold connL lumpsL textL lumpL;rw [E1.out,E2.out,E3.out];simp
  have E:=Lib.hid e
  clear e
  go_wp2_with fail
  go_ret
  unfold AppPost
  rw [E.out]
  exact ⟨A7,c7,rfl,ho7,a7⟩
 ·have E1:=Lib.hid e1
  have E2:=Lib.hid e2
  have E3:=Lib.hid e3
  go_wp2_with fail
  refine (addPair_any base A2 c2 L2.length L2 p.keep w3 ho2 rfl (by omega) hb3 k0 k1).mono ?_
  intro e w4 hpost
  obtain ⟨A3,c3,L3,HL3,rfl,ho3,ha3,hq3⟩:=hpost.gen
  obtain ⟨r3,n3⟩:=ha3.row r2 n2
  have C3:=row_cells r3
  have a3:=a2.trans ha3
  have hb4:base≤w4.heap.size:=Nat.le_trans hb a3.grew.size
  have hk3:L3.length≤1010:=by rw [hq3];simp [pairL];omega
  clear hq3 hpost ha3 ho2 C2 a2 r2 n2
  go_wp2_with fail
  refine (addText_any base A3 c3 L3.length L3 p.cli w4 ho3 rfl (by omega) hb4 t1).mono ?_
  intro e w5 hpost
  obtain ⟨A4,c4,L4,HL4,rfl,ho4,ha4,hq4⟩:=hpost.gen
  obtain ⟨r4,n4⟩:=ha4.row r3 n3
  have C4:=row_cells r4
  have a4:=a3.trans ha4
  have hb5:base≤w5.heap.size:=Nat.le_trans hb a4.grew.size
  have hk4:L4.length≤66547:=by rw [hq4];simp [pairL];omega
  clear hq4 hpost ha4 ho3 C3 a3 r3 n3
  go_wp2_with fail
  refine (addText_any base A4 c4 L4.length L4 p.wtop w5 ho4 rfl (by omega) hb5 t2).mono ?_
  intro e w6 hpost
  obtain ⟨A5,c5,L5,HL5,rfl,ho5,ha5,hq5⟩:=hpost.gen
  obtain ⟨r5,n5⟩:=ha5.row r4 n4
  have C5:=row_cells r5
  have a5:=a4.trans ha5
  have hb6:base≤w6.heap.size:=Nat.le_trans hb a5.grew.size
  have hk5:L5.length≤132084:=by rw [hq5];simp [pairL];omega
  clear hq5 hpost ha5 ho4 C4 a4 r4 n4
  go_wp2_with fail
  refine (addLump_any base A5 c5 L5.length L5 B s.wA s.wC p.wpay.length p.wpay w6 ho5 rfl (HV.out.below ((a5.below base hb hlt).mono hB)) rfl hz hB (by omega) hb6 t3).mono ?_
  intro e w7 hpost
  obtain ⟨A6,c6,L6,HL6,rfl,ho6,ha6,hq6⟩:=hpost.gen
  obtain ⟨r6,n6⟩:=ha6.row r5 n5
  have C6:=row_cells r6
  have a6:=a5.trans ha6
  have hb7:base≤w7.heap.size:=Nat.le_trans hb a6.grew.size
  have hk6:L6.length≤197621:=by rw [hq6];simp [pairL];omega
  clear hq6 hpost ha6 ho5 C5 a5 r5 n5
  go_wp2_with fail
  refine (addText_any base A6 c6 L6.length L6 p.user w7 ho6 rfl (by omega) hb7 t4).mono ?_
  intro e w8 hpost
  obtain ⟨A7,c7,L7,HL7,rfl,ho7,ha7,hq7⟩:=hpost.gen
  obtain ⟨r7,n7⟩:=ha7.row r6 n6
  have C7:=row_cells r7
  have a7:=a6.trans ha7
  have hb8:base≤w8.heap.size:=Nat.le_trans hb a7.grew.size
  have hk7:L7.length≤263158:=by rw [hq7];simp [pairL];omega
  clear hq7 hpost ha7 ho6 C6 a6 r6 n6
  go_wp2_with fail
  refine (addLump_any base A7 c7 L7.length L7 B s.uA s.uC p.pass.length p.pass w8 ho7 rfl (HV2.out.below ((a7.below base hb hlt).mono hB)) rfl hz2 hB (by omega) hb8 t5).mono ?_
  intro e w9 hpost
  obtain ⟨A8,c8,L8,HL8,rfl,ho8,ha8,hq8⟩:=hpost.gen
  obtain ⟨r8,n8⟩:=ha8.row r7 n7
  have C8:=row_cells r8
  have a8:=a7.trans ha8
  have hb9:base≤w9.heap.size:=Nat.le_trans hb a8.grew.size
  have hk8:L8.length≤328695:=by rw [hq8];simp [pairL];omega
  clear hq8 hpost ha8 ho7 C7 a7 r7 n7
  have e:l++connL p=L8:=by rw [←HL8.out,←HL7.out,←HL6.out,←HL5.out,←HL4.out,←HL3.out,←HL2.out,←HL1.out];unfold connL lumpsL textL lumpL;rw [E1.out,E2.out,E3.out];simp
  have E:=Lib.hid e
  clear e
  go_wp2_with fail
  go_ret
  unfold AppPost
  rw [E.out]
  exact ⟨A8,c8,rfl,ho8,a8⟩
end Go.Proofs.Ytnhpacaoobpkhaa
