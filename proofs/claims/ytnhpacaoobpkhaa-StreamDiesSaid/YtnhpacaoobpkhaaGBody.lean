import Derived.Test.YtnhpacaoobpkhaaRef3
import Derived.Test.YtnhpacaoobpkhaaGBytes
namespace Go.Proofs.Ytnhpacaoobpkhaa
open Go.RowKit Go.Lib
set_option linter.unusedVariables false
set_option maxRecDepth 100000
set_option maxHeartbeats 8000000
theorem b2at (w:World)(g:Nat)(hg:w.heap.size=g)(l:List UInt8)(C:Array Value)(hC:C=(l.map fun b=>Value.int .u8 (b.toNat:Int)).toArray)(hm:l.length≤maxLen) :
  BytesAt (w.alloc (.cells C 5 (0,0))) (g+1) (.slice (some ⟨g,0,none⟩) l.length l.length) l:=by
 subst hg
 exact bytesAt_new w l C (0,0) hC hm
theorem rbody_ca (p:Pk)(s:Sv)(w:World)(k1:(p.kind==1)=false)(k2:(p.kind==2)=true)(hcd:0≤p.code∧p.code≤255) :
  Calls Try.prog 39 #[pkV p s] w (NewPost w (bodyL p)):=by
 have hbw:Below w.heap.size w (w.alloc (.cells (pkC p s) 28)):=(Below.refl _ _).alloc (Nat.le_refl _) _
 have hw1:IntKind.u8.wrap p.code=p.code:=IntWalk.u8_in _ hcd
 obtain ⟨q1,q2⟩:=flagI_in p.pres 1 (by omega)
 have q2':flagI p.pres 1≤255:=by omega
 have q3:=hcd.1
 have q4:=hcd.2
 go_enter Try.func39,Try.ntmps39
 go_wp2_with fail
 refine wp_region_held_drew (S:=(fun W=>W.heap[w.heap.size]? = some (.cells (pkC p s) 28 (0,0)))) (by rfl) (heap_alloc_last _ _) ?_
 intro hS
 refine tkH 0 (.slice none 0 0) hS ?_ (hy:=.inl ⟨by rfl,fun W _=>rfl⟩)
 refine tkH 1 (.pointer (some ⟨w.heap.size,20,none⟩)) hS ?_
 refine tkH 2 (.bool p.pres) hS ?_ (hy:=.inl ⟨by rfl,fun W hW=>by simp [execOp,go_sem,row_cells hW]⟩)
 refine tkH 5 (.pointer (some ⟨w.heap.size,21,none⟩)) hS ?_
 refine tkH 6 (.int .i64 p.code) hS ?_ (hy:=.inl ⟨by rfl,fun W hW=>by simp [execOp,go_sem,row_cells hW]⟩)
 refine tkH 7 (.int .u8 p.code) hS ?_ (hy:=.inl ⟨by rfl,fun W _=>by simp [execOp,go_sem,hw1]⟩)
 refine wpAnyH_ready (rs:=[3]) (by kernel_rfl) (by simp) (AllReadyH.cons (by rfl) ?_ AllReadyH.nil)
 intro K' hK
 rw [if_pos (by rfl)]
 go_wp2_with fail
 refine (rbit_any _ _ _).mono ?_
 rintro e w' ⟨rfl,rfl⟩
 go_wp2_with fail
 refine hK.out _ _ hS ?_
 clear hK K' hS
 intro hS
 refine wpAnyH_ready (rs:=[4]) (by kernel_rfl) (by simp) (AllReadyH.cons (by rfl) ?_ AllReadyH.nil)
 intro K' hK
 rw [if_pos (by rfl)]
 go_wp2_with fail
 refine hK.out _ _ hS ?_
 clear hK K' hS
 intro hS
 refine wpAnyH_ready (rs:=[8]) (by kernel_rfl) (by simp) (AllReadyH.cons (by rfl) ?_ AllReadyH.nil)
 intro K' hK
 rw [if_pos (by rfl)]
 go_wp2_with fail
 refine hK.out _ _ (heap_keep hS) ?_
 clear hK K' hS
 intro hS
 refine wpAnyH_ready (rs:=[9]) (by kernel_rfl) (by simp) (AllReadyH.cons (by rfl) ?_ AllReadyH.nil)
 intro K' hK
 rw [if_pos (by rfl)]
 refine ap_bytes_wp w.heap.size none 0 0 [] (w.heap.size+1+1) (some ⟨w.heap.size+1,0,none⟩) 2 2 [UInt8.ofNat (flagI p.pres 1).toNat,UInt8.ofNat p.code.toNat] (by rfl) (by rfl) (World.ownsRow_nil _ _ _ _) (b2at _ (w.heap.size+1) (by simp) [UInt8.ofNat (flagI p.pres 1).toNat,UInt8.ofNat p.code.toNat] _ (two_cells q1 q2' q3 q4) (by simp [maxLen])) (by simp) (by omega) (by simp;omega) ?_
 intro A5 c5 w5 ho5 ha5
 refine hK.out _ _ (ha5.row hS (by simp [Value.ownBlock])).1 ?_
 clear hK K' hS
 intro hS
 refine wpAnyH_ready (rs:=[10]) (by kernel_rfl) (by simp) (AllReadyH.cons (by rfl) ?_ AllReadyH.nil)
 intro K' hK
 rw [if_pos (by rfl)]
 go_wp2_with fail
 refine hK.out _ _ hS ?_
 clear hK K' hS
 intro hS
 refine wpAnyH_done (by kernel_rfl) ?_ _
 have B5:=(alB (Below.drew hbw) _).trans (ha5.below w.heap.size (by simp;omega) (by intro k hk;simp [Value.ownBlock] at hk))
 have e:bodyL p=[UInt8.ofNat (flagI p.pres 1).toNat,UInt8.ofNat p.code.toNat]:=by simp [bodyL,k1,k2]
 have E:=Lib.hid e
 clear e
 go_wp2_with fail
 go_ret
 unfold NewPost
 rw [E.out]
 exact ⟨A5,c5,rfl,ho5,B5⟩
theorem rbody_ack (p:Pk) (s:Sv) (q:Bool) (B:Nat) (w:World) (hp:PkAt w B p s) (hB:B≤w.heap.size) (k1:(p.kind==1)=false) (k2:(p.kind==2)=false) (k3:(p.kind==3)=false) (k12:(p.kind==12)=false) (k13:(p.kind==13)=false) (k14:(p.kind==14)=false) (hk:(p.kind==8)=q)
  (hid:0≤p.id∧p.id≤65535) (hs:p.subs.length≤65535) (h2:∀x ∈ p.subs,x.1.size≤65535∧0≤x.2∧x.2≤255) (hL:(subsL q p.subs).length≤100000) (hc:p.codes.length≤65535) (h3:∀x ∈ p.codes,0≤x∧x≤255) :
  Calls Try.prog 39 #[pkV p s] w (NewPost w (pairL p.id++subsL q p.subs++codesL p.codes)):=by
 obtain ⟨pA,pC,wA,wC,uA,uC,sA,sC,cA,cC⟩:=s
 have HV:=Lib.hid hp.subs
 have HC:=Lib.hid hp.codes
 have H2:=Lib.hid h2
 have H3:=Lib.hid h3
 have HL:=Lib.hid hL
 clear hp h2 h3 hL
 have hbw:Below w.heap.size w (w.alloc (.cells (pkC p ⟨pA,pC,wA,wC,uA,uC,sA,sC,cA,cC⟩) 28)):=(Below.refl _ _).alloc (Nat.le_refl _) _
 have hl:=two_any w.heap.size none 0 0 [] p.id (w.alloc (.cells (pkC p ⟨pA,pC,wA,wC,uA,uC,sA,sC,cA,cC⟩) 28)) (World.ownsRow_nil _ _ _ _) rfl (by simp) (by simp) hid.1 hid.2
 go_enter Try.func39,Try.ntmps39
 go_wp2_with fail
 refine hl.mono ?_
 intro e w1 hpost
 obtain ⟨A1,c1,L1,HL1,rfl,ho1,ha1,hz1⟩:=hpost.gen
 have n1:L1.length=2:=by rw [hz1];simp [pairL]
 obtain ⟨r1,m1⟩:=ha1.row (heap_alloc_last _ _) (by simp [Value.ownBlock])
 have a1:=ha1.pre hbw
 have b1:w.heap.size≤w1.heap.size:=a1.grew.size
 have B1:Below w.heap.size w w1:=a1.below _ (Nat.le_refl _) (by intro k hk;simp [Value.ownBlock] at hk)
 have N1:=Lib.hid n1
 clear hpost ha1 hz1 hl a1 n1
 go_wp2_with fail
 go_loopw [3,4] (fun b i wr=>∃(k:Nat) (A':Option Addr) (c':Nat) (L:List UInt8),k≤p.subs.length∧i=.int .i64 k∧b=.slice A' L.length c'∧Hid (L1++subsL q (p.subs.take k)=L)∧wr.ownsRow w.heap.size 5 1 (.slice A' L.length c') L.length (Lib.byteCells L)∧Below w.heap.size w wr∧wr.heap[w.heap.size]? = some (.cells (pkC p ⟨pA,pC,wA,wC,uA,uC,sA,sC,cA,cC⟩) 28 (0,0))∧(Value.slice A' L.length c').ownBlock≠some w.heap.size) (fun _ i _=>p.subs.length - (intOf i).toNat)
 case atStart=>exact ⟨0,A1,c1,L1,Nat.zero_le _,rfl,rfl,Lib.hid (by simp [subsL]),ho1,B1,r1,m1⟩
 case round =>
  obtain ⟨k,A',c',L,hk2,rfl,rfl,hLL,ho,hbl,hr,hne⟩:=hrel
  have hb1:w.heap.size≤wr.heap.size:=hbl.size
  have hrc:=row_cells hr
  have hgw:w.heap.size<wr.heap.size:=(Array.getElem?_eq_some_iff.1 hr).1
  have hlen:L.length≤100002:=by rw [←hLL.out,List.length_append,N1.out];have:=subs_le q p.subs k;have:=HL.out;omega
  by_cases hlt2:k<p.subs.length
  ·obtain ⟨ad',hAd,hkc,q1,q2⟩:=(HV.out.to hB hbl).at_ k hlt2
   obtain ⟨x0,x1,x2⟩:=H2.out p.subs[k] (List.getElem_mem hlt2)
   have hst:=Lib.hid (subs_take q p.subs k hlt2)
   subst hAd
   have F:Hid (∀W,Below w.heap.size w W→W.cell? (ad'.add (k*2))=some (.string p.subs[k].1)∧W.cell? ⟨(ad'.add (k*2)).block,(ad'.add (k*2)).off+1,none⟩=some (.int .i64 p.subs[k].2)):=Lib.hid (fun W h=>by
    obtain ⟨a,hA,_,z1,z2⟩:=(HV.out.to hB h).at_ k hlt2
    injection hA with hA
    subst hA
    exact ⟨z1,z2⟩)
   generalize p.subs[k].1=x at *
   generalize p.subs[k].2=y at *
   have hp:=rlump_any w.heap.size A' c' L.length L x wr ho rfl (by omega) (by omega) x0
   go_wp2_with fail
   refine hp.mono ?_
   intro e w2 hpost
   obtain ⟨A2,c2,L2,HL2,rfl,ho2,ha2,hz2⟩:=hpost.gen
   have hl2:L2.length≤170000:=by rw [hz2];simp [pairL];omega
   obtain ⟨r2,m2⟩:=ha2.row hr hne
   have hbl2:=hbl.trans (ha2.below _ hb1 (fun k hk=>(ho.lt k hk).1))
   have b2:w.heap.size≤w2.heap.size:=hbl2.size
   have C2:=row_cells r2
   obtain ⟨p1,p2⟩:=F.out w2 hbl2
   clear hpost ha2 hz2 hp hrc q1 q2
   cases q with
   | false =>
    go_wp2_with fail
    go_roundw
    case rel =>
     refine ⟨k+1,A2,c2,L2,hlt2,by go_num,rfl,Lib.hid ?_,ho2,hbl2,r2,m2⟩
     rw [hst.out,←HL2.out,←hLL.out];simp
    case measure=>simp [intOf];omega
   | true =>
    go_wp2_with (at_builtin;go_must (refine ap_bytes w.heap.size A2 c2 L2.length L2 (w2.heap.size+1) (some ⟨w2.heap.size,0,none⟩) 1 1 [UInt8.ofNat y.toNat] (by rfl) (by rfl) (ho2.alloc _) (bytesAt_new w2 [UInt8.ofNat y.toNat] _ (0,0) (one_cell x1 x2) (by simp [maxLen])) (by simp) (by omega) (by simp;omega) ?_))
    intro A3 c3 w3 h3 h4
    obtain ⟨r3,n3⟩:=h4.row (heap_keep r2) m2
    have hbl3:=(alB hbl2 _).trans (h4.below _ (by simp;omega) (fun k hk=>(ho2.lt k hk).1))
    have hl3:(L2++[UInt8.ofNat y.toNat]).length=L2.length+1:=by simp
    have HL3:=Lib.hid hl3
    clear hl3
    go_wp2_with fail
    go_roundw
    case rel =>
     refine ⟨k+1,A3,c3,L2++[UInt8.ofNat y.toNat],hlt2,by go_num,by rw [HL3.out],Lib.hid ?_,by rw [HL3.out];exact h3,hbl3,r3,by rw [HL3.out];exact n3⟩
     rw [hst.out,←HL2.out,←hLL.out];simp
    case measure=>simp [intOf];omega
  ·obtain rfl:k=p.subs.length:=by omega
   rw [List.take_length] at hLL
   clear hk2 hlt2
   go_wp2_with fail
   go_loopw [3,5] (fun b i wr2=>∃(k:Nat) (A2:Option Addr) (c2:Nat) (M:List UInt8),k≤p.codes.length∧i=.int .i64 k∧b=.slice A2 M.length c2∧Hid (L++codesL (p.codes.take k)=M)∧wr2.ownsRow w.heap.size 5 1 (.slice A2 M.length c2) M.length (Lib.byteCells M)∧Below w.heap.size w wr2∧wr2.heap[w.heap.size]? = some (.cells (pkC p ⟨pA,pC,wA,wC,uA,uC,sA,sC,cA,cC⟩) 28 (0,0))∧(Value.slice A2 M.length c2).ownBlock≠some w.heap.size) (fun _ i _=>p.codes.length - (intOf i).toNat)
   case atStart=>exact ⟨0,A',c',L,Nat.zero_le _,rfl,rfl,Lib.hid (by simp [codesL]),ho,hbl,hr,hne⟩
   case round =>
    clear ho hbl hr hne hb1 hgw
    obtain ⟨j,A2,c2,M,hj2,rfl,rfl,hMM,ho,hbl,hr,hne⟩:=hrel
    have hb1:w.heap.size≤wr.heap.size:=hbl.size
    have hrc:=row_cells hr
    have hgw:w.heap.size<wr.heap.size:=(Array.getElem?_eq_some_iff.1 hr).1
    have hlenM:M.length≤300000:=by rw [←hMM.out,List.length_append];unfold codesL;simp;omega
    by_cases hlt2:j<p.codes.length
    ·obtain ⟨ad',hAd,hkc,q1⟩:=(HC.out.to hB hbl).at_ j hlt2
     obtain ⟨x1,x2⟩:=H3.out p.codes[j] (List.getElem_mem hlt2)
     have hst:=Lib.hid (codes_take p.codes j hlt2)
     subst hAd
     generalize p.codes[j]=y at *
     go_wp2_with (at_builtin;go_must (refine ap_bytes w.heap.size A2 c2 M.length M (wr.heap.size+1) (some ⟨wr.heap.size,0,none⟩) 1 1 [UInt8.ofNat y.toNat] (by rfl) (by rfl) (ho.alloc _) (bytesAt_new wr [UInt8.ofNat y.toNat] _ (0,0) (one_cell x1 x2) (by simp [maxLen])) (by simp) (by omega) (by simp;omega) ?_))
     intro A3 c3 w3 h3 h4
     obtain ⟨r3,n3⟩:=h4.row (heap_keep hr) hne
     have hbl3:=(alB hbl _).trans (h4.below _ (by simp;omega) (fun k hk=>(ho.lt k hk).1))
     have hl3:(M++[UInt8.ofNat y.toNat]).length=M.length+1:=by simp
     have HL3:=Lib.hid hl3
     clear hl3
     go_wp2_with fail
     go_roundw
     case rel =>
      refine ⟨j+1,A3,c3,M++[UInt8.ofNat y.toNat],hlt2,by go_num,by rw [HL3.out],Lib.hid ?_,by rw [HL3.out];exact h3,hbl3,r3,by rw [HL3.out];exact n3⟩
      rw [hst.out,←hMM.out];simp
     case measure=>simp [intOf];omega
    ·obtain rfl:j=p.codes.length:=by omega
     rw [List.take_length] at hMM
     have E:Hid (pairL p.id++subsL q p.subs++codesL p.codes=M):=Lib.hid (by rw [←hMM.out,←hLL.out,←HL1.out];simp)
     go_wp2_with fail
     go_ret
     unfold NewPost
     rw [E.out]
     exact ⟨A2,c2,rfl,ho,hbl⟩
theorem rbody_pub (p:Pk) (s:Sv) (B:Nat) (w:World) (hp:PkAt w B p s) (hB:B≤w.heap.size) (hn:s.pA=none→s.pC=0) (k1:(p.kind==1)=false) (k2:(p.kind==2)=false) (k3:(p.kind==3)=true)
  (q0:0≤p.qos) (ht:p.top.size≤65535) (hid:0≤p.id∧p.id≤65535) (hpay:p.pay.length≤1000000) :
  Calls Try.prog 39 #[pkV p s] w (NewPost w (bodyL p)):=by
 have HP:=Lib.hid hp
 have e:bodyL p=pubL p:=by simp [bodyL,k1,k2,k3]
 have E:=Lib.hid e
 clear hp e
 have hbw:Below w.heap.size w (w.alloc (.cells (pkC p s) 28)):=(Below.refl _ _).alloc (Nat.le_refl _) _
 have hl:=rlump_any w.heap.size none 0 0 [] p.top (w.alloc (.cells (pkC p s) 28)) (World.ownsRow_nil _ _ _ _) rfl (by simp) (by simp) ht
 rcases hq:(p.qos==0) with _ | _
 ·have hq1:decide (0<p.qos)=true:=by simp at hq ⊢;omega
  go_enter Try.func39,Try.ntmps39
  go_wp2_with fail
  refine hl.mono ?_
  intro e w1 hpost
  obtain ⟨A1,c1,L1,HL1,rfl,ho1,ha1,hz1⟩:=hpost.gen
  have n1:L1.length≤65537:=by rw [hz1];simp [pairL];omega
  obtain ⟨r1,m1⟩:=ha1.row (heap_alloc_last _ _) (by simp [Value.ownBlock])
  have a1:=ha1.pre hbw
  have b1:w.heap.size≤w1.heap.size:=a1.grew.size
  have C1:=row_cells r1
  have B1:Below w.heap.size w w1:=a1.below _ (Nat.le_refl _) (by intro k hk;simp [Value.ownBlock] at hk)
  clear hpost ha1 hz1 hl
  go_wp2_with fail
  refine (two_any w.heap.size A1 c1 L1.length L1 p.id w1 ho1 rfl (by omega) b1 hid.1 hid.2).mono ?_
  intro e w2 hpost
  obtain ⟨A2,c2,L2,HL2,rfl,ho2,ha2,hz2⟩:=hpost.gen
  have n2:L2.length≤65539:=by rw [hz2];simp [pairL];omega
  obtain ⟨r2,m2⟩:=ha2.row r1 m1
  have b2:w.heap.size≤w2.heap.size:=Nat.le_trans b1 ha2.grew.size
  have B2:Below w.heap.size w w2:=B1.trans (ha2.below _ b1 (fun k hk=>(ho1.lt k hk).1))
  have C2:=row_cells r2
  clear hpost ha2 hz2 C1 r1 a1
  go_wp2_with (at_builtin;go_must (refine ap_bytes w.heap.size A2 c2 L2.length L2 B s.pA s.pC p.pay.length p.pay (by rfl) (by rfl) ho2 (HP.out.pay.to hB B2) hn (by omega) b2 ?_))
  intro A3 c3 w3 h3 h4
  have B3:Below w.heap.size w w3:=B2.trans (h4.below _ b2 (fun k hk=>(ho2.lt k hk).1))
  have e3:(L2++p.pay).length=L2.length+p.pay.length:=by simp
  have E3:Hid (bodyL p=L2++p.pay):=Lib.hid (by rw [E.out];unfold pubL;rw [hq];rw [←HL2.out,←HL1.out];simp [textL,List.append_assoc])
  go_wp2_with fail
  go_ret
  unfold NewPost
  rw [E3.out,e3]
  exact ⟨A3,c3,rfl,h3,B3⟩
 ·have hq1:decide (0<p.qos)=false:=by simp at hq ⊢;omega
  go_enter Try.func39,Try.ntmps39
  go_wp2_with fail
  refine hl.mono ?_
  intro e w1 hpost
  obtain ⟨A1,c1,L1,HL1,rfl,ho1,ha1,hz1⟩:=hpost.gen
  have n1:L1.length≤65537:=by rw [hz1];simp [pairL];omega
  obtain ⟨r1,m1⟩:=ha1.row (heap_alloc_last _ _) (by simp [Value.ownBlock])
  have a1:=ha1.pre hbw
  have b1:w.heap.size≤w1.heap.size:=a1.grew.size
  have C1:=row_cells r1
  have B1:Below w.heap.size w w1:=a1.below _ (Nat.le_refl _) (by intro k hk;simp [Value.ownBlock] at hk)
  clear hpost ha1 hz1 hl
  go_wp2_with (at_builtin;go_must (refine ap_bytes w.heap.size A1 c1 L1.length L1 B s.pA s.pC p.pay.length p.pay (by rfl) (by rfl) ho1 (HP.out.pay.to hB B1) hn (by omega) b1 ?_))
  intro A3 c3 w3 h3 h4
  have B3:Below w.heap.size w w3:=B1.trans (h4.below _ b1 (fun k hk=>(ho1.lt k hk).1))
  have e3:(L1++p.pay).length=L1.length+p.pay.length:=by simp
  have E3:Hid (bodyL p=L1++p.pay):=Lib.hid (by rw [E.out];unfold pubL;rw [hq];rw [←HL1.out];simp [textL])
  go_wp2_with fail
  go_ret
  unfold NewPost
  rw [E3.out,e3]
  exact ⟨A3,c3,rfl,h3,B3⟩
theorem rbody_none (p:Pk)(s:Sv)(w:World)(k1:(p.kind==1)=false)(k2:(p.kind==2)=false)(k3:(p.kind==3)=false)(h:12≤p.kind∧p.kind≤14) :
  Calls Try.prog 39 #[pkV p s] w (NewPost w (bodyL p)):=by
 have e:bodyL p=[]:=by
  have:p.kind=12∨p.kind=13∨p.kind=14:=by omega
  rcases this with h | h | h <;> simp [bodyL,h]
 have E:=Lib.hid e
 clear e
 rcases (show p.kind=12∨p.kind=13∨p.kind=14 by omega) with q | q | q
 ·have k12:(p.kind==12)=true:=by simp [q]
  clear h q
  go_enter Try.func39,Try.ntmps39
  go_wp2_with fail
  go_ret
  unfold NewPost
  rw [E.out]
  exact ⟨none,0,rfl,World.ownsRow_nil _ _ _ _,(Below.refl _ _).alloc (Nat.le_refl _) _⟩
 ·have k12:(p.kind==12)=false:=by simp [q]
  have k13:(p.kind==13)=true:=by simp [q]
  clear h q
  go_enter Try.func39,Try.ntmps39
  go_wp2_with fail
  go_ret
  unfold NewPost
  rw [E.out]
  exact ⟨none,0,rfl,World.ownsRow_nil _ _ _ _,(Below.refl _ _).alloc (Nat.le_refl _) _⟩
 ·have k12:(p.kind==12)=false:=by simp [q]
  have k13:(p.kind==13)=false:=by simp [q]
  have k14:(p.kind==14)=true:=by simp [q]
  clear h q
  go_enter Try.func39,Try.ntmps39
  go_wp2_with fail
  go_ret
  unfold NewPost
  rw [E.out]
  exact ⟨none,0,rfl,World.ownsRow_nil _ _ _ _,(Below.refl _ _).alloc (Nat.le_refl _) _⟩
def PutPost (w:World) (l:List UInt8) (e:Ending) (w':World):Prop :=
 ∃(A:Option Addr) (c:Nat),e=.returned (.tuple #[.slice A l.length c,.int .i64 0])∧w'.ownsRow w.heap.size 5 1 (.slice A l.length c) l.length (Lib.byteCells l)∧Below w.heap.size w w'
theorem wput_no (p:Pk)(s:Sv)(B:Nat)(w:World)(hp:PkAt w B p s)(hB:B≤w.heap.size)(ok:PkOk p)(hr:rightP p=false) :
  Calls Try.prog 17 #[pkV p s] w fun e w'=>e=.returned (.tuple #[.slice none 0 0,.int .i64 26])∧Below w.heap.size w w':=by
 have HP:=Lib.hid hp
 have OK:=Lib.hid ok
 clear hp ok
 go_enter Try.func17,Try.ntmps17
 go_wp2_with (first
  | ((with_reducible show wpList _ _ _ (⟨_,.load 28 _,_,_,_,_⟩ :: _) _ _);refine ld_pk (w.heap.size) (by rfl) (by rfl) _ _ _ (by (first | assumption | exact heap_alloc_last _ _ | (repeat (first | assumption | exact heap_alloc_last _ _ | exact heap_last2 _ _ _ | refine heap_keep ?_ | refine heap_below (by assumption) ?_)))) (by rfl) ?_)
  | (go_at_call 19;refine (right_any p s B _ (HP.out.to hB (by (repeat (first | assumption | exact Below.refl _ _ | exact (Below.refl _ _).alloc (Nat.le_refl _) _ | (refine thn ?_ (by assumption)) | (refine alB ?_ _) | (refine dwN ?_ _) | (refine Below.drew ?_))))) (by simp;omega) OK.out).mono ?_;rintro e w' ⟨rfl,hb⟩;obtain ⟨hc,hf⟩:=bcell hb;have hz:w.heap.size<w'.heap.size:=(by have:=hb.size;(try simp at this);omega)))
 go_ret2
 exact ⟨rfl,by (repeat (first | assumption | exact Below.refl _ _ | exact (Below.refl _ _).alloc (Nat.le_refl _) _ | (refine thn ?_ (by assumption)) | (refine alB ?_ _) | (refine dwN ?_ _) | (refine Below.drew ?_)))⟩
theorem wput_yes (p:Pk)(s:Sv)(B:Nat)(w:World)(hp:PkAt w B p s)(hB:B≤w.heap.size)(ok:PkOk p)(hn:NilOk s)(hr:rightP p=true) :
  Calls Try.prog 17 #[pkV p s] w (PutPost w (encP p)):=by
 have HP:=Lib.hid hp
 have OK:=Lib.hid ok
 have HN:=Lib.hid hn
 have HF:=Lib.hid (right_f p hr)
 have hbw:Below w.heap.size w (w.alloc (.cells (pkC p s) 28)):=(Below.refl _ _).alloc (Nat.le_refl _) _
 clear hp ok hn
 go_enter Try.func17,Try.ntmps17
 go_wp2_with ((with_reducible show wpList _ _ _ (⟨_,.load 28 _,_,_,_,_⟩ :: _) _ _);refine ld_pk (w.heap.size) (by rfl) (by rfl) _ _ _ (by (first | assumption | exact heap_alloc_last _ _ | (repeat (first | assumption | exact heap_alloc_last _ _ | exact heap_last2 _ _ _ | refine heap_keep ?_ | refine heap_below (by assumption) ?_)))) (by rfl) ?_)
 refine (right_any p s B _ (HP.out.to hB hbw) (by simp;omega) OK.out).mono ?_
 rintro e w1 ⟨rfl,hb1⟩
 have B1:Below w.heap.size w w1:=thn hbw hb1
 have r1:=heap_below hb1 (heap_alloc_last _ _)
 go_wp2_with ((with_reducible show wpList _ _ _ (⟨_,.load 28 _,_,_,_,_⟩ :: _) _ _);refine ld_pk (w.heap.size) (by rfl) (by rfl) _ _ _ (by (first | assumption | exact heap_alloc_last _ _ | (repeat (first | assumption | exact heap_alloc_last _ _ | exact heap_last2 _ _ _ | refine heap_keep ?_ | refine heap_below (by assumption) ?_)))) (by rfl) ?_)
 refine (bytesOf_any p s B w1 (HP.out.to hB B1) (Nat.le_trans hB B1.size) OK.out HN.out HF.out).mono ?_
 rintro e w2 ⟨A,c,rfl,ho,hb2⟩
 have ho2:w2.ownsRow w.heap.size 5 1 (.slice A (encP p).length c) (encP p).length (Lib.byteCells (encP p)):=by
  refine ⟨ho.1,?_⟩
  rcases ho.2 with h | ⟨g,cap,cur,h1,h2,h3⟩
  ·exact .inl h
  ·exact .inr ⟨g,cap,cur,h1,Nat.le_trans B1.size h2,h3⟩
 generalize encP p=L at *
 go_wp2_with fail
 go_ret2
 exact ⟨A,c,rfl,ho2,thn B1 hb2⟩
theorem rbit_q (b:Bool)(f:Int)(w:World) :
  Calls Try.prog 38 #[.bool b,.int .i64 f] w fun e w'=>e=.returned (.int .i64 (flagI b f))∧w'=w:=(rbit_any b f w).mono fun _ _ ⟨h,k⟩=>⟨h,k.symm⟩
theorem own_nz2 {w:World}{base n c k:Nat}{A:Option Addr}{xs:List Value}(h:w.ownsRow base 5 1 (.slice A n c) k xs):A=none→c=0:=by
 intro e
 rcases h.2 with ⟨h,_⟩ | ⟨g,cap,cur,h,_⟩
 ·injection h
 ·injection h with h1 _ _
  rw [e] at h1
  exact absurd h1 (by simp)
theorem dput_no (p:Pk) (s:Sv) (B:Nat) (w:World) (hp:PkAt w B p s) (hB:B≤w.heap.size)
  (hright:∀W,PkAt W B p s→B≤W.heap.size→Calls Try.prog 20 #[pkV p s] W fun e w'=>e=.returned (.bool false)∧Below W.heap.size W w') :
  Calls Try.prog 18 #[pkV p s] w fun e w'=>e=.returned (.tuple #[.slice none 0 0,.int .i64 26])∧Below w.heap.size w w':=by
 have HP:=Lib.hid hp
 have HR:=Lib.hid hright
 have hbw:Below w.heap.size w (w.alloc (.cells (pkC p s) 28)):=(Below.refl _ _).alloc (Nat.le_refl _) _
 clear hp hright
 go_enter Try.func18,Try.ntmps18
 go_wp2_with ((with_reducible show wpList _ _ _ (⟨_,.load 28 _,_,_,_,_⟩ :: _) _ _);refine ld_pk (w.heap.size) (by rfl) (by rfl) _ _ _ (by (first | assumption | exact heap_alloc_last _ _ | (repeat (first | assumption | exact heap_alloc_last _ _ | exact heap_last2 _ _ _ | refine heap_keep ?_ | refine heap_below (by assumption) ?_)))) (by rfl) ?_)
 refine (HR.out _ (HP.out.to hB hbw) (by simp;omega)).mono ?_
 rintro e w1 ⟨rfl,hb1⟩
 have B1:Below w.heap.size w w1:=thn hbw hb1
 go_wp2_with fail
 go_ret2
 exact ⟨rfl,B1⟩
theorem dput_yes (p:Pk) (s:Sv) (B:Nat) (w:World) (hp:PkAt w B p s) (hB:B≤w.heap.size) (k1:1≤p.kind) (k14:p.kind≤14) (q0:0≤p.qos) (q3:p.qos≤2) (hle:lenP p≤8192) (hll:((bodyL p).length:Int)=lenP p)
  (hright:∀W,PkAt W B p s→B≤W.heap.size→Calls Try.prog 20 #[pkV p s] W fun e w'=>e=.returned (.bool true)∧Below W.heap.size W w')
  (hbody:∀W,PkAt W B p s→B≤W.heap.size→Calls Try.prog 39 #[pkV p s] W (NewPost W (bodyL p))) :
  Calls Try.prog 18 #[pkV p s] w (PutPost w (encP p)):=by
 have HP:=Lib.hid hp
 have HR:=Lib.hid hright
 have HBD:=Lib.hid hbody
 have HL:=Lib.hid hll
 have HLE:=Lib.hid hle
 have hbw:Below w.heap.size w (w.alloc (.cells (pkC p s) 28)):=(Below.refl _ _).alloc (Nat.le_refl _) _
 obtain ⟨a1,b1⟩:=flagI_in p.dup 8 (by omega)
 obtain ⟨a2,b2⟩:=flagI_in p.ret 1 (by omega)
 clear hp hright hbody hll hle
 rcases e6:(p.kind==6) with _ | _
 rotate_left 1
 ·have HX:Hid (16*p.kind+2=headP p):=by
    refine Lib.hid ?_
    unfold headP
    have q:p.kind=6:=by simpa using e6
    rw [q];rfl
  go_enter Try.func18,Try.ntmps18
  go_wp2_with ((with_reducible show wpList _ _ _ (⟨_,.load 28 _,_,_,_,_⟩ :: _) _ _);refine ld_pk (w.heap.size) (by rfl) (by rfl) _ _ _ (by (first | assumption | exact heap_alloc_last _ _ | (repeat (first | assumption | exact heap_alloc_last _ _ | exact heap_last2 _ _ _ | refine heap_keep ?_ | refine heap_below (by assumption) ?_)))) (by rfl) ?_)
  refine (HR.out _ (HP.out.to hB hbw) (by simp;omega)).mono ?_
  rintro e w1 ⟨rfl,hb1⟩
  have r1:=heap_below hb1 (heap_alloc_last _ _)
  have B1:Below w.heap.size w w1:=thn hbw hb1
  have C1:=row_cells r1
  go_wp2_with ((with_reducible show wpList _ _ _ (⟨_,.load 28 _,_,_,_,_⟩ :: _) _ _);refine ld_pk (w.heap.size) (by rfl) (by rfl) _ _ _ (by (first | assumption | exact heap_alloc_last _ _ | (repeat (first | assumption | exact heap_alloc_last _ _ | exact heap_last2 _ _ _ | refine heap_keep ?_ | refine heap_below (by assumption) ?_)))) (by rfl) ?_)
  refine (HBD.out _ (HP.out.to hB B1) (Nat.le_trans hB B1.size)).mono ?_
  rintro e w2 ⟨A2,c2,rfl,ho2,hb2⟩
  have hle:((bodyL p).length:Int)=lenP p:=HL.out
  have hle2:=HLE.out
  generalize hbl:bodyL p=L2 at ho2 hle ⊢
  have HBQ:=Lib.hid hbl
  have hl2:L2.length≤8192:=by omega
  have HLL:=Lib.hid hle
  clear hbl hle hle2
  have r2:=heap_below hb2 r1
  have B2:Below w.heap.size w _:=thn B1 hb2
  go_wp2_with fail
  refine (rput_any (L2.length:Int) (by omega) (by omega) w2).mono ?_
  rintro e w3 ⟨AZ,cZ,rfl,hZ,hb3⟩
  have r3:=heap_below hb3 r2
  have B3:Below w.heap.size w w3:=thn B2 hb3
  have z1:=putL_len (L2.length:Int)
  have z2:=putL_pos (L2.length:Int) (by omega) (by omega)
  generalize hZe:putL (L2.length:Int)=Z at hZ z1 z2 ⊢
  have HZ:=Lib.hid hZe
  clear hZe
  have C3:=row_cells r3
  have hg3:w.heap.size<w3.heap.size:=(Array.getElem?_eq_some_iff.1 r3).1
  have g3:0≤16*p.kind+2:=by omega
  have g4:16*p.kind+2≤255:=by omega
  have ho3:=own_new w.heap.size w3 [UInt8.ofNat (16*p.kind+2).toNat] #[.int .u8 (16*p.kind+2)] (one_cell g3 g4) B3.size (by simp [maxLen])
  have hZ3:=hZ.on ((Below.refl _ _).alloc (Nat.le_refl _) (.cells #[.int .u8 (16*p.kind+2)] 5 (0,0)))
  have hy2:=((ownsBytes ho2).to (Nat.le_refl _) hb3).to hb3.size ((Below.refl _ _).alloc (Nat.le_refl _) (.cells #[.int .u8 (16*p.kind+2)] 5 (0,0)))
  have hn2:=own_nz2 ho2
  have hw23:w2.heap.size≤w3.heap.size:=hb3.size
  go_wp2_with (at_builtin;go_must (refine ap_bytes w.heap.size (some ⟨w3.heap.size,0,none⟩) 1 1 [UInt8.ofNat (16*p.kind+2).toNat] _ AZ cZ Z.length Z (by rfl) (by rfl) ho3 hZ3 (hZ.nz z2) (by omega) (by simp;omega) ?_))
  intro A4 c4 w4 ho4 ha4
  have B4:Below w.heap.size w w4:=(alB B3 _).trans (ha4.below w.heap.size (by simp;omega) (by simp [Value.ownBlock];omega))
  have hy4:=hy2.below ((ha4.below w3.heap.size (by simp) (by simp [Value.ownBlock])).mono hw23)
  have hsz4:w.heap.size≤w4.heap.size:=B4.size
  have e4:([UInt8.ofNat (16*p.kind+2).toNat]++Z).length=1+Z.length:=by simp;omega
  have k4:1+Z.length≤5:=by omega
  have HE4:=Lib.hid e4
  clear e4 ho3 hZ3 hZ ha4 r2 r3 hy2
  go_wp2_with (at_builtin;go_must (refine ap_bytes w.heap.size A4 c4 (1+Z.length) ([UInt8.ofNat (16*p.kind+2).toNat]++Z) _ A2 c2 L2.length L2 (by rfl) (by rfl) ho4 hy4 hn2 (by omega) hsz4 ?_))
  intro A5 c5 w5 ho5 ha5
  have B5:=B4.trans (ha5.below w.heap.size hsz4 (fun k hk=>(ho4.lt k hk).1))
  have e5:encP p=[UInt8.ofNat (16*p.kind+2).toNat]++Z++L2:=by rw [←HZ.out,←HBQ.out,HX.out];unfold encP;rw [HL.out]
  have n5:([UInt8.ofNat (16*p.kind+2).toNat]++Z++L2).length=1+Z.length+L2.length:=by simp;omega
  have E5:=Lib.hid e5
  have N5:=Lib.hid n5
  clear e5 n5
  go_wp2_with fail
  go_ret2
  unfold PutPost
  rw [E5.out,N5.out]
  exact ⟨A5,c5,rfl,ho5,B5⟩
 rcases e8:(p.kind==8) with _ | _
 rotate_left 1
 ·have HX:Hid (16*p.kind+2=headP p):=by
    refine Lib.hid ?_
    unfold headP
    have q:p.kind=8:=by simpa using e8
    rw [q];rfl
  go_enter Try.func18,Try.ntmps18
  go_wp2_with ((with_reducible show wpList _ _ _ (⟨_,.load 28 _,_,_,_,_⟩ :: _) _ _);refine ld_pk (w.heap.size) (by rfl) (by rfl) _ _ _ (by (first | assumption | exact heap_alloc_last _ _ | (repeat (first | assumption | exact heap_alloc_last _ _ | exact heap_last2 _ _ _ | refine heap_keep ?_ | refine heap_below (by assumption) ?_)))) (by rfl) ?_)
  refine (HR.out _ (HP.out.to hB hbw) (by simp;omega)).mono ?_
  rintro e w1 ⟨rfl,hb1⟩
  have r1:=heap_below hb1 (heap_alloc_last _ _)
  have B1:Below w.heap.size w w1:=thn hbw hb1
  have C1:=row_cells r1
  go_wp2_with ((with_reducible show wpList _ _ _ (⟨_,.load 28 _,_,_,_,_⟩ :: _) _ _);refine ld_pk (w.heap.size) (by rfl) (by rfl) _ _ _ (by (first | assumption | exact heap_alloc_last _ _ | (repeat (first | assumption | exact heap_alloc_last _ _ | exact heap_last2 _ _ _ | refine heap_keep ?_ | refine heap_below (by assumption) ?_)))) (by rfl) ?_)
  refine (HBD.out _ (HP.out.to hB B1) (Nat.le_trans hB B1.size)).mono ?_
  rintro e w2 ⟨A2,c2,rfl,ho2,hb2⟩
  have hle:((bodyL p).length:Int)=lenP p:=HL.out
  have hle2:=HLE.out
  generalize hbl:bodyL p=L2 at ho2 hle ⊢
  have HBQ:=Lib.hid hbl
  have hl2:L2.length≤8192:=by omega
  have HLL:=Lib.hid hle
  clear hbl hle hle2
  have r2:=heap_below hb2 r1
  have B2:Below w.heap.size w _:=thn B1 hb2
  go_wp2_with fail
  refine (rput_any (L2.length:Int) (by omega) (by omega) w2).mono ?_
  rintro e w3 ⟨AZ,cZ,rfl,hZ,hb3⟩
  have r3:=heap_below hb3 r2
  have B3:Below w.heap.size w w3:=thn B2 hb3
  have z1:=putL_len (L2.length:Int)
  have z2:=putL_pos (L2.length:Int) (by omega) (by omega)
  generalize hZe:putL (L2.length:Int)=Z at hZ z1 z2 ⊢
  have HZ:=Lib.hid hZe
  clear hZe
  have C3:=row_cells r3
  have hg3:w.heap.size<w3.heap.size:=(Array.getElem?_eq_some_iff.1 r3).1
  have g3:0≤16*p.kind+2:=by omega
  have g4:16*p.kind+2≤255:=by omega
  have ho3:=own_new w.heap.size w3 [UInt8.ofNat (16*p.kind+2).toNat] #[.int .u8 (16*p.kind+2)] (one_cell g3 g4) B3.size (by simp [maxLen])
  have hZ3:=hZ.on ((Below.refl _ _).alloc (Nat.le_refl _) (.cells #[.int .u8 (16*p.kind+2)] 5 (0,0)))
  have hy2:=((ownsBytes ho2).to (Nat.le_refl _) hb3).to hb3.size ((Below.refl _ _).alloc (Nat.le_refl _) (.cells #[.int .u8 (16*p.kind+2)] 5 (0,0)))
  have hn2:=own_nz2 ho2
  have hw23:w2.heap.size≤w3.heap.size:=hb3.size
  go_wp2_with (at_builtin;go_must (refine ap_bytes w.heap.size (some ⟨w3.heap.size,0,none⟩) 1 1 [UInt8.ofNat (16*p.kind+2).toNat] _ AZ cZ Z.length Z (by rfl) (by rfl) ho3 hZ3 (hZ.nz z2) (by omega) (by simp;omega) ?_))
  intro A4 c4 w4 ho4 ha4
  have B4:Below w.heap.size w w4:=(alB B3 _).trans (ha4.below w.heap.size (by simp;omega) (by simp [Value.ownBlock];omega))
  have hy4:=hy2.below ((ha4.below w3.heap.size (by simp) (by simp [Value.ownBlock])).mono hw23)
  have hsz4:w.heap.size≤w4.heap.size:=B4.size
  have e4:([UInt8.ofNat (16*p.kind+2).toNat]++Z).length=1+Z.length:=by simp;omega
  have k4:1+Z.length≤5:=by omega
  have HE4:=Lib.hid e4
  clear e4 ho3 hZ3 hZ ha4 r2 r3 hy2
  go_wp2_with (at_builtin;go_must (refine ap_bytes w.heap.size A4 c4 (1+Z.length) ([UInt8.ofNat (16*p.kind+2).toNat]++Z) _ A2 c2 L2.length L2 (by rfl) (by rfl) ho4 hy4 hn2 (by omega) hsz4 ?_))
  intro A5 c5 w5 ho5 ha5
  have B5:=B4.trans (ha5.below w.heap.size hsz4 (fun k hk=>(ho4.lt k hk).1))
  have e5:encP p=[UInt8.ofNat (16*p.kind+2).toNat]++Z++L2:=by rw [←HZ.out,←HBQ.out,HX.out];unfold encP;rw [HL.out]
  have n5:([UInt8.ofNat (16*p.kind+2).toNat]++Z++L2).length=1+Z.length+L2.length:=by simp;omega
  have E5:=Lib.hid e5
  have N5:=Lib.hid n5
  clear e5 n5
  go_wp2_with fail
  go_ret2
  unfold PutPost
  rw [E5.out,N5.out]
  exact ⟨A5,c5,rfl,ho5,B5⟩
 rcases e10:(p.kind==10) with _ | _
 rotate_left 1
 ·have HX:Hid (16*p.kind+2=headP p):=by
    refine Lib.hid ?_
    unfold headP
    have q:p.kind=10:=by simpa using e10
    rw [q];rfl
  go_enter Try.func18,Try.ntmps18
  go_wp2_with ((with_reducible show wpList _ _ _ (⟨_,.load 28 _,_,_,_,_⟩ :: _) _ _);refine ld_pk (w.heap.size) (by rfl) (by rfl) _ _ _ (by (first | assumption | exact heap_alloc_last _ _ | (repeat (first | assumption | exact heap_alloc_last _ _ | exact heap_last2 _ _ _ | refine heap_keep ?_ | refine heap_below (by assumption) ?_)))) (by rfl) ?_)
  refine (HR.out _ (HP.out.to hB hbw) (by simp;omega)).mono ?_
  rintro e w1 ⟨rfl,hb1⟩
  have r1:=heap_below hb1 (heap_alloc_last _ _)
  have B1:Below w.heap.size w w1:=thn hbw hb1
  have C1:=row_cells r1
  go_wp2_with ((with_reducible show wpList _ _ _ (⟨_,.load 28 _,_,_,_,_⟩ :: _) _ _);refine ld_pk (w.heap.size) (by rfl) (by rfl) _ _ _ (by (first | assumption | exact heap_alloc_last _ _ | (repeat (first | assumption | exact heap_alloc_last _ _ | exact heap_last2 _ _ _ | refine heap_keep ?_ | refine heap_below (by assumption) ?_)))) (by rfl) ?_)
  refine (HBD.out _ (HP.out.to hB B1) (Nat.le_trans hB B1.size)).mono ?_
  rintro e w2 ⟨A2,c2,rfl,ho2,hb2⟩
  have hle:((bodyL p).length:Int)=lenP p:=HL.out
  have hle2:=HLE.out
  generalize hbl:bodyL p=L2 at ho2 hle ⊢
  have HBQ:=Lib.hid hbl
  have hl2:L2.length≤8192:=by omega
  have HLL:=Lib.hid hle
  clear hbl hle hle2
  have r2:=heap_below hb2 r1
  have B2:Below w.heap.size w _:=thn B1 hb2
  go_wp2_with fail
  refine (rput_any (L2.length:Int) (by omega) (by omega) w2).mono ?_
  rintro e w3 ⟨AZ,cZ,rfl,hZ,hb3⟩
  have r3:=heap_below hb3 r2
  have B3:Below w.heap.size w w3:=thn B2 hb3
  have z1:=putL_len (L2.length:Int)
  have z2:=putL_pos (L2.length:Int) (by omega) (by omega)
  generalize hZe:putL (L2.length:Int)=Z at hZ z1 z2 ⊢
  have HZ:=Lib.hid hZe
  clear hZe
  have C3:=row_cells r3
  have hg3:w.heap.size<w3.heap.size:=(Array.getElem?_eq_some_iff.1 r3).1
  have g3:0≤16*p.kind+2:=by omega
  have g4:16*p.kind+2≤255:=by omega
  have ho3:=own_new w.heap.size w3 [UInt8.ofNat (16*p.kind+2).toNat] #[.int .u8 (16*p.kind+2)] (one_cell g3 g4) B3.size (by simp [maxLen])
  have hZ3:=hZ.on ((Below.refl _ _).alloc (Nat.le_refl _) (.cells #[.int .u8 (16*p.kind+2)] 5 (0,0)))
  have hy2:=((ownsBytes ho2).to (Nat.le_refl _) hb3).to hb3.size ((Below.refl _ _).alloc (Nat.le_refl _) (.cells #[.int .u8 (16*p.kind+2)] 5 (0,0)))
  have hn2:=own_nz2 ho2
  have hw23:w2.heap.size≤w3.heap.size:=hb3.size
  go_wp2_with (at_builtin;go_must (refine ap_bytes w.heap.size (some ⟨w3.heap.size,0,none⟩) 1 1 [UInt8.ofNat (16*p.kind+2).toNat] _ AZ cZ Z.length Z (by rfl) (by rfl) ho3 hZ3 (hZ.nz z2) (by omega) (by simp;omega) ?_))
  intro A4 c4 w4 ho4 ha4
  have B4:Below w.heap.size w w4:=(alB B3 _).trans (ha4.below w.heap.size (by simp;omega) (by simp [Value.ownBlock];omega))
  have hy4:=hy2.below ((ha4.below w3.heap.size (by simp) (by simp [Value.ownBlock])).mono hw23)
  have hsz4:w.heap.size≤w4.heap.size:=B4.size
  have e4:([UInt8.ofNat (16*p.kind+2).toNat]++Z).length=1+Z.length:=by simp;omega
  have k4:1+Z.length≤5:=by omega
  have HE4:=Lib.hid e4
  clear e4 ho3 hZ3 hZ ha4 r2 r3 hy2
  go_wp2_with (at_builtin;go_must (refine ap_bytes w.heap.size A4 c4 (1+Z.length) ([UInt8.ofNat (16*p.kind+2).toNat]++Z) _ A2 c2 L2.length L2 (by rfl) (by rfl) ho4 hy4 hn2 (by omega) hsz4 ?_))
  intro A5 c5 w5 ho5 ha5
  have B5:=B4.trans (ha5.below w.heap.size hsz4 (fun k hk=>(ho4.lt k hk).1))
  have e5:encP p=[UInt8.ofNat (16*p.kind+2).toNat]++Z++L2:=by rw [←HZ.out,←HBQ.out,HX.out];unfold encP;rw [HL.out]
  have n5:([UInt8.ofNat (16*p.kind+2).toNat]++Z++L2).length=1+Z.length+L2.length:=by simp;omega
  have E5:=Lib.hid e5
  have N5:=Lib.hid n5
  clear e5 n5
  go_wp2_with fail
  go_ret2
  unfold PutPost
  rw [E5.out,N5.out]
  exact ⟨A5,c5,rfl,ho5,B5⟩
 rcases e3:(p.kind==3) with _ | _
 ·have HX:Hid (16*p.kind=headP p):=by
    refine Lib.hid ?_
    unfold headP
    simp [e3,e6,e8,e10];omega
  go_enter Try.func18,Try.ntmps18
  go_wp2_with ((with_reducible show wpList _ _ _ (⟨_,.load 28 _,_,_,_,_⟩ :: _) _ _);refine ld_pk (w.heap.size) (by rfl) (by rfl) _ _ _ (by (first | assumption | exact heap_alloc_last _ _ | (repeat (first | assumption | exact heap_alloc_last _ _ | exact heap_last2 _ _ _ | refine heap_keep ?_ | refine heap_below (by assumption) ?_)))) (by rfl) ?_)
  refine (HR.out _ (HP.out.to hB hbw) (by simp;omega)).mono ?_
  rintro e w1 ⟨rfl,hb1⟩
  have r1:=heap_below hb1 (heap_alloc_last _ _)
  have B1:Below w.heap.size w w1:=thn hbw hb1
  have C1:=row_cells r1
  go_wp2_with ((with_reducible show wpList _ _ _ (⟨_,.load 28 _,_,_,_,_⟩ :: _) _ _);refine ld_pk (w.heap.size) (by rfl) (by rfl) _ _ _ (by (first | assumption | exact heap_alloc_last _ _ | (repeat (first | assumption | exact heap_alloc_last _ _ | exact heap_last2 _ _ _ | refine heap_keep ?_ | refine heap_below (by assumption) ?_)))) (by rfl) ?_)
  refine (HBD.out _ (HP.out.to hB B1) (Nat.le_trans hB B1.size)).mono ?_
  rintro e w2 ⟨A2,c2,rfl,ho2,hb2⟩
  have hle:((bodyL p).length:Int)=lenP p:=HL.out
  have hle2:=HLE.out
  generalize hbl:bodyL p=L2 at ho2 hle ⊢
  have HBQ:=Lib.hid hbl
  have hl2:L2.length≤8192:=by omega
  have HLL:=Lib.hid hle
  clear hbl hle hle2
  have r2:=heap_below hb2 r1
  have B2:Below w.heap.size w _:=thn B1 hb2
  go_wp2_with fail
  refine (rput_any (L2.length:Int) (by omega) (by omega) w2).mono ?_
  rintro e w3 ⟨AZ,cZ,rfl,hZ,hb3⟩
  have r3:=heap_below hb3 r2
  have B3:Below w.heap.size w w3:=thn B2 hb3
  have z1:=putL_len (L2.length:Int)
  have z2:=putL_pos (L2.length:Int) (by omega) (by omega)
  generalize hZe:putL (L2.length:Int)=Z at hZ z1 z2 ⊢
  have HZ:=Lib.hid hZe
  clear hZe
  have C3:=row_cells r3
  have hg3:w.heap.size<w3.heap.size:=(Array.getElem?_eq_some_iff.1 r3).1
  have g3:0≤16*p.kind:=by omega
  have g4:16*p.kind≤255:=by omega
  have ho3:=own_new w.heap.size w3 [UInt8.ofNat (16*p.kind).toNat] #[.int .u8 (16*p.kind)] (one_cell g3 g4) B3.size (by simp [maxLen])
  have hZ3:=hZ.on ((Below.refl _ _).alloc (Nat.le_refl _) (.cells #[.int .u8 (16*p.kind)] 5 (0,0)))
  have hy2:=((ownsBytes ho2).to (Nat.le_refl _) hb3).to hb3.size ((Below.refl _ _).alloc (Nat.le_refl _) (.cells #[.int .u8 (16*p.kind)] 5 (0,0)))
  have hn2:=own_nz2 ho2
  have hw23:w2.heap.size≤w3.heap.size:=hb3.size
  go_wp2_with (at_builtin;go_must (refine ap_bytes w.heap.size (some ⟨w3.heap.size,0,none⟩) 1 1 [UInt8.ofNat (16*p.kind).toNat] _ AZ cZ Z.length Z (by rfl) (by rfl) ho3 hZ3 (hZ.nz z2) (by omega) (by simp;omega) ?_))
  intro A4 c4 w4 ho4 ha4
  have B4:Below w.heap.size w w4:=(alB B3 _).trans (ha4.below w.heap.size (by simp;omega) (by simp [Value.ownBlock];omega))
  have hy4:=hy2.below ((ha4.below w3.heap.size (by simp) (by simp [Value.ownBlock])).mono hw23)
  have hsz4:w.heap.size≤w4.heap.size:=B4.size
  have e4:([UInt8.ofNat (16*p.kind).toNat]++Z).length=1+Z.length:=by simp;omega
  have k4:1+Z.length≤5:=by omega
  have HE4:=Lib.hid e4
  clear e4 ho3 hZ3 hZ ha4 r2 r3 hy2
  go_wp2_with (at_builtin;go_must (refine ap_bytes w.heap.size A4 c4 (1+Z.length) ([UInt8.ofNat (16*p.kind).toNat]++Z) _ A2 c2 L2.length L2 (by rfl) (by rfl) ho4 hy4 hn2 (by omega) hsz4 ?_))
  intro A5 c5 w5 ho5 ha5
  have B5:=B4.trans (ha5.below w.heap.size hsz4 (fun k hk=>(ho4.lt k hk).1))
  have e5:encP p=[UInt8.ofNat (16*p.kind).toNat]++Z++L2:=by rw [←HZ.out,←HBQ.out,HX.out];unfold encP;rw [HL.out]
  have n5:([UInt8.ofNat (16*p.kind).toNat]++Z++L2).length=1+Z.length+L2.length:=by simp;omega
  have E5:=Lib.hid e5
  have N5:=Lib.hid n5
  clear e5 n5
  go_wp2_with fail
  go_ret2
  unfold PutPost
  rw [E5.out,N5.out]
  exact ⟨A5,c5,rfl,ho5,B5⟩
 ·have HX:Hid (16*p.kind+(flagI p.dup 8+2*p.qos+flagI p.ret 1)=headP p):=by
    refine Lib.hid ?_
    unfold headP
    simp [e3];omega
  go_enter Try.func18,Try.ntmps18
  go_wp2_with ((with_reducible show wpList _ _ _ (⟨_,.load 28 _,_,_,_,_⟩ :: _) _ _);refine ld_pk (w.heap.size) (by rfl) (by rfl) _ _ _ (by (first | assumption | exact heap_alloc_last _ _ | (repeat (first | assumption | exact heap_alloc_last _ _ | exact heap_last2 _ _ _ | refine heap_keep ?_ | refine heap_below (by assumption) ?_)))) (by rfl) ?_)
  refine (HR.out _ (HP.out.to hB hbw) (by simp;omega)).mono ?_
  rintro e w1 ⟨rfl,hb1⟩
  have r1:=heap_below hb1 (heap_alloc_last _ _)
  have B1:Below w.heap.size w w1:=thn hbw hb1
  have C1:=row_cells r1
  go_wp2_with ((with_reducible show wpList _ _ _ (⟨_,.load 28 _,_,_,_,_⟩ :: _) _ _);refine ld_pk (w.heap.size) (by rfl) (by rfl) _ _ _ (by (first | assumption | exact heap_alloc_last _ _ | (repeat (first | assumption | exact heap_alloc_last _ _ | exact heap_last2 _ _ _ | refine heap_keep ?_ | refine heap_below (by assumption) ?_)))) (by rfl) ?_)
  go_quiet ((go_at_call 38;exact Calls.quiet_of_same (rbit_q _ _ _)))
  have B1:Below w.heap.size w (w1.drewN nq):=dwN B1 _
  have r1:(w1.drewN nq).heap[w.heap.size]? = some (.cells (pkC p s) 28 (0,0)):=r1
  generalize w1.drewN nq=w1 at *
  go_wp2_with ((with_reducible show wpList _ _ _ (⟨_,.load 28 _,_,_,_,_⟩ :: _) _ _);refine ld_pk (w.heap.size) (by rfl) (by rfl) _ _ _ (by (first | assumption | exact heap_alloc_last _ _ | (repeat (first | assumption | exact heap_alloc_last _ _ | exact heap_last2 _ _ _ | refine heap_keep ?_ | refine heap_below (by assumption) ?_)))) (by rfl) ?_)
  refine (HBD.out _ (HP.out.to hB B1) (Nat.le_trans hB B1.size)).mono ?_
  rintro e w2 ⟨A2,c2,rfl,ho2,hb2⟩
  have hle:((bodyL p).length:Int)=lenP p:=HL.out
  have hle2:=HLE.out
  generalize hbl:bodyL p=L2 at ho2 hle ⊢
  have HBQ:=Lib.hid hbl
  have hl2:L2.length≤8192:=by omega
  have HLL:=Lib.hid hle
  clear hbl hle hle2
  have r2:=heap_below hb2 r1
  have B2:Below w.heap.size w _:=thn B1 hb2
  go_wp2_with fail
  refine (rput_any (L2.length:Int) (by omega) (by omega) w2).mono ?_
  rintro e w3 ⟨AZ,cZ,rfl,hZ,hb3⟩
  have r3:=heap_below hb3 r2
  have B3:Below w.heap.size w w3:=thn B2 hb3
  have z1:=putL_len (L2.length:Int)
  have z2:=putL_pos (L2.length:Int) (by omega) (by omega)
  generalize hZe:putL (L2.length:Int)=Z at hZ z1 z2 ⊢
  have HZ:=Lib.hid hZe
  clear hZe
  have C3:=row_cells r3
  have hg3:w.heap.size<w3.heap.size:=(Array.getElem?_eq_some_iff.1 r3).1
  have g3:0≤16*p.kind+(flagI p.dup 8+2*p.qos+flagI p.ret 1):=by omega
  have g4:16*p.kind+(flagI p.dup 8+2*p.qos+flagI p.ret 1)≤255:=by omega
  have ho3:=own_new w.heap.size w3 [UInt8.ofNat (16*p.kind+(flagI p.dup 8+2*p.qos+flagI p.ret 1)).toNat] #[.int .u8 (16*p.kind+(flagI p.dup 8+2*p.qos+flagI p.ret 1))] (one_cell g3 g4) B3.size (by simp [maxLen])
  have hZ3:=hZ.on ((Below.refl _ _).alloc (Nat.le_refl _) (.cells #[.int .u8 (16*p.kind+(flagI p.dup 8+2*p.qos+flagI p.ret 1))] 5 (0,0)))
  have hy2:=((ownsBytes ho2).to (Nat.le_refl _) hb3).to hb3.size ((Below.refl _ _).alloc (Nat.le_refl _) (.cells #[.int .u8 (16*p.kind+(flagI p.dup 8+2*p.qos+flagI p.ret 1))] 5 (0,0)))
  have hn2:=own_nz2 ho2
  have hw23:w2.heap.size≤w3.heap.size:=hb3.size
  go_wp2_with (at_builtin;go_must (refine ap_bytes w.heap.size (some ⟨w3.heap.size,0,none⟩) 1 1 [UInt8.ofNat (16*p.kind+(flagI p.dup 8+2*p.qos+flagI p.ret 1)).toNat] _ AZ cZ Z.length Z (by rfl) (by rfl) ho3 hZ3 (hZ.nz z2) (by omega) (by simp;omega) ?_))
  intro A4 c4 w4 ho4 ha4
  have B4:Below w.heap.size w w4:=(alB B3 _).trans (ha4.below w.heap.size (by simp;omega) (by simp [Value.ownBlock];omega))
  have hy4:=hy2.below ((ha4.below w3.heap.size (by simp) (by simp [Value.ownBlock])).mono hw23)
  have hsz4:w.heap.size≤w4.heap.size:=B4.size
  have e4:([UInt8.ofNat (16*p.kind+(flagI p.dup 8+2*p.qos+flagI p.ret 1)).toNat]++Z).length=1+Z.length:=by simp;omega
  have k4:1+Z.length≤5:=by omega
  have HE4:=Lib.hid e4
  clear e4 ho3 hZ3 hZ ha4 r2 r3 hy2
  go_wp2_with (at_builtin;go_must (refine ap_bytes w.heap.size A4 c4 (1+Z.length) ([UInt8.ofNat (16*p.kind+(flagI p.dup 8+2*p.qos+flagI p.ret 1)).toNat]++Z) _ A2 c2 L2.length L2 (by rfl) (by rfl) ho4 hy4 hn2 (by omega) hsz4 ?_))
  intro A5 c5 w5 ho5 ha5
  have B5:=B4.trans (ha5.below w.heap.size hsz4 (fun k hk=>(ho4.lt k hk).1))
  have e5:encP p=[UInt8.ofNat (16*p.kind+(flagI p.dup 8+2*p.qos+flagI p.ret 1)).toNat]++Z++L2:=by rw [←HZ.out,←HBQ.out,HX.out];unfold encP;rw [HL.out]
  have n5:([UInt8.ofNat (16*p.kind+(flagI p.dup 8+2*p.qos+flagI p.ret 1)).toNat]++Z++L2).length=1+Z.length+L2.length:=by simp;omega
  have E5:=Lib.hid e5
  have N5:=Lib.hid n5
  clear e5 n5
  go_wp2_with fail
  go_ret2
  unfold PutPost
  rw [E5.out,N5.out]
  exact ⟨A5,c5,rfl,ho5,B5⟩
end Go.Proofs.Ytnhpacaoobpkhaa
