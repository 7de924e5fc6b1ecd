import Derived.Test.YtnhpacaoobpkhaaGBody
namespace Go.Proofs.Ytnhpacaoobpkhaa
open Go.RowKit Go.Lib
set_option linter.unusedSimpArgs false
set_option linter.unusedVariables false
set_option maxRecDepth 100000
set_option maxHeartbeats 16000000
theorem rbody_con (p:Pk) (s:Sv) (B:Nat) (w:World) (hp:PkAt w B p s) (hB:B≤w.heap.size) (k1:(p.kind==1)=true)
  (t1:p.cli.size≤65535) (t2:p.wtop.size≤65535) (t3:p.wpay.length≤65535) (t4:p.user.size≤65535) (t5:p.pass.length≤65535) (l0:0≤p.level) (l1:p.level≤255) (k0:0≤p.keep) (k9:p.keep≤65535) (q0:0≤p.wqos) (q1:p.wqos≤2) :
  Calls Try.prog 39 #[pkV p s] w (NewPost w (bodyL p)):=by
 have HP:=Lib.hid hp
 have HB:=Lib.hid hB
 clear hp hB
 have hbw:Below w.heap.size w (w.alloc (.cells (pkC p s) 28)):=(Below.refl _ _).alloc (Nat.le_refl _) _
 obtain ⟨g0,g1⟩:=cflags_in p q0 q1
 obtain ⟨f1,f2⟩:=flagI_in p.clean 2 (by omega)
 obtain ⟨f3,f4⟩:=flagI_in p.hw 4 (by omega)
 obtain ⟨f5,f6⟩:=flagI_in p.wret 32 (by omega)
 obtain ⟨f7,f8⟩:=flagI_in p.hp 64 (by omega)
 obtain ⟨f9,f10⟩:=flagI_in p.hu 128 (by omega)
 have x1:IntKind.u8.wrap p.level=p.level:=IntWalk.u8_in _ ⟨l0,l1⟩
 have x2:IntKind.i64.wrap (8*p.wqos)=8*p.wqos:=IntWalk.i64_in _ (by omega)
 have x3:IntKind.i64.wrap (flagI p.clean 2+flagI p.hw 4)=flagI p.clean 2+flagI p.hw 4:=IntWalk.i64_in _ (by omega)
 have x4:IntKind.i64.wrap (flagI p.clean 2+flagI p.hw 4+8*p.wqos)=flagI p.clean 2+flagI p.hw 4+8*p.wqos:=IntWalk.i64_in _ (by omega)
 have x5:IntKind.i64.wrap (flagI p.clean 2+flagI p.hw 4+8*p.wqos+flagI p.wret 32)=flagI p.clean 2+flagI p.hw 4+8*p.wqos+flagI p.wret 32:=IntWalk.i64_in _ (by omega)
 have x6:IntKind.i64.wrap (flagI p.clean 2+flagI p.hw 4+8*p.wqos+flagI p.wret 32+flagI p.hp 64)=flagI p.clean 2+flagI p.hw 4+8*p.wqos+flagI p.wret 32+flagI p.hp 64:=IntWalk.i64_in _ (by omega)
 have cf:flagI p.clean 2+flagI p.hw 4+8*p.wqos+flagI p.wret 32+flagI p.hp 64+flagI p.hu 128=cflagsP p:=by unfold cflagsP;omega
 have x7:IntKind.i64.wrap (flagI p.clean 2+flagI p.hw 4+8*p.wqos+flagI p.wret 32+flagI p.hp 64+flagI p.hu 128)=cflagsP p:=by rw [cf];exact IntWalk.i64_in _ (by omega)
 have x8:IntKind.u8.wrap (cflagsP p)=cflagsP p:=IntWalk.u8_in _ ⟨g0,g1⟩
 have X1:=Lib.hid x1
 have X2:=Lib.hid x2
 have X3:=Lib.hid x3
 have X4:=Lib.hid x4
 have X5:=Lib.hid x5
 have X6:=Lib.hid x6
 have X7:=Lib.hid x7
 have X8:=Lib.hid x8
 clear x1 x2 x3 x4 x5 x6 x7 x8 cf
 go_enter Try.func39,Try.ntmps39
 go_wp2_with fail
 refine wp_region_held_drew (S:=fun W=>W.heap[w.heap.size]? = some (.cells (pkC p s) 28 (0,0))) (by rfl) (heap_alloc_last _ _) ?_
 intro hS
 refine tkH 1 (.pointer (some ⟨w.heap.size,7,none⟩)) hS ?_
 refine tkH 2 (.int .i64 p.level) hS ?_ (hy:=.inl ⟨by rfl,fun W hW=>by simp [execOp,go_sem,row_cells hW]⟩)
 refine tkH 3 (.int .u8 p.level) hS ?_ (hy:=.inl ⟨by rfl,fun W _=>by simp [execOp,go_sem,X1.out]⟩)
 refine tkH 4 (.pointer (some ⟨w.heap.size,9,none⟩)) hS ?_
 refine tkH 5 (.bool p.clean) hS ?_ (hy:=.inl ⟨by rfl,fun W hW=>by simp [execOp,go_sem,row_cells hW]⟩)
 refine tkH 7 (.pointer (some ⟨w.heap.size,11,none⟩)) hS ?_
 refine tkH 8 (.bool p.hw) hS ?_ (hy:=.inl ⟨by rfl,fun W hW=>by simp [execOp,go_sem,row_cells hW]⟩)
 refine tkH 11 (.pointer (some ⟨w.heap.size,12,none⟩)) hS ?_
 refine tkH 12 (.pointer (some ⟨w.heap.size,14,none⟩)) hS ?_
 refine tkH 13 (.int .i64 p.wqos) hS ?_ (hy:=.inl ⟨by rfl,fun W hW=>by simp [execOp,go_sem,row_cells hW]⟩)
 refine tkH 14 (.int .i64 (8*p.wqos)) hS ?_ (hy:=.inl ⟨by rfl,fun W _=>by simp [execOp,go_sem,X2.out]⟩)
 refine tkH 16 (.pointer (some ⟨w.heap.size,12,none⟩)) hS ?_
 refine tkH 17 (.pointer (some ⟨w.heap.size,15,none⟩)) hS ?_
 refine tkH 18 (.bool p.wret) hS ?_ (hy:=.inl ⟨by rfl,fun W hW=>by simp [execOp,go_sem,row_cells hW]⟩)
 refine tkH 21 (.pointer (some ⟨w.heap.size,17,none⟩)) hS ?_
 refine tkH 22 (.bool p.hp) hS ?_ (hy:=.inl ⟨by rfl,fun W hW=>by simp [execOp,go_sem,row_cells hW]⟩)
 refine tkH 25 (.pointer (some ⟨w.heap.size,16,none⟩)) hS ?_
 refine tkH 26 (.bool p.hu) hS ?_ (hy:=.inl ⟨by rfl,fun W hW=>by simp [execOp,go_sem,row_cells hW]⟩)
 refine wpAnyH_ready (rs:=[0]) (by kernel_rfl) (by simp) (AllReadyH.cons (by rfl) ?_ AllReadyH.nil)
 intro K' hK
 rw [if_pos (by rfl)]
 go_wp2_with fail
 refine (rlump_any w.heap.size none 0 0 [] ⟨#[77,81,84,84]⟩ _ (World.ownsRow_nil _ _ _ _) rfl (by simp) (by simp) (by decide)).mono ?_
 intro e w1 hpost
 obtain ⟨A1,c1,L1,HL1,rfl,ho1,ha1,hz1⟩:=hpost.gen
 have n1:L1.length≤6:=by rw [hz1];simp [pairL]
 obtain ⟨r1,m1⟩:=ha1.row hS (by simp [Value.ownBlock])
 have b1:w.heap.size≤w1.heap.size:=Nat.le_trans (by simp) ha1.grew.size
 have B1:Below w.heap.size w w1:=(Below.drew hbw).trans (ha1.below _ (by simp) (by intro k hk;simp [Value.ownBlock] at hk))
 clear hpost ha1 hz1
 go_wp2_with fail
 refine hK.out _ _ r1 ?_
 clear hK K' hS
 intro hS
 refine wpAnyH_ready (rs:=[6]) (by kernel_rfl) (by simp) (AllReadyH.cons (by rfl) ?_ AllReadyH.nil)
 intro K' hK
 rw [if_pos (by rfl)]
 go_wp2_with fail
 refine (rbit_any _ _ _).mono ?_
 rintro e w' ⟨rfl,rfl⟩
 go_wp2_with fail
 refine hK.out _ _ hS ?_
 clear hK K' hS
 intro hS
 refine wpAnyH_ready (rs:=[9]) (by kernel_rfl) (by simp) (AllReadyH.cons (by rfl) ?_ AllReadyH.nil)
 intro K' hK
 rw [if_pos (by rfl)]
 go_wp2_with fail
 refine (rbit_any _ _ _).mono ?_
 rintro e w' ⟨rfl,rfl⟩
 go_wp2_with fail
 refine hK.out _ _ hS ?_
 clear hK K' hS
 intro hS
 refine tkH 10 (.int .i64 (flagI p.clean 2+flagI p.hw 4)) hS ?_ (hy:=.inl ⟨by rfl,fun W _=>by simp [execOp,go_sem,X3.out]⟩)
 refine tkH 15 (.int .i64 (flagI p.clean 2+flagI p.hw 4+8*p.wqos)) hS ?_ (hy:=.inl ⟨by rfl,fun W _=>by simp [execOp,go_sem,X4.out]⟩)
 refine wpAnyH_ready (rs:=[19]) (by kernel_rfl) (by simp) (AllReadyH.cons (by rfl) ?_ AllReadyH.nil)
 intro K' hK
 rw [if_pos (by rfl)]
 go_wp2_with fail
 refine (rbit_any _ _ _).mono ?_
 rintro e w' ⟨rfl,rfl⟩
 go_wp2_with fail
 refine hK.out _ _ hS ?_
 clear hK K' hS
 intro hS
 refine tkH 20 (.int .i64 (flagI p.clean 2+flagI p.hw 4+8*p.wqos+flagI p.wret 32)) hS ?_ (hy:=.inl ⟨by rfl,fun W _=>by simp [execOp,go_sem,X5.out]⟩)
 refine wpAnyH_ready (rs:=[23]) (by kernel_rfl) (by simp) (AllReadyH.cons (by rfl) ?_ AllReadyH.nil)
 intro K' hK
 rw [if_pos (by rfl)]
 go_wp2_with fail
 refine (rbit_any _ _ _).mono ?_
 rintro e w' ⟨rfl,rfl⟩
 go_wp2_with fail
 refine hK.out _ _ hS ?_
 clear hK K' hS
 intro hS
 refine tkH 24 (.int .i64 (flagI p.clean 2+flagI p.hw 4+8*p.wqos+flagI p.wret 32+flagI p.hp 64)) hS ?_ (hy:=.inl ⟨by rfl,fun W _=>by simp [execOp,go_sem,X6.out]⟩)
 refine wpAnyH_ready (rs:=[27]) (by kernel_rfl) (by simp) (AllReadyH.cons (by rfl) ?_ AllReadyH.nil)
 intro K' hK
 rw [if_pos (by rfl)]
 go_wp2_with fail
 refine (rbit_any _ _ _).mono ?_
 rintro e w' ⟨rfl,rfl⟩
 go_wp2_with fail
 refine hK.out _ _ hS ?_
 clear hK K' hS
 intro hS
 refine tkH 28 (.int .i64 (cflagsP p)) hS ?_ (hy:=.inl ⟨by rfl,fun W _=>by simp [execOp,go_sem,X7.out]⟩)
 refine tkH 29 (.int .u8 (cflagsP p)) hS ?_ (hy:=.inl ⟨by rfl,fun W _=>by simp [execOp,go_sem,X8.out]⟩)
 refine wpAnyH_ready (rs:=[30]) (by kernel_rfl) (by simp) (AllReadyH.cons (by rfl) ?_ AllReadyH.nil)
 intro K' hK
 rw [if_pos (by rfl)]
 go_wp2_with fail
 refine hK.out _ _ (heap_keep hS) ?_
 clear hK K' hS
 intro hS
 refine wpAnyH_ready (rs:=[31]) (by kernel_rfl) (by simp) (AllReadyH.cons (by rfl) ?_ AllReadyH.nil)
 intro K' hK
 rw [if_pos (by rfl)]
 refine ap_bytes_wp w.heap.size A1 c1 L1.length L1 (w1.heap.size+1) (some ⟨w1.heap.size,0,none⟩) 2 2 [UInt8.ofNat p.level.toNat,UInt8.ofNat (cflagsP p).toNat] (by rfl) (by rfl) (ho1.alloc _) (b2at _ (w1.heap.size) (by rfl) [UInt8.ofNat p.level.toNat,UInt8.ofNat (cflagsP p).toNat] _ (two_cells l0 l1 g0 g1) (by simp [maxLen])) (by simp) (by omega) (by simp;omega) ?_
 intro A2 c2 w2 ho2 ha2
 obtain ⟨r2,m2⟩:=ha2.row hS m1
 refine hK.out _ _ r2 ?_
 clear hK K' hS
 intro hS
 refine wpAnyH_ready (rs:=[32]) (by kernel_rfl) (by simp) (AllReadyH.cons (by rfl) ?_ AllReadyH.nil)
 intro K' hK
 rw [if_pos (by rfl)]
 go_wp2_with fail
 refine hK.out _ _ hS ?_
 clear hK K' hS
 intro hS
 refine wpAnyH_done (by kernel_rfl) ?_ _
 have B2:=(alB B1 (.cells _ _)).trans (ha2.below w.heap.size (by simp;omega) (fun k hk=>(ho1.lt k hk).1))
 have b2:w.heap.size≤w2.heap.size:=B2.size
 have e2:(L1++[UInt8.ofNat p.level.toNat,UInt8.ofNat (cflagsP p).toNat]).length=L1.length+2:=by simp
 have n2:(L1++[UInt8.ofNat p.level.toNat,UInt8.ofNat (cflagsP p).toNat]).length≤8:=by omega
 rw [←e2] at ho2 m2 ⊢
 clear hS e2 ha2
 generalize hL2:L1++[UInt8.ofNat p.level.toNat,UInt8.ofNat (cflagsP p).toNat]=L2 at ho2 m2 n2 ⊢
 have HL2:=Lib.hid hL2
 clear hL2
 have C2:=row_cells r2
 go_wp2_with fail
 refine wp_region_held_drew (S:=fun W=>W.heap[w.heap.size]? = some (.cells (pkC p s) 28 (0,0))) (by rfl) r2 ?_
 intro hS
 have ho3:=own_below ho2 (Below.drew (Below.refl _ _))
 have B3:=Below.drew B2
 have b3:w.heap.size≤w2.drew.heap.size:=b2
 have r3:w2.drew.heap[w.heap.size]? = some (.cells (pkC p s) 28 (0,0)):=r2
 have m3:=m2
 refine tkH 0 (.slice A2 L2.length c2) hS ?_ (hy:=.inl ⟨by rfl,fun W _=>rfl⟩)
 refine tkH 1 (.pointer (some ⟨w.heap.size,10,none⟩)) hS ?_
 refine tkH 2 (.int .i64 p.keep) hS ?_ (hy:=.inl ⟨by rfl,fun W hW=>by simp [execOp,go_sem,row_cells hW]⟩)
 refine tkH 4 (.pointer (some ⟨w.heap.size,8,none⟩)) hS ?_
 refine tkH 5 (.string p.cli) hS ?_ (hy:=.inl ⟨by rfl,fun W hW=>by simp [execOp,go_sem,row_cells hW]⟩)
 refine wpAnyH_ready (rs:=[3]) (by kernel_rfl) (by simp) (AllReadyH.cons (by rfl) ?_ AllReadyH.nil)
 intro K' hK
 rw [if_pos (by rfl)]
 go_wp2_with fail
 refine (two_any w.heap.size A2 c2 L2.length L2 p.keep _ ho3 rfl (by omega) b3 k0 k9).mono ?_
 intro e w4 hpost
 obtain ⟨A4,c4,L4,HL4,rfl,ho4,ha4,hz4⟩:=hpost.gen
 have n4:L4.length≤10:=by rw [hz4];simp [pairL];omega
 obtain ⟨r4,m4⟩:=ha4.row r3 m3
 have b4:w.heap.size≤w4.heap.size:=Nat.le_trans b3 ha4.grew.size
 have B4:Below w.heap.size w w4:=B3.trans (ha4.below _ b3 (fun k hk=>(ho3.lt k hk).1))
 clear hpost ha4 hz4
 go_wp2_with fail
 refine hK.out _ _ r4 ?_
 clear hK K' hS
 intro hS
 refine wpAnyH_ready (rs:=[6]) (by kernel_rfl) (by simp) (AllReadyH.cons (by rfl) ?_ AllReadyH.nil)
 intro K' hK
 rw [if_pos (by rfl)]
 go_wp2_with fail
 refine (rlump_any w.heap.size A4 c4 L4.length L4 p.cli _ ho4 rfl (by omega) b4 t1).mono ?_
 intro e w5 hpost
 obtain ⟨A5,c5,L5,HL5,rfl,ho5,ha5,hz5⟩:=hpost.gen
 have n5:L5.length≤65600:=by rw [hz5];simp [pairL];omega
 obtain ⟨r5,m5⟩:=ha5.row r4 m4
 have b5:w.heap.size≤w5.heap.size:=Nat.le_trans b4 ha5.grew.size
 have B5:Below w.heap.size w w5:=B4.trans (ha5.below _ b4 (fun k hk=>(ho4.lt k hk).1))
 clear hpost ha5 hz5
 go_wp2_with fail
 refine hK.out _ _ r5 ?_
 clear hK K' hS
 intro hS
 refine wpAnyH_ready (rs:=[7]) (by kernel_rfl) (by simp) (AllReadyH.cons (by rfl) ?_ AllReadyH.nil)
 intro K' hK
 rw [if_pos (by rfl)]
 go_wp2_with fail
 refine hK.out _ _ hS ?_
 clear hK K' hS
 intro hS
 refine wpAnyH_done (by kernel_rfl) ?_ _
 clear hS
 have C5:=row_cells r5
 rcases vw:p.hw with _ | _
 ·rcases vu:p.hu with _ | _
  ·rcases vp:p.hp with _ | _
   ·have E:Hid (bodyL p=L5):=Lib.hid (by rw [←HL5.out,←HL4.out,←HL2.out,←HL1.out];simp only [bodyL,connL,lumpsL,textL,lumpL,k1,vw,vu,vp,if_true,if_false,reduceIte,Bool.false_eq_true,List.append_assoc,List.nil_append,List.append_nil,List.cons_append];rfl)
    go_wp2_with fail
    go_ret
    unfold NewPost
    rw [E.out]
    exact ⟨A5,c5,rfl,ho5,B5⟩
   ·have cvp:=(HP.out.pass.to HB.out B5).conv
    go_wp2_with fail
    refine (rlump_any w.heap.size A5 c5 L5.length L5 ⟨p.pass.toArray⟩ _ ho5 rfl (by omega) b5 (by show (Array.size _)≤65535;simpa using t5)).mono ?_
    intro e w6 hpost
    obtain ⟨A6,c6,L6,HL6,rfl,ho6,ha6,hz6⟩:=hpost.gen
    have n6:L6.length≤131200:=by rw [hz6];simp [pairL];omega
    obtain ⟨r6,m6⟩:=ha6.row r5 m5
    have b6:w.heap.size≤w6.heap.size:=Nat.le_trans b5 ha6.grew.size
    have B6:Below w.heap.size w w6:=B5.trans (ha6.below _ b5 (fun k hk=>(ho5.lt k hk).1))
    clear hpost ha6 hz6
    have C6:=row_cells r6
    have E:Hid (bodyL p=L6):=Lib.hid (by rw [←HL6.out,←HL5.out,←HL4.out,←HL2.out,←HL1.out];simp only [bodyL,connL,lumpsL,textL,lumpL,k1,vw,vu,vp,if_true,if_false,reduceIte,Bool.false_eq_true,List.append_assoc,List.nil_append,List.append_nil,List.cons_append];rfl)
    go_wp2_with fail
    go_ret
    unfold NewPost
    rw [E.out]
    exact ⟨A6,c6,rfl,ho6,B6⟩
  ·go_wp2_with fail
   refine (rlump_any w.heap.size A5 c5 L5.length L5 p.user _ ho5 rfl (by omega) b5 t4).mono ?_
   intro e w6 hpost
   obtain ⟨A6,c6,L6,HL6,rfl,ho6,ha6,hz6⟩:=hpost.gen
   have n6:L6.length≤131200:=by rw [hz6];simp [pairL];omega
   obtain ⟨r6,m6⟩:=ha6.row r5 m5
   have b6:w.heap.size≤w6.heap.size:=Nat.le_trans b5 ha6.grew.size
   have B6:Below w.heap.size w w6:=B5.trans (ha6.below _ b5 (fun k hk=>(ho5.lt k hk).1))
   clear hpost ha6 hz6
   have C6:=row_cells r6
   rcases vp:p.hp with _ | _
   ·have E:Hid (bodyL p=L6):=Lib.hid (by rw [←HL6.out,←HL5.out,←HL4.out,←HL2.out,←HL1.out];simp only [bodyL,connL,lumpsL,textL,lumpL,k1,vw,vu,vp,if_true,if_false,reduceIte,Bool.false_eq_true,List.append_assoc,List.nil_append,List.append_nil,List.cons_append];rfl)
    go_wp2_with fail
    go_ret
    unfold NewPost
    rw [E.out]
    exact ⟨A6,c6,rfl,ho6,B6⟩
   ·have cvp:=(HP.out.pass.to HB.out B6).conv
    go_wp2_with fail
    refine (rlump_any w.heap.size A6 c6 L6.length L6 ⟨p.pass.toArray⟩ _ ho6 rfl (by omega) b6 (by show (Array.size _)≤65535;simpa using t5)).mono ?_
    intro e w7 hpost
    obtain ⟨A7,c7,L7,HL7,rfl,ho7,ha7,hz7⟩:=hpost.gen
    have n7:L7.length≤196800:=by rw [hz7];simp [pairL];omega
    obtain ⟨r7,m7⟩:=ha7.row r6 m6
    have b7:w.heap.size≤w7.heap.size:=Nat.le_trans b6 ha7.grew.size
    have B7:Below w.heap.size w w7:=B6.trans (ha7.below _ b6 (fun k hk=>(ho6.lt k hk).1))
    clear hpost ha7 hz7
    have C7:=row_cells r7
    have E:Hid (bodyL p=L7):=Lib.hid (by rw [←HL7.out,←HL6.out,←HL5.out,←HL4.out,←HL2.out,←HL1.out];simp only [bodyL,connL,lumpsL,textL,lumpL,k1,vw,vu,vp,if_true,if_false,reduceIte,Bool.false_eq_true,List.append_assoc,List.nil_append,List.append_nil,List.cons_append];rfl)
    go_wp2_with fail
    go_ret
    unfold NewPost
    rw [E.out]
    exact ⟨A7,c7,rfl,ho7,B7⟩
 ·go_wp2_with fail
  refine wp_region_held_drew (S:=fun W=>W.heap[w.heap.size]? = some (.cells (pkC p s) 28 (0,0))∧BytesAt W B (.slice s.wA p.wpay.length s.wC) p.wpay) (by rfl) ⟨r5,HP.out.wpay.to HB.out (Below.drew B5)⟩ ?_
  intro hS
  have ho6:=own_below ho5 (Below.drew (Below.refl _ _))
  have B6:=Below.drew B5
  have b6:w.heap.size≤w5.drew.heap.size:=b5
  have r6:w5.drew.heap[w.heap.size]? = some (.cells (pkC p s) 28 (0,0)):=r5
  have m6:=m5
  refine tkH 0 (.slice A5 L5.length c5) hS ?_ (hy:=.inl ⟨by rfl,fun W _=>rfl⟩)
  refine tkH 1 (.pointer (some ⟨w.heap.size,12,none⟩)) hS ?_
  refine tkH 2 (.pointer (some ⟨w.heap.size,12,none⟩)) hS ?_
  refine tkH 3 (.string p.wtop) hS ?_ (hy:=.inl ⟨by rfl,fun W hW=>by simp [execOp,go_sem,row_cells hW.1]⟩)
  refine tkH 5 (.pointer (some ⟨w.heap.size,12,none⟩)) hS ?_
  refine tkH 6 (.pointer (some ⟨w.heap.size,13,none⟩)) hS ?_
  refine tkH 7 (.slice s.wA p.wpay.length s.wC) hS ?_ (hy:=.inl ⟨by rfl,fun W hW=>by simp [execOp,go_sem,row_cells hW.1]⟩)
  refine tkH 8 (.string ⟨p.wpay.toArray⟩) hS ?_ (hy:=.inl ⟨by rfl,fun W hW=>by simp [execOp,go_sem,hW.2.conv]⟩)
  refine wpAnyH_ready (rs:=[4]) (by kernel_rfl) (by simp) (AllReadyH.cons (by rfl) ?_ AllReadyH.nil)
  intro K' hK
  rw [if_pos (by rfl)]
  go_wp2_with fail
  refine (rlump_any w.heap.size A5 c5 L5.length L5 p.wtop _ ho6 rfl (by omega) b6 t2).mono ?_
  intro e w7 hpost
  obtain ⟨A7,c7,L7,HL7,rfl,ho7,ha7,hz7⟩:=hpost.gen
  have n7:L7.length≤131200:=by rw [hz7];simp [pairL];omega
  obtain ⟨r7,m7⟩:=ha7.row r6 m6
  have b7:w.heap.size≤w7.heap.size:=Nat.le_trans b6 ha7.grew.size
  have B7:Below w.heap.size w w7:=B6.trans (ha7.below _ b6 (fun k hk=>(ho6.lt k hk).1))
  clear hpost ha7 hz7
  go_wp2_with fail
  refine hK.out _ _ ⟨r7,HP.out.wpay.to HB.out B7⟩ ?_
  clear hK K' hS
  intro hS
  refine wpAnyH_ready (rs:=[9]) (by kernel_rfl) (by simp) (AllReadyH.cons (by rfl) ?_ AllReadyH.nil)
  intro K' hK
  rw [if_pos (by rfl)]
  go_wp2_with fail
  refine (rlump_any w.heap.size A7 c7 L7.length L7 ⟨p.wpay.toArray⟩ _ ho7 rfl (by omega) b7 (by show (Array.size _)≤65535;simpa using t3)).mono ?_
  intro e w8 hpost
  obtain ⟨A8,c8,L8,HL8,rfl,ho8,ha8,hz8⟩:=hpost.gen
  have n8:L8.length≤196800:=by rw [hz8];simp [pairL];omega
  obtain ⟨r8,m8⟩:=ha8.row r7 m7
  have b8:w.heap.size≤w8.heap.size:=Nat.le_trans b7 ha8.grew.size
  have B8:Below w.heap.size w w8:=B7.trans (ha8.below _ b7 (fun k hk=>(ho7.lt k hk).1))
  clear hpost ha8 hz8
  go_wp2_with fail
  refine hK.out _ _ ⟨r8,HP.out.wpay.to HB.out B8⟩ ?_
  clear hK K' hS
  intro hS
  refine wpAnyH_ready (rs:=[10]) (by kernel_rfl) (by simp) (AllReadyH.cons (by rfl) ?_ AllReadyH.nil)
  intro K' hK
  rw [if_pos (by rfl)]
  go_wp2_with fail
  refine hK.out _ _ hS ?_
  clear hK K' hS
  intro hS
  refine wpAnyH_done (by kernel_rfl) ?_ _
  clear hS
  have C8:=row_cells r8
  rcases vu:p.hu with _ | _
  ·rcases vp:p.hp with _ | _
   ·have E:Hid (bodyL p=L8):=Lib.hid (by rw [←HL8.out,←HL7.out,←HL5.out,←HL4.out,←HL2.out,←HL1.out];simp only [bodyL,connL,lumpsL,textL,lumpL,k1,vw,vu,vp,if_true,if_false,reduceIte,Bool.false_eq_true,List.append_assoc,List.nil_append,List.append_nil,List.cons_append];rfl)
    go_wp2_with fail
    go_ret
    unfold NewPost
    rw [E.out]
    exact ⟨A8,c8,rfl,ho8,B8⟩
   ·have cvp:=(HP.out.pass.to HB.out B8).conv
    go_wp2_with fail
    refine (rlump_any w.heap.size A8 c8 L8.length L8 ⟨p.pass.toArray⟩ _ ho8 rfl (by omega) b8 (by show (Array.size _)≤65535;simpa using t5)).mono ?_
    intro e w9 hpost
    obtain ⟨A9,c9,L9,HL9,rfl,ho9,ha9,hz9⟩:=hpost.gen
    have n9:L9.length≤262400:=by rw [hz9];simp [pairL];omega
    obtain ⟨r9,m9⟩:=ha9.row r8 m8
    have b9:w.heap.size≤w9.heap.size:=Nat.le_trans b8 ha9.grew.size
    have B9:Below w.heap.size w w9:=B8.trans (ha9.below _ b8 (fun k hk=>(ho8.lt k hk).1))
    clear hpost ha9 hz9
    have C9:=row_cells r9
    have E:Hid (bodyL p=L9):=Lib.hid (by rw [←HL9.out,←HL8.out,←HL7.out,←HL5.out,←HL4.out,←HL2.out,←HL1.out];simp only [bodyL,connL,lumpsL,textL,lumpL,k1,vw,vu,vp,if_true,if_false,reduceIte,Bool.false_eq_true,List.append_assoc,List.nil_append,List.append_nil,List.cons_append];rfl)
    go_wp2_with fail
    go_ret
    unfold NewPost
    rw [E.out]
    exact ⟨A9,c9,rfl,ho9,B9⟩
  ·go_wp2_with fail
   refine (rlump_any w.heap.size A8 c8 L8.length L8 p.user _ ho8 rfl (by omega) b8 t4).mono ?_
   intro e w9 hpost
   obtain ⟨A9,c9,L9,HL9,rfl,ho9,ha9,hz9⟩:=hpost.gen
   have n9:L9.length≤262400:=by rw [hz9];simp [pairL];omega
   obtain ⟨r9,m9⟩:=ha9.row r8 m8
   have b9:w.heap.size≤w9.heap.size:=Nat.le_trans b8 ha9.grew.size
   have B9:Below w.heap.size w w9:=B8.trans (ha9.below _ b8 (fun k hk=>(ho8.lt k hk).1))
   clear hpost ha9 hz9
   have C9:=row_cells r9
   rcases vp:p.hp with _ | _
   ·have E:Hid (bodyL p=L9):=Lib.hid (by rw [←HL9.out,←HL8.out,←HL7.out,←HL5.out,←HL4.out,←HL2.out,←HL1.out];simp only [bodyL,connL,lumpsL,textL,lumpL,k1,vw,vu,vp,if_true,if_false,reduceIte,Bool.false_eq_true,List.append_assoc,List.nil_append,List.append_nil,List.cons_append];rfl)
    go_wp2_with fail
    go_ret
    unfold NewPost
    rw [E.out]
    exact ⟨A9,c9,rfl,ho9,B9⟩
   ·have cvp:=(HP.out.pass.to HB.out B9).conv
    go_wp2_with fail
    refine (rlump_any w.heap.size A9 c9 L9.length L9 ⟨p.pass.toArray⟩ _ ho9 rfl (by omega) b9 (by show (Array.size _)≤65535;simpa using t5)).mono ?_
    intro e w10 hpost
    obtain ⟨A10,c10,L10,HL10,rfl,ho10,ha10,hz10⟩:=hpost.gen
    have n10:L10.length≤328000:=by rw [hz10];simp [pairL];omega
    obtain ⟨r10,m10⟩:=ha10.row r9 m9
    have b10:w.heap.size≤w10.heap.size:=Nat.le_trans b9 ha10.grew.size
    have B10:Below w.heap.size w w10:=B9.trans (ha10.below _ b9 (fun k hk=>(ho9.lt k hk).1))
    clear hpost ha10 hz10
    have C10:=row_cells r10
    have E:Hid (bodyL p=L10):=Lib.hid (by rw [←HL10.out,←HL9.out,←HL8.out,←HL7.out,←HL5.out,←HL4.out,←HL2.out,←HL1.out];simp only [bodyL,connL,lumpsL,textL,lumpL,k1,vw,vu,vp,if_true,if_false,reduceIte,Bool.false_eq_true,List.append_assoc,List.nil_append,List.append_nil,List.cons_append];rfl)
    go_wp2_with fail
    go_ret
    unfold NewPost
    rw [E.out]
    exact ⟨A10,c10,rfl,ho10,B10⟩
structure BF (p:Pk):Prop where
 kind:1≤p.kind∧p.kind≤14
 qos:0≤p.qos∧p.qos≤2
 id:0≤p.id∧p.id≤65535
 level:0≤p.level∧p.level≤255
 keep:0≤p.keep∧p.keep≤65535
 wqos:0≤p.wqos∧p.wqos≤2
 code:0≤p.code∧p.code≤255
 top:p.top.size≤65535
 pay:p.pay.length≤1000000
 cli:p.cli.size≤65535
 wtop:p.wtop.size≤65535
 wpay:p.wpay.length≤65535
 user:p.user.size≤65535
 pass:p.pass.length≤65535
 subs:p.subs.length≤65535
 sub:∀x ∈ p.subs,x.1.size≤65535∧0≤x.2∧x.2≤255
 subsL:∀q,(subsL q p.subs).length≤100000
 codes:p.codes.length≤65535
 cod:∀x ∈ p.codes,0≤x∧x≤255
 ack:p.kind=4∨p.kind=5∨p.kind=6∨p.kind=7∨p.kind=11→p.subs=[]∧p.codes=[]
 sub8:p.kind=8∨p.kind=10→p.codes=[]
 cod9:p.kind=9→p.subs=[]
theorem bf_right (p:Pk)(h:rightP p=true):BF p:=by
 have f:=right_f p h
 simp only [rightP,Bool.and_eq_true,decide_eq_true_iff] at h
 obtain ⟨⟨h1,_⟩,_⟩:=h
 have hs:p.subs=(wrP p).subs:=congrArg Pk.subs h1
 have hc:p.codes=(wrP p).codes:=congrArg Pk.codes h1
 refine ⟨f.kind,f.qos,f.id,f.level,f.keep,f.wqos,⟨f.code.1,by have:=f.code;omega⟩,f.top,by have:=f.pay;omega,f.cli,f.wtop,f.wpay,f.user,f.pass,f.subs,f.sub,f.subsL,f.codes,f.cod,?_,?_,?_⟩
 ·rintro (q | q | q | q | q) <;> (rw [hs,hc];simp [wrP,q,pk0])
 ·rintro (q | q) <;> (rw [hc];simp [wrP,q,pk0])
 ·intro q
  rw [hs];simp [wrP,q,pk0]
theorem rbody_any (p:Pk)(s:Sv)(B:Nat)(w:World)(hp:PkAt w B p s)(hB:B≤w.heap.size)(hn:s.pA=none→s.pC=0)(f:BF p) :
  Calls Try.prog 39 #[pkV p s] w (NewPost w (bodyL p)):=by
 have hk:=f.kind
 rcases k1:(p.kind==1) with _ | _
 rotate_left 1
 ·exact rbody_con p s B w hp hB k1 f.cli f.wtop f.wpay f.user f.pass f.level.1 f.level.2 f.keep.1 f.keep.2 f.wqos.1 f.wqos.2
 rcases k2:(p.kind==2) with _ | _
 rotate_left 1
 ·exact rbody_ca p s w k1 k2 f.code
 rcases k3:(p.kind==3) with _ | _
 rotate_left 1
 ·exact rbody_pub p s B w hp hB hn k1 k2 k3 f.qos.1 f.top f.id f.pay
 by_cases h:12≤p.kind
 ·exact rbody_none p s w k1 k2 k3 ⟨h,hk.2⟩
 have n12:∀k:Int,12≤k→(p.kind==k)=false:=fun k hk2=>by simp;omega
 have r:=rbody_ack p s (p.kind==8) B w hp hB k1 k2 k3 (n12 12 (by omega)) (n12 13 (by omega)) (n12 14 (by omega)) rfl f.id f.subs f.sub (f.subsL _) f.codes f.cod
 have e:bodyL p=pairL p.id++subsL (p.kind==8) p.subs++codesL p.codes:=by
  have k1':p.kind≠1:=by simpa using k1
  have k2':p.kind≠2:=by simpa using k2
  have k3':p.kind≠3:=by simpa using k3
  rcases (show p.kind=4∨p.kind=5∨p.kind=6∨p.kind=7∨p.kind=11∨p.kind=8∨p.kind=10∨p.kind=9 by omega) with q | q | q | q | q | q | q | q
  iterate 5
   ·obtain ⟨e1,e2⟩:=f.ack (by omega)
    rw [e1,e2];simp [bodyL,q,subsL,codesL]
  ·rw [f.sub8 (by omega)];simp [bodyL,q,codesL]
  ·rw [f.sub8 (by omega)];simp [bodyL,q,codesL]
  ·rw [f.cod9 q];simp [bodyL,q,subsL]
 rw [e]
 exact r
end Go.Proofs.Ytnhpacaoobpkhaa
