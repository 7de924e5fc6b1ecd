import Derived.Test.YtnhpacaoobpkhaaGRight
import Derived.Test.YtnhpacaoobpkhaaAdd3
import Derived.Test.YtnhpacaoobpkhaaGNum
namespace Go.Proofs.Ytnhpacaoobpkhaa
open Go.RowKit Go.Lib
set_option maxRecDepth 100000
set_option maxHeartbeats 8000000
def bodyL (p:Pk):List UInt8 :=
 if p.kind==1 then connL p
 else if p.kind==2 then [UInt8.ofNat (flagI p.pres 1).toNat,UInt8.ofNat p.code.toNat]
 else if p.kind==3 then pubL p
 else if p.kind==4 || p.kind==5 || p.kind==6 || p.kind==7 || p.kind==11 then pairL p.id
 else if p.kind==8 then pairL p.id++subsL true p.subs
 else if p.kind==10 then pairL p.id++subsL false p.subs
 else if p.kind==9 then pairL p.id++codesL p.codes
 else []
def encP (p:Pk):List UInt8:=([UInt8.ofNat (headP p).toNat]++putL (lenP p))++bodyL p
structure NilOk (s:Sv):Prop where
 p:s.pA=none→s.pC=0
 w:s.wA=none→s.wC=0
 u:s.uA=none→s.uC=0
theorem own_new (base:Nat)(w:World)(l:List UInt8)(C:Array Value)(hC:C=(Lib.byteCells l).toArray)(hb:base≤w.heap.size)(hm:l.length≤maxLen) :
  (w.alloc (.cells C 5)).ownsRow base 5 1 (.slice (some ⟨w.heap.size,0,none⟩) l.length l.length) l.length (Lib.byteCells l) :=
 ⟨by rw [Lib.byteCells_length];omega,.inr ⟨w.heap.size,l.length,C,rfl,hb,heap_alloc_last _ _,Nat.le_refl _,hm,by rw [hC];simp [Lib.byteCells_length],by rw [hC,Nat.mul_one,List.take_of_length_le (by simp [Lib.byteCells_length])]⟩⟩
def NewPost (w:World) (l:List UInt8) (e:Ending) (w':World):Prop :=
 ∃(A:Option Addr) (c:Nat),e=.returned (.slice A l.length c)∧w'.ownsRow w.heap.size 5 1 (.slice A l.length c) l.length (Lib.byteCells l)∧Below w.heap.size w w'
theorem putL_pos (n:Int)(h0:0≤n)(h1:n≤8192):1≤(putL n).length:=by
 unfold putL
 rw [List.length_map]
 by_cases h:n≤127
 ·rw [put_1 h0 h];simp
 ·rw [put_2 (by omega) (by omega)];simp
theorem head_in (p:Pk)(f:RF p):0≤headP p∧headP p≤255:=by
 obtain ⟨a1,b1⟩:=flagI_in p.dup 8 (by omega)
 obtain ⟨a2,b2⟩:=flagI_in p.ret 1 (by omega)
 obtain ⟨a3,b3⟩:=f.kind
 obtain ⟨a4,b4⟩:=f.qos
 unfold headP
 split
 ·omega
 ·split <;> omega
theorem BytesAt.nz {w:World}{B:Nat}{A:Option Addr}{n c:Nat}{l:List UInt8}(h:BytesAt w B (.slice A n c) l)(hl:1≤l.length):A=none→c=0:=by
 intro e
 obtain ⟨A',c',hv,_,_,hn,_⟩:=h
 injection hv with e1 _ _
 have:=hn (by rw [←e1];exact e)
 rw [this] at hl
 simp at hl
theorem bytesOf_any (p:Pk)(s:Sv)(B:Nat)(w:World)(hp:PkAt w B p s)(hB:B≤w.heap.size)(ok:PkOk p)(hn:NilOk s)(f:RF p) :
  Calls Try.prog 37 #[pkV p s] w (NewPost w (encP p)):=by
 have HP:=Lib.hid hp
 have OK:=Lib.hid ok
 have HF:=Lib.hid f
 have HN:=Lib.hid hn
 obtain ⟨g1,g2⟩:=f.len
 obtain ⟨g3,g4⟩:=head_in p f
 have hbw:Below w.heap.size w (w.alloc (.cells (pkC p s) 28)):=(Below.refl _ _).alloc (Nat.le_refl _) _
 clear hp ok hn f
 go_enter Try.func37,Try.ntmps37
 go_wp2_with ((with_reducible show wpList _ _ _ (⟨_,.load 28 _,_,_,_,_⟩ :: _) _ _);refine ld_pk (w.heap.size) (by rfl) (by rfl) _ _ _ (by (first | assumption | exact heap_alloc_last _ _ | (repeat (first | assumption | exact heap_alloc_last _ _ | exact heap_last2 _ _ _ | refine heap_keep ?_ | refine heap_below (by assumption) ?_)))) (by rfl) ?_)
 refine (len_any p s B _ (HP.out.to hB hbw) (by simp;omega) OK.out).mono ?_
 rintro e w1 ⟨rfl,hb1⟩
 have r1:=heap_below hb1 (heap_alloc_last _ _)
 have B1:Below w.heap.size w w1:=thn hbw hb1
 go_wp2_with fail
 refine (put_any (lenP p) (by omega) (by omega) w1).mono ?_
 rintro e w2 ⟨AZ,cZ,rfl,hZ,hb2⟩
 have r2:=heap_below hb2 r1
 have B2:Below w.heap.size w w2:=thn B1 hb2
 have z1:=putL_len (lenP p)
 have z2:=putL_pos (lenP p) g1 g2
 have HZ0:=Lib.hid (rfl:putL (lenP p)=putL (lenP p))
 generalize hZe:putL (lenP p)=Z at hZ z1 z2 ⊢
 have HZ:=Lib.hid hZe
 clear hZe HZ0 r1 hb1
 go_wp2_with ((with_reducible show wpList _ _ _ (⟨_,.load 28 _,_,_,_,_⟩ :: _) _ _);refine ld_pk (w.heap.size) (by rfl) (by rfl) _ _ _ (by (first | assumption | exact heap_alloc_last _ _ | (repeat (first | assumption | exact heap_alloc_last _ _ | exact heap_last2 _ _ _ | refine heap_keep ?_ | refine heap_below (by assumption) ?_)))) (by rfl) ?_)
 refine (head_any p s w2 (by have:=HF.out.kind;omega) (by have:=HF.out.kind;omega) HF.out.qos.1 (by have:=HF.out.qos;omega)).mono ?_
 rintro e w3 ⟨rfl,hb3⟩
 have r3:=heap_below hb3 r2
 have B3:Below w.heap.size w w3:=thn B2 hb3
 have hg3:w.heap.size<w3.heap.size:=(Array.getElem?_eq_some_iff.1 r3).1
 have ho3:=own_new w.heap.size w3 [UInt8.ofNat (headP p).toNat] #[.int .u8 (headP p)] (one_cell g3 g4) B3.size (by simp [maxLen])
 have hZ3:=(hZ.on hb3).on ((Below.refl _ _).alloc (Nat.le_refl _) (.cells #[.int .u8 (headP p)] 5 (0,0)))
 go_wp2_with (at_builtin;go_must (refine ap_bytes w.heap.size (some ⟨w3.heap.size,0,none⟩) 1 1 [UInt8.ofNat (headP p).toNat] _ AZ cZ Z.length Z (by rfl) (by rfl) ho3 hZ3 (hZ.nz z2) (by omega) (by simp;omega) ?_))
 intro A4 c4 w4 ho4 ha4
 obtain ⟨r4,n4⟩:=ha4.row (heap_keep r3) (by simp [Value.ownBlock];omega)
 have B4:Below w.heap.size w w4:=(alB B3 _).trans (ha4.below w.heap.size (by simp;omega) (by simp [Value.ownBlock];omega))
 have e4:([UInt8.ofNat (headP p).toNat]++Z).length=1+Z.length:=by simp;omega
 rw [←e4] at ho4 ha4 n4 ⊢
 have k4':([UInt8.ofNat (headP p).toNat]++Z).length≤5:=by rw [e4];omega
 generalize hL4:[UInt8.ofNat (headP p).toNat]++Z=L4 at ho4 ha4 n4 k4' ⊢
 have HL4:=Lib.hid hL4
 have C4:=row_cells r4
 have hb4:w.heap.size≤w4.heap.size:=B4.size
 have HZ2:=Lib.hid HZ
 clear hL4 e4 ho3 hZ3 hZ r2 r3 hb2 hb3 B1 B2 B3 hg3 ha4
 rcases kf p.kind with ⟨k1,k2,k3,k4,k5,k6,k7,k8,k9,k10,k11,k12,k13,k14⟩ | ⟨k1,k2,k3,k4,k5,k6,k7,k8,k9,k10,k11,k12,k13,k14⟩ | ⟨k1,k2,k3,k4,k5,k6,k7,k8,k9,k10,k11,k12,k13,k14⟩ | ⟨k1,k2,k3,k4,k5,k6,k7,k8,k9,k10,k11,k12,k13,k14⟩ | ⟨k1,k2,k3,k4,k5,k6,k7,k8,k9,k10,k11,k12,k13,k14⟩ | ⟨k1,k2,k3,k4,k5,k6,k7,k8,k9,k10,k11,k12,k13,k14⟩ | ⟨k1,k2,k3,k4,k5,k6,k7,k8,k9,k10,k11,k12,k13,k14⟩ | ⟨k1,k2,k3,k4,k5,k6,k7,k8,k9,k10,k11,k12,k13,k14⟩ | ⟨k1,k2,k3,k4,k5,k6,k7,k8,k9,k10,k11,k12,k13,k14⟩ | ⟨k1,k2,k3,k4,k5,k6,k7,k8,k9,k10,k11,k12,k13,k14⟩ | ⟨k1,k2,k3,k4,k5,k6,k7,k8,k9,k10,k11,k12,k13,k14⟩ | ⟨k1,k2,k3,k4,k5,k6,k7,k8,k9,k10,k11,k12,k13,k14⟩ | ⟨k1,k2,k3,k4,k5,k6,k7,k8,k9,k10,k11,k12,k13,k14⟩ | ⟨k1,k2,k3,k4,k5,k6,k7,k8,k9,k10,k11,k12,k13,k14⟩ | ⟨k1,k2,k3,k4,k5,k6,k7,k8,k9,k10,k11,k12,k13,k14⟩
 ·go_wp2_with ((with_reducible show wpList _ _ _ (⟨_,.load 28 _,_,_,_,_⟩ :: _) _ _);refine ld_pk (w.heap.size) (by rfl) (by rfl) _ _ _ (by (first | assumption | exact heap_alloc_last _ _ | (repeat (first | assumption | exact heap_alloc_last _ _ | exact heap_last2 _ _ _ | refine heap_keep ?_ | refine heap_below (by assumption) ?_)))) (by rfl) ?_)
  refine (addConnect_any p s w.heap.size A4 c4 L4.length L4 B w4 ho4 rfl (by omega) hb4 (HP.out.wpay.to hB B4) HN.out.w (HP.out.pass.to hB B4) HN.out.u hB HF.out.cli HF.out.wtop HF.out.wpay HF.out.user HF.out.pass HF.out.level.1 HF.out.level.2 HF.out.keep.1 HF.out.keep.2 HF.out.wqos.1 HF.out.wqos.2).mono ?_
  intro e w5 hpost
  obtain ⟨A5,c5,L5,HL5,rfl,ho5,ha5,hq5⟩:=hpost.gen
  clear hq5 hpost
  have B5:=B4.trans (ha5.below w.heap.size hb4 (fun k hk=>(ho4.lt k hk).1))
  have e:encP p=L5:=by rw [←HL5.out,←HL4.out,←HZ.out];simp [encP,bodyL,k1]
  have E:=Lib.hid e
  clear e
  go_wp2_with fail
  go_ret
  unfold NewPost
  rw [E.out]
  exact ⟨A5,c5,rfl,ho5,B5⟩
 ·have hw1:IntKind.u8.wrap p.code=p.code:=IntWalk.u8_in _ (by have:=HF.out.code;omega)
  obtain ⟨q1,q2⟩:=flagI_in p.pres 1 (by omega)
  have q2':flagI p.pres 1≤255:=by omega
  have q3:=HF.out.code.1
  have q4:p.code≤255:=by have:=HF.out.code;omega
  go_wp2_with fail
  refine wp_region_held_drew (S:=(fun W=>W.heap[w.heap.size]? = some (.cells (pkC p s) 28 (0,0)))) (by rfl) r4 ?_
  intro hS
  refine tkH 0 (.slice A4 L4.length c4) hS ?_ (hy:=.inl ⟨by rfl,fun W _=>rfl⟩)
  refine tkH 1 (.pointer (some ⟨w.heap.size,20,none⟩)) hS ?_
  refine tkH 2 (.bool p.pres) hS ?_ (hy:=.inl ⟨by rfl,fun W hW=>by simp [execOp,go_sem,row_cells hW]⟩)
  refine tkH 5 (.pointer (some ⟨w.heap.size,21,none⟩)) hS ?_
  refine tkH 6 (.int .i64 p.code) hS ?_ (hy:=.inl ⟨by rfl,fun W hW=>by simp [execOp,go_sem,row_cells hW]⟩)
  refine tkH 7 (.int .u8 p.code) hS ?_ (hy:=.inl ⟨by rfl,fun W _=>by simp [execOp,go_sem,hw1]⟩)
  refine wpAnyH_ready (rs:=[3]) (by kernel_rfl) (by simp) (AllReadyH.cons (by rfl) ?_ AllReadyH.nil)
  intro K' hK
  rw [if_pos (by rfl)]
  go_wp2_with fail
  refine (flag_any _ _ _).mono ?_
  rintro e w' ⟨rfl,rfl⟩
  go_wp2_with fail
  refine hK.out _ _ hS ?_
  clear hK K' hS
  intro hS
  refine wpAnyH_ready (rs:=[4]) (by kernel_rfl) (by simp) (AllReadyH.cons (by rfl) ?_ AllReadyH.nil)
  intro K' hK
  rw [if_pos (by rfl)]
  go_wp2_with fail
  refine hK.out _ _ hS ?_
  clear hK K' hS
  intro hS
  refine wpAnyH_ready (rs:=[8]) (by kernel_rfl) (by simp) (AllReadyH.cons (by rfl) ?_ AllReadyH.nil)
  intro K' hK
  rw [if_pos (by rfl)]
  go_wp2_with fail
  refine hK.out _ _ (heap_keep hS) ?_
  clear hK K' hS
  intro hS
  refine wpAnyH_ready (rs:=[9]) (by kernel_rfl) (by simp) (AllReadyH.cons (by rfl) ?_ AllReadyH.nil)
  intro K' hK
  rw [if_pos (by rfl)]
  refine ap_bytes_wp w.heap.size A4 c4 L4.length L4 (w4.drew.heap.size+1) (some ⟨w4.drew.heap.size,0,none⟩) 2 2 [UInt8.ofNat (flagI p.pres 1).toNat,UInt8.ofNat p.code.toNat] (by rfl) (by rfl) ((own_below ho4 (Below.drew (Below.refl _ _))).alloc _) (bytesAt_new w4.drew [UInt8.ofNat (flagI p.pres 1).toNat,UInt8.ofNat p.code.toNat] _ (0,0) (two_cells q1 q2' q3 q4) (by simp [maxLen])) (by simp) (by omega) (by simp;omega) ?_
  intro A5 c5 w5 ho5 ha5
  refine hK.out _ _ (ha5.row hS n4).1 ?_
  clear hK K' hS
  intro hS
  refine wpAnyH_ready (rs:=[10]) (by kernel_rfl) (by simp) (AllReadyH.cons (by rfl) ?_ AllReadyH.nil)
  intro K' hK
  rw [if_pos (by rfl)]
  go_wp2_with fail
  refine hK.out _ _ hS ?_
  clear hK K' hS
  intro hS
  refine wpAnyH_done (by kernel_rfl) ?_ _
  have B5:=(alB (Below.drew B4) _).trans (ha5.below w.heap.size (by simp;omega) (fun k hk=>(ho4.lt k hk).1))
  have e5:(L4++[UInt8.ofNat (flagI p.pres 1).toNat,UInt8.ofNat p.code.toNat]).length=L4.length+2:=by simp
  have e:encP p=L4++[UInt8.ofNat (flagI p.pres 1).toNat,UInt8.ofNat p.code.toNat]:=by rw [←HL4.out,←HZ.out];simp [encP,bodyL,k1,k2]
  have E:=Lib.hid e
  have E5:=Lib.hid e5
  clear e e5
  go_wp2_with fail
  go_ret
  unfold NewPost
  rw [E.out,E5.out]
  exact ⟨A5,c5,rfl,ho5,B5⟩
 ·go_wp2_with ((with_reducible show wpList _ _ _ (⟨_,.load 28 _,_,_,_,_⟩ :: _) _ _);refine ld_pk (w.heap.size) (by rfl) (by rfl) _ _ _ (by (first | assumption | exact heap_alloc_last _ _ | (repeat (first | assumption | exact heap_alloc_last _ _ | exact heap_last2 _ _ _ | refine heap_keep ?_ | refine heap_below (by assumption) ?_)))) (by rfl) ?_)
  refine (addPublish_any p s w.heap.size A4 c4 L4.length L4 B w4 ho4 rfl (by omega) hb4 (HP.out.pay.to hB B4) HN.out.p hB HF.out.top HF.out.pay HF.out.id.1 HF.out.id.2).mono ?_
  intro e w5 hpost
  obtain ⟨A5,c5,L5,HL5,rfl,ho5,ha5,hq5⟩:=hpost.gen
  clear hq5 hpost
  have B5:=B4.trans (ha5.below w.heap.size hb4 (fun k hk=>(ho4.lt k hk).1))
  have e:encP p=L5:=by rw [←HL5.out,←HL4.out,←HZ.out];simp [encP,bodyL,k1,k2,k3]
  have E:=Lib.hid e
  clear e
  go_wp2_with fail
  go_ret
  unfold NewPost
  rw [E.out]
  exact ⟨A5,c5,rfl,ho5,B5⟩
 ·go_wp2_with fail
  refine (addPair_any w.heap.size A4 c4 L4.length L4 p.id w4 ho4 rfl (by omega) hb4 HF.out.id.1 HF.out.id.2).mono ?_
  intro e w5 hpost
  obtain ⟨A5,c5,L5,HL5,rfl,ho5,ha5,hq5⟩:=hpost.gen
  clear hq5 hpost
  have B5:=B4.trans (ha5.below w.heap.size hb4 (fun k hk=>(ho4.lt k hk).1))
  have e:encP p=L5:=by rw [←HL5.out,←HL4.out,←HZ.out];simp [encP,bodyL,k1,k2,k3,k4]
  have E:=Lib.hid e
  clear e
  go_wp2_with fail
  go_ret
  unfold NewPost
  rw [E.out]
  exact ⟨A5,c5,rfl,ho5,B5⟩
 ·go_wp2_with fail
  refine (addPair_any w.heap.size A4 c4 L4.length L4 p.id w4 ho4 rfl (by omega) hb4 HF.out.id.1 HF.out.id.2).mono ?_
  intro e w5 hpost
  obtain ⟨A5,c5,L5,HL5,rfl,ho5,ha5,hq5⟩:=hpost.gen
  clear hq5 hpost
  have B5:=B4.trans (ha5.below w.heap.size hb4 (fun k hk=>(ho4.lt k hk).1))
  have e:encP p=L5:=by rw [←HL5.out,←HL4.out,←HZ.out];simp [encP,bodyL,k1,k2,k3,k4,k5]
  have E:=Lib.hid e
  clear e
  go_wp2_with fail
  go_ret
  unfold NewPost
  rw [E.out]
  exact ⟨A5,c5,rfl,ho5,B5⟩
 ·go_wp2_with fail
  refine (addPair_any w.heap.size A4 c4 L4.length L4 p.id w4 ho4 rfl (by omega) hb4 HF.out.id.1 HF.out.id.2).mono ?_
  intro e w5 hpost
  obtain ⟨A5,c5,L5,HL5,rfl,ho5,ha5,hq5⟩:=hpost.gen
  clear hq5 hpost
  have B5:=B4.trans (ha5.below w.heap.size hb4 (fun k hk=>(ho4.lt k hk).1))
  have e:encP p=L5:=by rw [←HL5.out,←HL4.out,←HZ.out];simp [encP,bodyL,k1,k2,k3,k4,k5,k6]
  have E:=Lib.hid e
  clear e
  go_wp2_with fail
  go_ret
  unfold NewPost
  rw [E.out]
  exact ⟨A5,c5,rfl,ho5,B5⟩
 ·go_wp2_with fail
  refine (addPair_any w.heap.size A4 c4 L4.length L4 p.id w4 ho4 rfl (by omega) hb4 HF.out.id.1 HF.out.id.2).mono ?_
  intro e w5 hpost
  obtain ⟨A5,c5,L5,HL5,rfl,ho5,ha5,hq5⟩:=hpost.gen
  clear hq5 hpost
  have B5:=B4.trans (ha5.below w.heap.size hb4 (fun k hk=>(ho4.lt k hk).1))
  have e:encP p=L5:=by rw [←HL5.out,←HL4.out,←HZ.out];simp [encP,bodyL,k1,k2,k3,k4,k5,k6,k7]
  have E:=Lib.hid e
  clear e
  go_wp2_with fail
  go_ret
  unfold NewPost
  rw [E.out]
  exact ⟨A5,c5,rfl,ho5,B5⟩
 ·go_wp2_with fail
  refine wp_region_held_drew (S:=(fun W=>W.heap[w.heap.size]? = some (.cells (pkC p s) 28 (0,0)))) (by rfl) r4 ?_
  intro hS
  refine tkH 0 (.slice A4 L4.length c4) hS ?_ (hy:=.inl ⟨by rfl,fun W _=>rfl⟩)
  refine tkH 1 (.pointer (some ⟨w.heap.size,4,none⟩)) hS ?_
  refine tkH 2 (.int .i64 p.id) hS ?_ (hy:=.inl ⟨by rfl,fun W hW=>by simp [execOp,go_sem,row_cells hW]⟩)
  refine tkH 4 (pkV p s) hS ?_ (hy:=.inl ⟨by rfl,fun W hW=>ld_exec rfl rfl hW rfl⟩)
  refine wpAnyH_ready (rs:=[3]) (by kernel_rfl) (by simp) (AllReadyH.cons (by rfl) ?_ AllReadyH.nil)
  intro K' hK
  rw [if_pos (by rfl)]
  go_wp2_with fail
  refine (addPair_any w.heap.size A4 c4 L4.length L4 p.id w4.drew ho4 rfl (by omega) hb4 HF.out.id.1 HF.out.id.2).mono ?_
  intro e w5 hpost
  obtain ⟨A5,c5,L5,HL5,rfl,ho5,ha5,hq5⟩:=hpost.gen
  have r5:=(ha5.row hS n4)
  have k5':L5.length≤7:=by rw [hq5];simp [pairL];omega
  have B5:=(Below.drew B4).trans (ha5.below w.heap.size hb4 (fun k hk=>(ho4.lt k hk).1))
  have hb5:w.heap.size≤w5.heap.size:=B5.size
  clear hq5 hpost
  go_wp2_with fail
  refine hK.out _ _ r5.1 ?_
  clear hK K' hS
  intro hS
  refine wpAnyH_ready (rs:=[5]) (by kernel_rfl) (by simp) (AllReadyH.cons (by rfl) ?_ AllReadyH.nil)
  intro K' hK
  rw [if_pos (by rfl)]
  go_wp2_with fail
  refine (addSubs_any p s true w.heap.size A5 c5 L5.length L5 B w5 ho5 rfl (by omega) hb5 (HP.out.subs.to hB B5) hB HF.out.subs HF.out.sub k8 (HF.out.subsL true)).mono ?_
  intro e w6 hpost
  obtain ⟨A6,c6,L6,HL6,rfl,ho6,ha6,hq6⟩:=hpost.gen
  have r6:=(ha6.row hS r5.2)
  have B6:=B5.trans (ha6.below w.heap.size hb5 (fun k hk=>(ho5.lt k hk).1))
  have e:encP p=L6:=by rw [←HL6.out,←HL5.out,←HL4.out,←HZ.out];simp [encP,bodyL,k1,k2,k3,k4,k5,k6,k7,k11,k8]
  have E:=Lib.hid e
  clear e hq6 hpost
  go_wp2_with fail
  refine hK.out _ _ r6.1 ?_
  clear hK K' hS
  intro hS
  refine wpAnyH_ready (rs:=[6]) (by kernel_rfl) (by simp) (AllReadyH.cons (by rfl) ?_ AllReadyH.nil)
  intro K' hK
  rw [if_pos (by rfl)]
  go_wp2_with fail
  refine hK.out _ _ hS ?_
  clear hK K' hS
  intro hS
  refine wpAnyH_done (by kernel_rfl) ?_ _
  go_wp2_with fail
  go_ret
  unfold NewPost
  rw [E.out]
  exact ⟨A6,c6,rfl,ho6,B6⟩
 ·go_wp2_with fail
  refine wp_region_held_drew (S:=(fun W=>W.heap[w.heap.size]? = some (.cells (pkC p s) 28 (0,0)))) (by rfl) r4 ?_
  intro hS
  refine tkH 0 (.slice A4 L4.length c4) hS ?_ (hy:=.inl ⟨by rfl,fun W _=>rfl⟩)
  refine tkH 1 (.pointer (some ⟨w.heap.size,4,none⟩)) hS ?_
  refine tkH 2 (.int .i64 p.id) hS ?_ (hy:=.inl ⟨by rfl,fun W hW=>by simp [execOp,go_sem,row_cells hW]⟩)
  refine tkH 4 (.pointer (some ⟨w.heap.size,23,none⟩)) hS ?_
  refine tkH 5 (.slice s.cA p.codes.length s.cC) hS ?_ (hy:=.inl ⟨by rfl,fun W hW=>by simp [execOp,go_sem,row_cells hW]⟩)
  refine wpAnyH_ready (rs:=[3]) (by kernel_rfl) (by simp) (AllReadyH.cons (by rfl) ?_ AllReadyH.nil)
  intro K' hK
  rw [if_pos (by rfl)]
  go_wp2_with fail
  refine (addPair_any w.heap.size A4 c4 L4.length L4 p.id w4.drew ho4 rfl (by omega) hb4 HF.out.id.1 HF.out.id.2).mono ?_
  intro e w5 hpost
  obtain ⟨A5,c5,L5,HL5,rfl,ho5,ha5,hq5⟩:=hpost.gen
  have r5:=(ha5.row hS n4)
  have k5':L5.length≤7:=by rw [hq5];simp [pairL];omega
  have B5:=(Below.drew B4).trans (ha5.below w.heap.size hb4 (fun k hk=>(ho4.lt k hk).1))
  have hb5:w.heap.size≤w5.heap.size:=B5.size
  clear hq5 hpost
  go_wp2_with fail
  refine hK.out _ _ r5.1 ?_
  clear hK K' hS
  intro hS
  refine wpAnyH_ready (rs:=[6]) (by kernel_rfl) (by simp) (AllReadyH.cons (by rfl) ?_ AllReadyH.nil)
  intro K' hK
  rw [if_pos (by rfl)]
  go_wp2_with fail
  refine (addCodes_any w.heap.size A5 c5 L5.length L5 B s.cA s.cC p.codes.length p.codes w5 ho5 rfl (by omega) hb5 (HP.out.codes.to hB B5) rfl hB HF.out.codes HF.out.cod).mono ?_
  intro e w6 hpost
  obtain ⟨A6,c6,L6,HL6,rfl,ho6,ha6,hq6⟩:=hpost.gen
  have r6:=(ha6.row hS r5.2)
  have B6:=B5.trans (ha6.below w.heap.size hb5 (fun k hk=>(ho5.lt k hk).1))
  have e:encP p=L6:=by rw [←HL6.out,←HL5.out,←HL4.out,←HZ.out];simp [encP,bodyL,k1,k2,k3,k4,k5,k6,k7,k11,k8,k10,k9]
  have E:=Lib.hid e
  clear e hq6 hpost
  go_wp2_with fail
  refine hK.out _ _ r6.1 ?_
  clear hK K' hS
  intro hS
  refine wpAnyH_ready (rs:=[7]) (by kernel_rfl) (by simp) (AllReadyH.cons (by rfl) ?_ AllReadyH.nil)
  intro K' hK
  rw [if_pos (by rfl)]
  go_wp2_with fail
  refine hK.out _ _ hS ?_
  clear hK K' hS
  intro hS
  refine wpAnyH_done (by kernel_rfl) ?_ _
  go_wp2_with fail
  go_ret
  unfold NewPost
  rw [E.out]
  exact ⟨A6,c6,rfl,ho6,B6⟩
 ·go_wp2_with fail
  refine wp_region_held_drew (S:=(fun W=>W.heap[w.heap.size]? = some (.cells (pkC p s) 28 (0,0)))) (by rfl) r4 ?_
  intro hS
  refine tkH 0 (.slice A4 L4.length c4) hS ?_ (hy:=.inl ⟨by rfl,fun W _=>rfl⟩)
  refine tkH 1 (.pointer (some ⟨w.heap.size,4,none⟩)) hS ?_
  refine tkH 2 (.int .i64 p.id) hS ?_ (hy:=.inl ⟨by rfl,fun W hW=>by simp [execOp,go_sem,row_cells hW]⟩)
  refine tkH 4 (pkV p s) hS ?_ (hy:=.inl ⟨by rfl,fun W hW=>ld_exec rfl rfl hW rfl⟩)
  refine wpAnyH_ready (rs:=[3]) (by kernel_rfl) (by simp) (AllReadyH.cons (by rfl) ?_ AllReadyH.nil)
  intro K' hK
  rw [if_pos (by rfl)]
  go_wp2_with fail
  refine (addPair_any w.heap.size A4 c4 L4.length L4 p.id w4.drew ho4 rfl (by omega) hb4 HF.out.id.1 HF.out.id.2).mono ?_
  intro e w5 hpost
  obtain ⟨A5,c5,L5,HL5,rfl,ho5,ha5,hq5⟩:=hpost.gen
  have r5:=(ha5.row hS n4)
  have k5':L5.length≤7:=by rw [hq5];simp [pairL];omega
  have B5:=(Below.drew B4).trans (ha5.below w.heap.size hb4 (fun k hk=>(ho4.lt k hk).1))
  have hb5:w.heap.size≤w5.heap.size:=B5.size
  clear hq5 hpost
  go_wp2_with fail
  refine hK.out _ _ r5.1 ?_
  clear hK K' hS
  intro hS
  refine wpAnyH_ready (rs:=[5]) (by kernel_rfl) (by simp) (AllReadyH.cons (by rfl) ?_ AllReadyH.nil)
  intro K' hK
  rw [if_pos (by rfl)]
  go_wp2_with fail
  refine (addSubs_any p s false w.heap.size A5 c5 L5.length L5 B w5 ho5 rfl (by omega) hb5 (HP.out.subs.to hB B5) hB HF.out.subs HF.out.sub k8 (HF.out.subsL false)).mono ?_
  intro e w6 hpost
  obtain ⟨A6,c6,L6,HL6,rfl,ho6,ha6,hq6⟩:=hpost.gen
  have r6:=(ha6.row hS r5.2)
  have B6:=B5.trans (ha6.below w.heap.size hb5 (fun k hk=>(ho5.lt k hk).1))
  have e:encP p=L6:=by rw [←HL6.out,←HL5.out,←HL4.out,←HZ.out];simp [encP,bodyL,k1,k2,k3,k4,k5,k6,k7,k11,k8,k10]
  have E:=Lib.hid e
  clear e hq6 hpost
  go_wp2_with fail
  refine hK.out _ _ r6.1 ?_
  clear hK K' hS
  intro hS
  refine wpAnyH_ready (rs:=[6]) (by kernel_rfl) (by simp) (AllReadyH.cons (by rfl) ?_ AllReadyH.nil)
  intro K' hK
  rw [if_pos (by rfl)]
  go_wp2_with fail
  refine hK.out _ _ hS ?_
  clear hK K' hS
  intro hS
  refine wpAnyH_done (by kernel_rfl) ?_ _
  go_wp2_with fail
  go_ret
  unfold NewPost
  rw [E.out]
  exact ⟨A6,c6,rfl,ho6,B6⟩
 ·go_wp2_with fail
  refine (addPair_any w.heap.size A4 c4 L4.length L4 p.id w4 ho4 rfl (by omega) hb4 HF.out.id.1 HF.out.id.2).mono ?_
  intro e w5 hpost
  obtain ⟨A5,c5,L5,HL5,rfl,ho5,ha5,hq5⟩:=hpost.gen
  clear hq5 hpost
  have B5:=B4.trans (ha5.below w.heap.size hb4 (fun k hk=>(ho4.lt k hk).1))
  have e:encP p=L5:=by rw [←HL5.out,←HL4.out,←HZ.out];simp [encP,bodyL,k1,k2,k3,k4,k5,k6,k7,k11]
  have E:=Lib.hid e
  clear e
  go_wp2_with fail
  go_ret
  unfold NewPost
  rw [E.out]
  exact ⟨A5,c5,rfl,ho5,B5⟩
 ·have e:encP p=L4:=by rw [←HL4.out,←HZ.out];simp [encP,bodyL,k1,k2,k3,k4,k5,k6,k7,k11,k8,k10,k9]
  have E:=Lib.hid e
  clear e
  go_wp2_with fail
  go_ret
  unfold NewPost
  rw [E.out]
  exact ⟨A4,c4,rfl,ho4,B4⟩
 ·have e:encP p=L4:=by rw [←HL4.out,←HZ.out];simp [encP,bodyL,k1,k2,k3,k4,k5,k6,k7,k11,k8,k10,k9]
  have E:=Lib.hid e
  clear e
  go_wp2_with fail
  go_ret
  unfold NewPost
  rw [E.out]
  exact ⟨A4,c4,rfl,ho4,B4⟩
 ·have e:encP p=L4:=by rw [←HL4.out,←HZ.out];simp [encP,bodyL,k1,k2,k3,k4,k5,k6,k7,k11,k8,k10,k9]
  have E:=Lib.hid e
  clear e
  go_wp2_with fail
  go_ret
  unfold NewPost
  rw [E.out]
  exact ⟨A4,c4,rfl,ho4,B4⟩
 ·exfalso
  have:=HF.out.kind
  simp at k1 k2 k3 k4 k5 k6 k7 k8 k9 k10 k11 k12 k13 k14
  omega
theorem textL_len (s:ByteArray):(textL s).length=2+s.size:=by unfold textL;rw [List.length_append,pairL_len];simp
theorem lumpL_len (l:List UInt8):(lumpL l).length=2+l.length:=by unfold lumpL;rw [List.length_append,pairL_len]
theorem conn_len (p:Pk):((connL p).length:Int)=clenP p:=by
 have hm:mqtt.size=4:=rfl
 unfold connL lumpsL clenP
 simp only [List.length_append,textL_len,pairL_len,List.length_cons,List.length_nil,hm]
 cases p.hw <;> cases p.hu <;> cases p.hp <;> simp [textL_len,lumpL_len] <;> omega
theorem body_len (p:Pk):((bodyL p).length:Int)=lenP p:=by
 rcases kf p.kind with ⟨k1,k2,k3,k4,k5,k6,k7,k8,k9,k10,k11,k12,k13,k14⟩ | ⟨k1,k2,k3,k4,k5,k6,k7,k8,k9,k10,k11,k12,k13,k14⟩ | ⟨k1,k2,k3,k4,k5,k6,k7,k8,k9,k10,k11,k12,k13,k14⟩ | ⟨k1,k2,k3,k4,k5,k6,k7,k8,k9,k10,k11,k12,k13,k14⟩ | ⟨k1,k2,k3,k4,k5,k6,k7,k8,k9,k10,k11,k12,k13,k14⟩ | ⟨k1,k2,k3,k4,k5,k6,k7,k8,k9,k10,k11,k12,k13,k14⟩ | ⟨k1,k2,k3,k4,k5,k6,k7,k8,k9,k10,k11,k12,k13,k14⟩ | ⟨k1,k2,k3,k4,k5,k6,k7,k8,k9,k10,k11,k12,k13,k14⟩ | ⟨k1,k2,k3,k4,k5,k6,k7,k8,k9,k10,k11,k12,k13,k14⟩ | ⟨k1,k2,k3,k4,k5,k6,k7,k8,k9,k10,k11,k12,k13,k14⟩ | ⟨k1,k2,k3,k4,k5,k6,k7,k8,k9,k10,k11,k12,k13,k14⟩ | ⟨k1,k2,k3,k4,k5,k6,k7,k8,k9,k10,k11,k12,k13,k14⟩ | ⟨k1,k2,k3,k4,k5,k6,k7,k8,k9,k10,k11,k12,k13,k14⟩ | ⟨k1,k2,k3,k4,k5,k6,k7,k8,k9,k10,k11,k12,k13,k14⟩ | ⟨k1,k2,k3,k4,k5,k6,k7,k8,k9,k10,k11,k12,k13,k14⟩
 ·simp only [bodyL,lenP,k1,if_true];exact conn_len p
 ·simp [bodyL,lenP,k1,k2]
 ·have e:bodyL p=pubL p:=by simp [bodyL,k1,k2,k3]
  have e2:lenP p=2+p.top.size+p.pay.length+(if p.qos==0 then 0 else 2):=by simp only [lenP,k1,k2,k3];rfl
  rw [e,e2]
  unfold pubL
  rw [List.length_append,List.length_append,textL_len]
  cases h:(p.qos==0) <;> simp [pairL_len] <;> omega
 ·simp [bodyL,lenP,k1,k2,k3,k4,pairL_len]
 ·simp [bodyL,lenP,k1,k2,k3,k4,k5,pairL_len]
 ·simp [bodyL,lenP,k1,k2,k3,k4,k5,k6,pairL_len]
 ·simp [bodyL,lenP,k1,k2,k3,k4,k5,k6,k7,pairL_len]
 ·have:=subsL_len true p.subs
  simp [bodyL,lenP,k1,k2,k3,k4,k5,k6,k7,k8,k11,pairL_len] at *
  omega
 ·simp [bodyL,lenP,k1,k2,k3,k4,k5,k6,k7,k8,k9,k10,k11,pairL_len,codesL]
 ·have:=subsL_len false p.subs
  simp [bodyL,lenP,k1,k2,k3,k4,k5,k6,k7,k8,k10,k11,pairL_len] at *
  omega
 ·simp [bodyL,lenP,k1,k2,k3,k4,k5,k6,k7,k11,pairL_len]
 all_goals simp [bodyL,lenP,k1,k2,k3,k4,k5,k6,k7,k8,k9,k10,k11]
def numL (l:List UInt8):Int:=l.foldl (fun n c=>n*256+(c.toNat:Int)) 0
def bytesOfL (l:List UInt8):ByteArray:=⟨l.toArray⟩
def lenL (l:List UInt8):Nat:=(numL (l.take 2)).toNat
def gotL (l:List UInt8):List UInt8:=(l.drop 2).take (lenL l)
def leftL (l:List UInt8):List UInt8:=(l.drop 2).drop (lenL l)
theorem num_pair (n:Int)(h0:0≤n)(h1:n≤65535):numL (pairL n)=n:=by
 unfold numL pairL
 simp only [List.foldl_cons,List.foldl_nil]
 rw [show (UInt8.ofNat (n / 256).toNat).toNat=(n / 256).toNat by rw [UInt8.toNat_ofNat'];omega,show (UInt8.ofNat (n%256).toNat).toNat=(n%256).toNat by rw [UInt8.toNat_ofNat'];omega]
 omega
theorem num_one (n:Int)(h0:0≤n)(h1:n≤255):numL [UInt8.ofNat n.toNat]=n:=by
 unfold numL
 simp only [List.foldl_cons,List.foldl_nil]
 rw [show (UInt8.ofNat n.toNat).toNat=n.toNat by rw [UInt8.toNat_ofNat'];omega]
 omega
theorem take_pair (n:Int)(r:List UInt8):(pairL n++r).take 2=pairL n:=by rw [List.take_append_of_le_length (by rw [pairL_len];omega),List.take_of_length_le (by rw [pairL_len];omega)]
theorem drop_pair (n:Int)(r:List UInt8):(pairL n++r).drop 2=r:=by
 have:=List.drop_left (l₁:=pairL n) (l₂:=r)
 rwa [pairL_len] at this
theorem got_lump (l r:List UInt8)(h:l.length≤65535):gotL (lumpL l++r)=l∧leftL (lumpL l++r)=r:=by
 have e:lenL (lumpL l++r)=l.length:=by
  unfold lenL lumpL
  rw [List.append_assoc,take_pair,num_pair _ (by omega) (by omega)]
  omega
 unfold gotL leftL
 rw [e]
 unfold lumpL
 rw [List.append_assoc,drop_pair]
 exact ⟨List.take_left,List.drop_left⟩
theorem text_lump (s:ByteArray):textL s=lumpL s.data.toList:=by
 unfold textL lumpL;rw [size_list]
theorem got_text (s:ByteArray)(r:List UInt8)(h:s.size≤65535):bytesOfL (gotL (textL s++r))=s∧leftL (textL s++r)=r:=by
 rw [text_lump]
 obtain ⟨h1,h2⟩:=got_lump s.data.toList r (by rw [size_list];exact h)
 rw [h1,h2]
 exact ⟨ofList s,rfl⟩
theorem left_lt (l:List UInt8)(h:l≠[]):(leftL l).length<l.length:=by
 unfold leftL
 have:=List.length_pos_iff.2 h
 simp only [List.length_drop]
 omega
def subsR (q:Bool) (l:List UInt8):List (ByteArray×Int) :=
 if _h:l=[] then [] else (bytesOfL (gotL l),if q then numL ((leftL l).take 1) else 0) :: subsR q (if q then (leftL l).drop 1 else leftL l)
termination_by l.length
decreasing_by
 have:=left_lt l (by assumption)
 split
 ·simp only [List.length_drop];omega
 ·exact this
theorem subsR_enc (q:Bool):∀(l:List (ByteArray×Int)),(∀x ∈ l,x.1.size≤65535∧0≤x.2∧x.2≤255)→subsR q (subsL q l)=l.map fun x=>(x.1,if q then x.2 else 0)
 | [],_=>by rw [show subsL q []=[] from rfl,subsR];simp
 | x :: l,h=>by
  have ih:=subsR_enc q l (fun y hy=>h y (by simp [hy]))
  obtain ⟨h1,h2,h3⟩:=h x (by simp)
  have e:subsL q (x :: l)=textL x.1++((if q then [UInt8.ofNat x.2.toNat] else [])++subsL q l):=by
   unfold subsL;rw [List.flatMap_cons];unfold subL;rw [List.append_assoc]
  have hne:subsL q (x :: l)≠[]:=by
   rw [e];unfold textL pairL;simp
  obtain ⟨g1,g2⟩:=got_text x.1 ((if q then [UInt8.ofNat x.2.toNat] else [])++subsL q l) h1
  rw [subsR,dif_neg hne,e,g1,g2,List.map_cons]
  cases q with
  | false=>simp only [Bool.false_eq_true,if_false,List.nil_append];rw [ih];simp
  | true =>
   simp only [if_true,List.cons_append,List.nil_append,List.take_succ_cons,List.take_zero,List.drop_succ_cons,List.drop_zero]
   rw [num_one _ h2 h3,ih]
   simp
def codesR (l:List UInt8):List Int:=l.map fun b=>(b.toNat:Int)
theorem codesR_enc (l:List Int)(h:∀x ∈ l,0≤x∧x≤255):codesR (codesL l)=l:=by
 unfold codesR codesL
 rw [List.map_map]
 conv=>rhs;rw [←List.map_id l]
 apply List.map_congr_left
 intro x hx
 obtain ⟨h0,h1⟩:=h x hx
 show ((UInt8.ofNat x.toNat).toNat:Int)=x
 rw [show (UInt8.ofNat x.toNat).toNat=x.toNat by rw [UInt8.toNat_ofNat'];omega]
 omega
def hdP (n:Int):Pk:=if n / 16==3 then {pk0 with kind:=n / 16,dup:=n / 8%2==1,qos:=n / 2%4,ret:=n%2==1} else {pk0 with kind:=n / 16}
def conR (n:Int) (b:List UInt8):Pk :=
 let b1:=leftL b
 let f:=numL ((b1.drop 1).take 1)
 let b2:=b1.drop 4
 let hw:=f / 4%2==1
 let hu:=f / 128%2==1
 let hp:=f / 64%2==1
 let b3:=leftL b2
 let b4:=if hw then leftL (leftL b3) else b3
 let b5:=if hu then leftL b4 else b4
 { pk0 with kind:=n / 16,level:=numL (b1.take 1),keep:=numL ((b1.drop 2).take 2),cli:=bytesOfL (gotL b2),clean:=f / 2%2==1,hw:=hw,hu:=hu,hp:=hp, wtop:=if hw then bytesOfL (gotL b3) else ByteArray.empty,wpay:=if hw then gotL (leftL b3) else [],wqos:=if hw then f / 8%4 else 0,wret:=if hw then f / 32%2==1 else false, user:=if hu then bytesOfL (gotL b4) else ByteArray.empty,pass:=if hp then gotL b5 else []}
def parR (n:Int) (b:List UInt8):Pk :=
 let p:=hdP n
 if p.kind==1 then conR n b
 else if p.kind==2 then {p with pres:=numL (b.take 1)%2==1,code:=numL ((b.drop 1).take 1)}
 else if p.kind==3 then {p with top:=bytesOfL (gotL b),id:=if p.qos==0 then 0 else numL ((leftL b).take 2),pay:=if p.qos==0 then leftL b else (leftL b).drop 2}
 else if p.kind==4 || p.kind==5 || p.kind==6 || p.kind==7 || p.kind==11 then {p with id:=numL (b.take 2)}
 else if p.kind==8 || p.kind==10 then {p with id:=numL (b.take 2),subs:=subsR (p.kind==8) (b.drop 2)}
 else if p.kind==9 then {p with id:=numL (b.take 2),codes:=codesR (b.drop 2)}
 else p
theorem hd_kind (p:Pk)(f:RF p):headP p / 16=p.kind:=by
 obtain ⟨a1,b1⟩:=flagI_in p.dup 8 (by omega)
 obtain ⟨a2,b2⟩:=flagI_in p.ret 1 (by omega)
 obtain ⟨a4,b4⟩:=f.qos
 unfold headP
 split
 ·omega
 ·split <;> omega
theorem hd_no3 (p:Pk)(f:RF p)(k:(p.kind==3)=false):hdP (headP p)={pk0 with kind:=p.kind}:=by
 unfold hdP;rw [hd_kind p f,k];simp
theorem hd_3 (p:Pk)(f:RF p)(k:(p.kind==3)=true):hdP (headP p)={pk0 with kind:=p.kind,dup:=p.dup,qos:=p.qos,ret:=p.ret}:=by
 have e:headP p=p.kind*16+(flagI p.dup 8+p.qos*2+flagI p.ret 1):=by unfold headP;rw [if_pos k]
 obtain ⟨a4,b4⟩:=f.qos
 unfold hdP
 rw [hd_kind p f,if_pos k,e]
 have q1:(p.kind*16+(flagI p.dup 8+p.qos*2+flagI p.ret 1)) / 8%2=if p.dup then 1 else 0:=by cases p.dup <;> cases p.ret <;> simp [flagI] <;> omega
 have q2:(p.kind*16+(flagI p.dup 8+p.qos*2+flagI p.ret 1)) / 2%4=p.qos:=by cases p.dup <;> cases p.ret <;> simp [flagI] <;> omega
 have q3:(p.kind*16+(flagI p.dup 8+p.qos*2+flagI p.ret 1))%2=if p.ret then 1 else 0:=by cases p.dup <;> cases p.ret <;> simp [flagI] <;> omega
 rw [q1,q2,q3]
 cases p.dup <;> cases p.ret <;> rfl
end Go.Proofs.Ytnhpacaoobpkhaa
