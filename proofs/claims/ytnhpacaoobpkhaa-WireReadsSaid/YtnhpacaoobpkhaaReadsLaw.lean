import Derived.Test.YtnhpacaoobpkhaaGRAny
import Derived.Test.YtnhpacaoobpkhaaSeat
import Derived.Test.YtnhpacaoobpkhaaDRead2
import Derived.Test.YtnhpacaoobpkhaaSeatAll
namespace Go.Proofs.Ytnhpacaoobpkhaa
open Go.RowKit Go.Lib
set_option linter.unusedSimpArgs false
set_option linter.unusedVariables false
set_option maxRecDepth 100000
set_option maxHeartbeats 8000000
theorem lite_right {p:Pk}(h:rightP p=true):Lite p:=by
 have f:=right_f p h
 exact ⟨by have:=f.pay;omega,f.subs,f.subsL,f.codes⟩
theorem sbytes_any (p:Pk)(s:Sv)(w:World)(hp:PkAt w w.heap.size p s)(hn:NilOk s)(g:GoodPk p) :
  Calls Try.prog 24 #[pkV p s] w (NewPost w (encP p)):=by
 have hb:Below w.heap.size w (w.alloc (.cells (pkC p s) 28)):=(Below.refl _ _).alloc (Nat.le_refl _) _
 have HP:=Lib.hid (dput_all_yes p s _ (w.alloc (.cells (pkC p s) 28)) (hp.on hb) (Nat.le_refl _) g.1 hn.p (lite_right g.2) g.2)
 have HB:=Lib.hid hb
 clear hb hp hn g
 go_enter Try.func24,Try.ntmps24
 go_wp2_with ((with_reducible show wpList _ _ _ (⟨_,.load 28 _,_,_,_,_⟩ :: _) _ _);refine ld_pk (w.heap.size) (by rfl) (by rfl) (pkC p s) _ _ (by exact heap_alloc_last _ _) (by rfl) ?_)
 refine HP.out.mono ?_
 rintro e w2 ⟨A,c,rfl,o2,hb2⟩
 have O2:=Lib.hid o2
 have B2:=Lib.hid hb2
 clear o2 hb2
 go_wp2_with fail
 go_ret
 exact ⟨A,c,rfl,own_mono3 O2.out (by simp),thn HB.out B2.out⟩
theorem RowAt.more {W:World}{G G':Nat}{v:Value}(h:RowAt W G v)(hG:G≤G'):RowAt W G' v:=by
 obtain ⟨A,cap,l,h1,h2,h3⟩:=h
 exact ⟨A,cap,l,h1,h2,h3.more hG⟩
theorem BytesAt.put {w:World}{B g n c:Nat}{l:List UInt8}(h:BytesAt w B (.slice (some ⟨g,0,none⟩) n c) l)(i:Nat)(hi:i<l.length)(x:UInt8){ov:Value}(hc:w.cell? ⟨g,i,none⟩=some ov):BytesAt (w.setCell ⟨g,i,none⟩ (.int .u8 (x.toNat:Int))) B (.slice (some ⟨g,0,none⟩) n c) (l.set i x):=by
 obtain ⟨A',c',hv,hc',hm,hn,hB,hx⟩:=h
 injection hv with v1 v2 v3
 subst v1 v3
 refine ⟨_,c,by rw [List.length_set,v2],by rw [List.length_set];exact hc',hm,(by intro e;cases e),fun a ha hne=>hB a ha (by intro e;rw [e] at hi;simp at hi),fun a ha j y hj=>?_⟩
 injection ha with ha
 subst ha
 have ea:∀j,(⟨g,0,none⟩:Addr).add j=⟨g,j,none⟩:=fun j=>by simp [Addr.add];try exact fun h=>h.symm
 rw [ea]
 rw [List.getElem?_set] at hj
 by_cases e:i=j
 ·subst e
  rw [if_pos rfl,if_pos hi] at hj
  injection hj with hj
  subst hj
  exact World.cell?_setCell_same w ⟨g,i,none⟩ _ hc
 ·rw [if_neg e] at hj
  rw [World.cell?_setCell_other w ⟨g,i,none⟩ ⟨g,j,none⟩ _ (by intro q;injection q with _ q;exact e q)]
  have q:=hx _ rfl j y hj
  rw [ea] at q
  exact q
theorem reads_1 (rA:Option Addr) (rc:Nat) (raw:List UInt8) (k a b c:Int) (A:Option Addr) (cx:Nat) (x:List UInt8) (t:Nat) (vb:UInt8) (v how:Int) (w:World) (h1:raw.length≤200) (h2:x.length≤60) (hk:0≤k∧k≤255) (ha:0≤a∧a≤255) (hb:0≤b∧b≤255) (hc:0≤c∧c≤255) (ht:t≤65535) (ev:(vb.toNat:Int)=v) (hh:0≤how∧how≤255) (hj:how%4=1)
  (hr:BytesAt w w.heap.size (.slice rA raw.length rc) raw) (hrz:rA=none→rc=0) (hv:BytesAt w w.heap.size (.slice A x.length cx) x) (hz:A=none→cx=0) (bb bc:UInt8) (eb:(bb.toNat:Int)=b) (ec:(bc.toNat:Int)=c) (ba:UInt8) (ea:(ba.toNat:Int)=a) :
  Calls Try.prog 4 #[.slice rA raw.length rc,.int .u8 k,.int .u8 a,.int .u8 b,.int .u8 c,.slice A x.length cx,.int .u16 (t:Int),.int .u8 v,.int .u8 how] w fun e w'=>e=.returned (.bool true)∧Below w.heap.size w w':=by
 have HR:=Lib.hid hr
 have HRZ:=Lib.hid hrz
 have HV:=Lib.hid hv
 have HZ:=Lib.hid hz
 obtain ⟨k0,k1⟩:=hk
 obtain ⟨a0,a1⟩:=ha
 obtain ⟨b0,b1⟩:=hb
 obtain ⟨c0,c1⟩:=hc
 obtain ⟨o0,o1⟩:=hh
 have v0:0≤v:=by omega
 have v1:v≤255:=by have:=vb.toNat_lt;omega
 have EV:=Lib.hid ev
 have EB:=Lib.hid eb
 have EC:=Lib.hid ec
 have EA:=Lib.hid ea
 have j0:(how%4==0)=false:=by rw [hj];rfl
 have j1:(how%4==1)=true:=by rw [hj];rfl
 have j2:(how%4==2)=false:=by rw [hj];rfl
 clear hr hrz hv hz ev eb ec ea hj
 have HX:=Lib.hid (rfl:x.length=x.length)
 have d1:decide ((200:Int)<(raw.length:Int))=false:=decide_eq_false (by omega)
 have d2:decide ((60:Int)<(x.length:Int))=false:=decide_eq_false (by omega)
 have d3:decide (200<raw.length)=false:=decide_eq_false (by omega)
 have d4:decide (60<x.length)=false:=decide_eq_false (by omega)
 have HS:=Lib.hid (fun W (h:BytesAt W W.heap.size (.slice A x.length cx) x)=>seatP_any k a b c A x.length cx x W k0 k1 a0 a1 b0 b1 c0 c1 h rfl h2 HZ.out)
 unfold SeatPost at HS
 go_enter Try.func4,Try.ntmps4
 go_wp2_with fail
 refine (known3_any w).mono ?_
 rintro e w1 ⟨rfl,hb1⟩
 go_wp2_with fail
 refine (HS.out w1 (HV.out.on hb1)).mono ?_
 rintro e w2 ⟨p,s,rfl,hp,hn,hg,hb2⟩
 have F1:=Lib.hid (show 1≤(encP p).length from by unfold encP;simp)
 have F2:=Lib.hid (show (encP p).length≤9000 from by
  have h1:=enc_len p
  have h2:=putL_len (lenP p)
  have h3:=(right_f p hg.2).len
  omega)
 have HBY:=Lib.hid (sbytes_any p s w2 hp hn hg)
 unfold NewPost at HBY
 have B2:=Lib.hid (thn hb1 hb2)
 clear hp hn hg hb1 hb2 HS
 generalize hL:encP p=L at *
 clear hL
 go_wp2_with fail
 refine HBY.out.mono ?_
 rintro e w3 ⟨A3,c3,rfl,o3,hb3⟩
 have B3:=Lib.hid (thn B2.out hb3)
 have O3:=Lib.hid o3
 have e1:=F1.out
 have e2:=F2.out
 clear o3 hb3 B2 HBY
 have P3:=Lib.hid (RowAt.own O3.out rfl (by omega))
 generalize hE:L.length=E at *
 have HE:=Lib.hid hE
 clear hE
 go_wp2_with (at_builtin;go_must (refine ap_bytes w3.heap.size none 0 0 [] w3.heap.size A3 c3 E L (by rfl) (by rfl) (World.ownsRow_nil _ _ _ _) (by have q:=O3.out;rw [←HE.out] at q ⊢;exact ownsBytes q) (own_nz O3.out) (by omega) (Nat.le_refl _) ?_))
 intro A4 c4 w4 o4 a4
 simp only [Nat.zero_add,List.nil_append] at o4 a4 ⊢
 have hb4:Below w3.heap.size w3 w4:=a4.below _ (Nat.le_refl _) (fun k hk=>by cases hk)
 have B4:=Lib.hid (thn B3.out hb4)
 have P4:=Lib.hid (P3.out.on hb4)
 have P4b:=Lib.hid (P3.out.below hb4)
 have R4:=Lib.hid (HR.out.on B4.out)
 rcases o4.2 with ⟨_,e0⟩ | ⟨g,cap,cur,hv4,hg1,hg2,hg3,hg4,hg5,hg6⟩
 ·omega
 injection hv4 with v1' v2' v3'
 subst v1' v3'
 have hgB:w.heap.size≤g:=by have:=B3.out.size;omega
 have hgs:g<w4.heap.size:=(Array.getElem?_eq_some_iff.1 hg2).1
 have Q4:=Lib.hid (And.intro o4 (by rw [←HE.out] at o4;exact ownsBytes o4:BytesAt w4 w4.heap.size (.slice (some ⟨g,0,none⟩) L.length c4) L))
 have gcell:∀j,w4.cell? ⟨g,j,none⟩=cur[j]? := row_cells hg2
 have gfrz:=fun j=>frozen_of_row w4 g j _ _ hg2
 clear o4 a4 hb4 B3 P3 hg5 hg6 hg2 v2'
 have RB:=Lib.hid (HR.out.on B4.out)
 have RW:Hid (RowAt w4 w4.heap.size (.slice rA raw.length rc)):=Lib.hid ⟨_,_,raw,rfl,by omega,RB.out⟩
 have PW:=P4
 have BW:=B4
 obtain ⟨i,hi⟩:∃i,i=t%E:=⟨_,rfl⟩
 have iE:i<E:=by rw [hi];exact Nat.mod_lt _ (by omega)
 have ie:(t:Int)%(E:Int)=(i:Int):=by rw [hi];rfl
 have ie2:t%E=i:=hi.symm
 have iE2:(i:Int)<(E:Int):=by omega
 clear hi
 have Q5:Hid (RowAt w4 w4.heap.size (.slice (some ⟨g,0,none⟩) i c4)):=Lib.hid (by
  have q:=BytesAt.tk Q4.out.2 i (by rw [HE.out];omega)
  have e:(L.take i).length=i:=by rw [List.length_take,HE.out];omega
  exact ⟨some ⟨g,0,none⟩,c4,L.take i,by rw [e],by rw [e];omega,q⟩)
 clear Q4 gcell gfrz
 have hSB:w.heap.size≤w4.heap.size:=by have q:=BW.out.size;simpa using q
 have o6:(((w4.alloc (.cells #[.int .u8 v,.int .u8 0] 5)).alloc (.cells #[.int .u8 v,.int .u8 2,.int .u8 a,.int .u8 b] 5)).alloc (.cells #[.int .u8 v] 5)).ownsRow w4.heap.size 5 1 (.slice (some ⟨w4.heap.size+1+1,0,none⟩) 1 1) 1 (Lib.byteCells [vb]):=by
  have q:=own_new w4.heap.size ((w4.alloc (.cells #[.int .u8 v,.int .u8 0] 5)).alloc (.cells #[.int .u8 v,.int .u8 2,.int .u8 a,.int .u8 b] 5)) [vb] #[.int .u8 v] (by simp [Lib.byteCells,EV.out]) (by simp;omega) (by unfold maxLen;simp)
  rw [show ((w4.alloc (.cells #[.int .u8 v,.int .u8 0] 5)).alloc (.cells #[.int .u8 v,.int .u8 2,.int .u8 a,.int .u8 b] 5)).heap.size=w4.heap.size+1+1 by simp] at q
  exact q
 have r0:RowAt ((w4.alloc (.cells #[.int .u8 v,.int .u8 0] 5)).alloc (.cells #[.int .u8 v,.int .u8 2,.int .u8 a,.int .u8 b] 5)) ((w4.alloc (.cells #[.int .u8 v,.int .u8 0] 5)).alloc (.cells #[.int .u8 v,.int .u8 2,.int .u8 a,.int .u8 b] 5)).heap.size (.slice (some ⟨w4.heap.size,0,none⟩) 2 2):=(RowAt.new w4 _ (by simp) [vb,0] _ _ rfl (by simp [EV.out]) (by simp)).alc _
 have r1:RowAt ((w4.alloc (.cells #[.int .u8 v,.int .u8 0] 5)).alloc (.cells #[.int .u8 v,.int .u8 2,.int .u8 a,.int .u8 b] 5)) ((w4.alloc (.cells #[.int .u8 v,.int .u8 0] 5)).alloc (.cells #[.int .u8 v,.int .u8 2,.int .u8 a,.int .u8 b] 5)).heap.size (.slice (some ⟨w4.heap.size+1,0,none⟩) 4 4):=RowAt.new (w4.alloc (.cells #[.int .u8 v,.int .u8 0] 5)) _ (by simp) [vb,2,ba,bb] _ _ rfl (by simp [EV.out,EA.out,EB.out]) (by simp)
 have O6:=Lib.hid o6
 have R6:=Lib.hid (And.intro r0 (And.intro r1 (And.intro ((RW.out.alc (.cells #[.int .u8 v,.int .u8 0] 5)).alc (.cells #[.int .u8 v,.int .u8 2,.int .u8 a,.int .u8 b] 5)) (And.intro ((PW.out.alc (.cells #[.int .u8 v,.int .u8 0] 5)).alc (.cells #[.int .u8 v,.int .u8 2,.int .u8 a,.int .u8 b] 5)) ((Q5.out.alc (.cells #[.int .u8 v,.int .u8 0] 5)).alc (.cells #[.int .u8 v,.int .u8 2,.int .u8 a,.int .u8 b] 5))))))
 have hb6:Below w4.heap.size w4 (((w4.alloc (.cells #[.int .u8 v,.int .u8 0] 5)).alloc (.cells #[.int .u8 v,.int .u8 2,.int .u8 a,.int .u8 b] 5)).alloc (.cells #[.int .u8 v] 5)):=(((Below.refl _ _).alloc (Nat.le_refl _) _).alloc (by simp) _).alloc (by simp;omega) _
 have BW6:=Lib.hid (thn BW.out hb6)
 have V6:=Lib.hid (RB.out.on hb6)
 clear o6 r0 r1 hb6 RW PW Q5 BW RB
 go_wp2_with (at_builtin;go_must (refine ap_bytes w4.heap.size (some ⟨w4.heap.size+1+1,0,none⟩) 1 1 [vb] _ rA rc raw.length raw (by rfl) (by rfl) O6.out V6.out HRZ.out (by omega) (by simp;omega) ?_))
 intro A7 c7 w7 o7 a7
 have hb7:Below (w4.heap.size+1+1) (((w4.alloc (.cells #[.int .u8 v,.int .u8 0] 5)).alloc (.cells #[.int .u8 v,.int .u8 2,.int .u8 a,.int .u8 b] 5)).alloc (.cells #[.int .u8 v] 5)) w7:=a7.below _ (by simp) (fun k hk=>by injection hk with hk;rw [←hk];exact Nat.le_refl _)
 have hz7:w4.heap.size+1+1≤w7.heap.size:=by have:=hb7.size;simp at this;omega
 have BB:Below w.heap.size w w7:=BW6.out.trans (hb7.mono (by omega))
 have up:∀u,RowAt ((w4.alloc (.cells #[.int .u8 v,.int .u8 0] 5)).alloc (.cells #[.int .u8 v,.int .u8 2,.int .u8 a,.int .u8 b] 5)) ((w4.alloc (.cells #[.int .u8 v,.int .u8 0] 5)).alloc (.cells #[.int .u8 v,.int .u8 2,.int .u8 a,.int .u8 b] 5)).heap.size u→RowAt w7 w7.heap.size u:=fun u h=>by
  obtain ⟨A',cap',l',h1,h3,h4⟩:=h
  rw [show ((w4.alloc (.cells #[.int .u8 v,.int .u8 0] 5)).alloc (.cells #[.int .u8 v,.int .u8 2,.int .u8 a,.int .u8 b] 5)).heap.size=w4.heap.size+1+1 by simp] at h4
  have q:=(h4.below ((Below.refl _ _).alloc (by simp) (.cells #[.int .u8 v] 5))).below hb7
  exact ⟨A',cap',l',h1,h3,q.more hz7⟩
 have ROWS:=RowsAt.new w7 [.slice rA raw.length rc,.slice A3 E c3,.slice (some ⟨g,0,none⟩) i c4,.slice (some ⟨w4.heap.size,0,none⟩) 2 2,.slice (some ⟨w4.heap.size+1,0,none⟩) 4 4,.slice A7 (1+raw.length) c7] 22 (by
  intro u hu
  simp only [List.mem_cons,List.not_mem_nil,or_false] at hu
  rcases hu with rfl | rfl | rfl | rfl | rfl | rfl
  ·exact up _ R6.out.2.2.1
  ·exact up _ R6.out.2.2.2.1
  ·exact up _ R6.out.2.2.2.2
  ·exact up _ R6.out.1
  ·exact up _ R6.out.2.1
  ·exact RowAt.own o7 (by simp;omega) (by simp;omega))
 have hbF:Below w7.heap.size w7 (w7.alloc (.cells #[.slice rA raw.length rc,.slice A3 E c3,.slice (some ⟨g,0,none⟩) i c4,.slice (some ⟨w4.heap.size,0,none⟩) 2 2,.slice (some ⟨w4.heap.size+1,0,none⟩) 4 4,.slice A7 (1+raw.length) c7] 22)):=(Below.refl _ _).alloc (Nat.le_refl _) _
 have ROWS2:RowsAt (w7.alloc (.cells #[.slice rA raw.length rc,.slice A3 E c3,.slice (some ⟨g,0,none⟩) i c4,.slice (some ⟨w4.heap.size,0,none⟩) 2 2,.slice (some ⟨w4.heap.size+1,0,none⟩) 4 4,.slice A7 (1+raw.length) c7] 22)) (w7.alloc (.cells #[.slice rA raw.length rc,.slice A3 E c3,.slice (some ⟨g,0,none⟩) i c4,.slice (some ⟨w4.heap.size,0,none⟩) 2 2,.slice (some ⟨w4.heap.size+1,0,none⟩) 4 4,.slice A7 (1+raw.length) c7] 22)).heap.size w7.heap.size 6:=ROWS
 have HROWS:=Lib.hid (And.intro ROWS2 (thn BB hbF))
 clear ROWS ROWS2 hbF BB up hz7 hb7 o7 a7 R6 O6 V6 BW6
 go_wp2_with fail
 obtain ⟨WF,hWF⟩:∃WF,WF=(w7.alloc (.cells #[.slice rA raw.length rc,.slice A3 E c3,.slice (some ⟨g,0,none⟩) i c4,.slice (some ⟨w4.heap.size,0,none⟩) 2 2,.slice (some ⟨w4.heap.size+1,0,none⟩) 4 4,.slice A7 (1+raw.length) c7] 22)):=⟨_,rfl⟩
 rw [←hWF] at HROWS ⊢
 go_loopw [110] (fun i wr=>∃k:Nat,k≤6∧i=.int .i64 k∧Hid (RowsAt wr WF.heap.size w7.heap.size 6∧Below w.heap.size w wr)) (fun i _=>6 - (intOf i).toNat)
 case atStart=>exact ⟨0,by omega,rfl,HROWS⟩
 case round =>
  obtain ⟨kk,hk,rfl,hR⟩:=hrel
  clear HROWS hWF EV EA EB EC HV HZ HR HRZ HX HE F1 F2
  clear k0 k1 a0 a1 b0 b1 c0 c1 o0 o1 v0 v1 j0 j1 j2 d1 d2 d3 d4
  by_cases hlt:kk<6
  ·obtain ⟨v,hcell,A1,cap1,l,rfl,hl,hby⟩:=hR.out.1.2.2 kk hlt
   have hG:=hR.out.1.2.1
   have OK:=Lib.hid (rdP_ok l hl)
   have HW1:=Lib.hid (wread_any A1 cap1 l wr (hby.more hG) hl)
   have HD:=Lib.hid (fun W (h:Below wr.heap.size wr W)=>dread_any A1 cap1 l WF.heap.size W (Nat.le_trans hG h.size) (hby.below (h.mono hG)) hl)
   generalize rdP l=t at *
   obtain ⟨p,z,ee⟩:=t
   simp only at OK
   unfold RdPost at HW1
   unfold DRdPost at HD
   simp only at HW1 HD
   clear hby hG
   generalize l.length=m2 at *
   go_wp2_with fail
   refine HW1.out.mono ?_
   rintro e w2 ⟨s,rfl,hp,hb2⟩
   have P2:=Lib.hid hp.at_
   have B2:=Lib.hid hb2
   have g2:=heap_alloc_last w2 (.cells (pkC p s) 28)
   have b3:Below wr.heap.size wr (w2.alloc (.cells (pkC p s) 28)):=B2.out.alloc B2.out.size _
   clear hp hb2 HW1 hcell
   go_wp2_with ((with_reducible show wpList _ _ _ (⟨_,.store 28 (.tmp 24) _,_,_,_,_⟩ :: _) _ _);refine stLst (w2.heap.size) (by rfl) _ (pkC p s) (by rfl) (by rfl) (by rfl) (by rfl) (pkc_one _ _) ?_)
   refine (HD.out _ b3).mono ?_
   rintro e w4 ⟨s4,rfl,hp4,hn4,hb4⟩
   have G4:=Lib.hid (heap_below hb4 g2)
   have P4:=Lib.hid (P2.out.on (((Below.refl _ w2).alloc (Nat.le_refl _) _).trans (hb4.mono (by simp))))
   have Q4:=Lib.hid hp4
   have B4:=Lib.hid (thn b3 hb4)
   have hz4:w2.heap.size<w4.heap.size:=by have:=hb4.size;simp at this;omega
   clear hp4 hn4 hb4 g2 b3 P2 B2 HD
   have hbl:Below w4.heap.size w4 (w4.alloc (.cells (pkC p s4) 28)):=(Below.refl _ _).alloc (Nat.le_refl _) _
   have G5:=Lib.hid (heap_below hbl G4.out)
   have P5:=Lib.hid (P4.out.on hbl)
   have Q5:=Lib.hid (Q4.out.on hbl)
   have B5:=Lib.hid (thn B4.out hbl)
   clear hbl G4 P4 Q4 B4
   go_wp2_with (first
    | ((with_reducible show wpList _ _ _ (⟨_,.store 28 (.tmp 27) _,_,_,_,_⟩ :: _) _ _);refine stLst (w4.heap.size) (by rfl) _ (pkC p s4) (by rfl) (by rfl) (by rfl) (by rfl) (pkc_one _ _) ?_)
    | ((with_reducible show wpList _ _ _ (⟨_,.load 28 (.tmp 24),_,_,_,_⟩ :: _) _ _);refine ld_pk (w2.heap.size) (by rfl) (by rfl) (pkC p s) _ _ (by exact G5.out) (by rfl) ?_)
    | ((with_reducible show wpList _ _ _ (⟨_,.load 28 (.tmp 27),_,_,_,_⟩ :: _) _ _);refine ld_pk (w4.heap.size) (by rfl) (by rfl) (pkC p s4) _ _ (by exact heap_alloc_last _ _) (by rfl) ?_))
   refine (rsame_any p p s s4 _ _ P5.out Q5.out (Nat.le_refl _) OK.out.subs OK.out.codes).mono (fun e w' h=>(⟨h.1.trans (by simp),h.2⟩:e=.returned (.bool true)∧Below _ _ w')) |>.mono ?_
   rintro e w6 ⟨rfl,hb6⟩
   have B6:=thn B5.out hb6
   have HE:=Lib.hid (And.intro (hR.out.1.below B6) (thn hR.out.2 B6))
   clear hb6 B6 G5 P5 Q5 B5
   go_wp2_with fail
   go_roundw
   case rel=>exact ⟨kk+1,by omega,by go_num,HE⟩
   case measure=>simp [intOf];omega
  ·obtain rfl:kk=6:=by omega
   go_wp2_with fail
   go_ret
   exact ⟨rfl,hR.out.2⟩
end Go.Proofs.Ytnhpacaoobpkhaa
