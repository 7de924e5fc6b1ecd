import Derived.Test.YtnhpacaoobpkhaaDTool
namespace Go.Proofs.Ytnhpacaoobpkhaa
open Go.RowKit Go.Lib
set_option linter.unusedSimpArgs false
set_option linter.unusedVariables false
set_option maxRecDepth 100000
set_option maxHeartbeats 16000000
theorem dpar_1y (c:Int)(h0:0≤c)(h1:c≤255)(hj:c / 16=1)(B r:Nat)(S:PS)(w:World)(h:PtS w B r S)(hmq:(bytesOfL (lpD S).1=mqtt)=True) :
  Calls Try.prog 58 #[.int .u8 c,.pointer (some ⟨r,0,none⟩)] w (DParPost w B r (parD c S).1 (parD c S).2):=by
 have k1:((docP c).kind==1)=true:=by rw [docP_k,hj];rfl
 have m1:(c / 16==1)=true:=by rw [hj];rfl
 have k2:((docP c).kind==2)=false:=by rw [docP_k,hj];rfl
 have m2:(c / 16==2)=false:=by rw [hj];rfl
 have k3:((docP c).kind==3)=false:=by rw [docP_k,hj];rfl
 have m3:(c / 16==3)=false:=by rw [hj];rfl
 have k8:((docP c).kind==8)=false:=by rw [docP_k,hj];rfl
 have m8:(c / 16==8)=false:=by rw [hj];rfl
 have k9:((docP c).kind==9)=false:=by rw [docP_k,hj];rfl
 have m9:(c / 16==9)=false:=by rw [hj];rfl
 have k10:((docP c).kind==10)=false:=by rw [docP_k,hj];rfl
 have m10:(c / 16==10)=false:=by rw [hj];rfl
 have k12:((docP c).kind==12)=false:=by rw [docP_k,hj];rfl
 have m12:(c / 16==12)=false:=by rw [hj];rfl
 have k13:((docP c).kind==13)=false:=by rw [docP_k,hj];rfl
 have m13:(c / 16==13)=false:=by rw [hj];rfl
 have k14:((docP c).kind==14)=false:=by rw [docP_k,hj];rfl
 have m14:(c / 16==14)=false:=by rw [hj];rfl
 have L0:=h.le
 obtain ⟨⟨X0,S1⟩,e0⟩:∃a,lpD S=a:=⟨_,rfl⟩
 have L1:=lp_le e0 L0
 obtain ⟨⟨lv,S2⟩,e1⟩:∃a,nmD 1 S1=a:=⟨_,rfl⟩
 have L2:=nm_le e1 L1
 obtain ⟨⟨f,S3⟩,e2⟩:∃a,nmD 1 S2=a:=⟨_,rfl⟩
 have L3:=nm_le e2 L2
 obtain ⟨⟨kp,S4⟩,e3⟩:∃a,nmD 2 S3=a:=⟨_,rfl⟩
 have L4:=nm_le e3 L3
 obtain ⟨⟨X4,S5⟩,e4⟩:∃a,lpD S4=a:=⟨_,rfl⟩
 have L5:=lp_le e4 L4
 have fb:0≤f∧f≤255:=by have q:=nmD_in1 S2;rw [e2] at q;exact q
 obtain ⟨c2,c4,c128,c64,c32,c8⟩:=con_bits ⟨f.toNat,by omega⟩
 simp only [Int.toNat_of_nonneg fb.1] at c2 c4 c128 c64 c32 c8
 rw [e0] at hmq
 simp only at hmq
 have G0:=Lib.hid (fun W q=>lump_e B r e0 W q)
 have G1:=Lib.hid (fun W q=>number_e B r 1 (by omega) e1 W q)
 have G2:=Lib.hid (fun W q=>number_e B r 1 (by omega) e2 W q)
 have G3:=Lib.hid (fun W q=>number_e B r 2 (by omega) e3 W q)
 have G4:=Lib.hid (fun W q=>lump_e B r e4 W q)
 generalize hcl:(f / 2%2==1)=cl at *
 generalize hwr:(f / 32%2==1)=wr at *
 have wq0:0≤f / 8%4:=by omega
 have wq1:f / 8%4≤3:=by omega
 generalize hwq:f / 8%4=wq at *
 have hm2:((bytesOfL X0).toList==[77,81,84,84])=true:=by
  have q:(bytesOfL X0=mqtt)↔(bytesOfL X0).toList=[77,81,84,84]:=mq_iff _
  rw [Bool.eq_iff_iff]
  simp only [beq_iff_eq,←q,hmq]
  try simp
 have H0:=Lib.hid (DSt.start w B r (docP c) S h rfl rfl rfl rfl rfl)
 have hlt:=h.lt
 have EQ0:∀R:Pk×PS,conD c S=R→parD c S=R:=fun R h=>by simp only [parD,m1,if_true];exact h
 obtain ⟨R,hR⟩:∃R,parD c S=R:=⟨_,rfl⟩
 rw [hR]
 generalize hhw:(f / 4%2==1)=hw at *
 generalize hhu:(f / 128%2==1)=hu at *
 generalize hhp:(f / 64%2==1)=hp at *
 have EQC:Hid (R=({docP c with level:=lv,keep:=kp,cli:=bytesOfL X4,clean:=cl,hw:=hw,hp:=hp,hu:=hu,wqos:=wq,wret:=wr,wtop:=bytesOfL (if hw then lpD S5 else ([],S5)).1,wpay:=(if hw then lpD (if hw then lpD S5 else ([],S5)).2 else ([],(if hw then lpD S5 else ([],S5)).2)).1,user:=bytesOfL (if hu then lpD (if hw then lpD (if hw then lpD S5 else ([],S5)).2 else ([],(if hw then lpD S5 else ([],S5)).2)).2 else ([],(if hw then lpD (if hw then lpD S5 else ([],S5)).2 else ([],(if hw then lpD S5 else ([],S5)).2)).2)).1,pass:=(conT hw hu hp S5).1},(conT hw hu hp S5).2)):=Lib.hid (by
  rw [←hR];refine EQ0 _ ?_
  simp only [conD,e0,hmq,if_true,e1,e2,e3,e4,hhw,hhu,hhp,hcl,hwq,hwr]
  rfl)
 clear EQ0 hR hj h hcl hwq hwr hhw hhu hhp hmq m1 m2 m3 m8 m9 m10 m12 m13 m14 e0 e1 e2 e3 e4 L0 L1 L2 L3 L4
 go_enter Try.func58,Try.ntmps58
 go_wp2_with ((with_reducible show wpList _ _ _ (⟨_,.store 28 (.tmp 5) _,_,_,_,_⟩ :: _) _ _);refine stLst (w.heap.size+1) (by simp) _ (pkC (docP c) sv0) (by rfl) (by rfl) (by rfl) (by rfl) (pkc_one _ _) ?_)
 go_wp2_with fail
 refine (G0.out _ (H0.out).part).mono ?_
 rintro e w1 ⟨rfl,h1,t1⟩
 have H1:Hid (DSt w B r w.heap.size (docP c) (sv0) (S1) w1):=Lib.hid ((H0.out).call h1 t1)
 have rc1:=H1.out.cells
 have rf1:=H1.out.frz
 clear h1 t1
 go_wp2_with fail
 refine (G1.out _ (H1.out).part).mono ?_
 rintro e w2 ⟨rfl,h2,t2⟩
 have H2:Hid (DSt w B r w.heap.size (docP c) (sv0) (S2) w2):=Lib.hid ((H1.out).call h2 t2)
 have rc2:=H2.out.cells
 have rf2:=H2.out.frz
 clear h2 t2 rc1 rf1
 go_wp2_with fail
 refine (G2.out _ (((H2.out).put (p':={docP c with level:=lv}) (s':=sv0) 7 (.int .i64 lv) rfl (fun X=>⟨X.pay,X.payn,X.wpay,X.pass,X.subs,X.codes⟩))).part).mono ?_
 rintro e w3 ⟨rfl,h3,t3⟩
 have H3:Hid (DSt w B r w.heap.size ({docP c with level:=lv}) (sv0) (S3) w3):=Lib.hid ((((H2.out).put (p':={docP c with level:=lv}) (s':=sv0) 7 (.int .i64 lv) rfl (fun X=>⟨X.pay,X.payn,X.wpay,X.pass,X.subs,X.codes⟩))).call h3 t3)
 have rc3:=H3.out.cells
 have rf3:=H3.out.frz
 clear h3 t3 rc2 rf2
 go_wp2_with fail
 refine (G3.out _ (H3.out).part).mono ?_
 rintro e w4 ⟨rfl,h4,t4⟩
 have H4:Hid (DSt w B r w.heap.size ({docP c with level:=lv}) (sv0) (S4) w4):=Lib.hid ((H3.out).call h4 t4)
 have rc4:=H4.out.cells
 have rf4:=H4.out.frz
 clear h4 t4 rc3 rf3
 go_wp2_with fail
 refine (G4.out _ (((H4.out).put (p':={docP c with level:=lv,keep:=kp}) (s':=sv0) 10 (.int .i64 kp) rfl (fun X=>⟨X.pay,X.payn,X.wpay,X.pass,X.subs,X.codes⟩))).part).mono ?_
 rintro e w5 ⟨rfl,h5,t5⟩
 have H5:Hid (DSt w B r w.heap.size ({docP c with level:=lv,keep:=kp}) (sv0) (S5) w5):=Lib.hid ((((H4.out).put (p':={docP c with level:=lv,keep:=kp}) (s':=sv0) 10 (.int .i64 kp) rfl (fun X=>⟨X.pay,X.payn,X.wpay,X.pass,X.subs,X.codes⟩))).call h5 t5)
 have rc5:=H5.out.cells
 have rf5:=H5.out.frz
 clear h5 t5 rc4 rf4
 have HP0:Hid (DSt w B r w.heap.size ({docP c with level:=lv,keep:=kp,cli:=bytesOfL X4,clean:=cl,hw:=hw,hp:=hp,hu:=hu,wqos:=wq,wret:=wr}) (sv0) (S5) (((((((w5.setCell ⟨w.heap.size+1,8,none⟩ (.string (bytesOfL X4))).setCell ⟨w.heap.size+1,9,none⟩ (.bool cl)).setCell ⟨w.heap.size+1,11,none⟩ (.bool hw)).setCell ⟨w.heap.size+1,17,none⟩ (.bool hp)).setCell ⟨w.heap.size+1,16,none⟩ (.bool hu)).setCell ⟨w.heap.size+1,14,none⟩ (.int .i64 wq)).setCell ⟨w.heap.size+1,15,none⟩ (.bool wr))):=Lib.hid (((((((((((((((H5.out).put (p':={docP c with level:=lv,keep:=kp,cli:=bytesOfL X4}) (s':=sv0) 8 (.string (bytesOfL X4)) rfl (fun X=>⟨X.pay,X.payn,X.wpay,X.pass,X.subs,X.codes⟩))).put (p':={docP c with level:=lv,keep:=kp,cli:=bytesOfL X4,clean:=cl}) (s':=sv0) 9 (.bool cl) rfl (fun X=>⟨X.pay,X.payn,X.wpay,X.pass,X.subs,X.codes⟩))).put (p':={docP c with level:=lv,keep:=kp,cli:=bytesOfL X4,clean:=cl,hw:=hw}) (s':=sv0) 11 (.bool hw) rfl (fun X=>⟨X.pay,X.payn,X.wpay,X.pass,X.subs,X.codes⟩))).put (p':={docP c with level:=lv,keep:=kp,cli:=bytesOfL X4,clean:=cl,hw:=hw,hp:=hp}) (s':=sv0) 17 (.bool hp) rfl (fun X=>⟨X.pay,X.payn,X.wpay,X.pass,X.subs,X.codes⟩))).put (p':={docP c with level:=lv,keep:=kp,cli:=bytesOfL X4,clean:=cl,hw:=hw,hp:=hp,hu:=hu}) (s':=sv0) 16 (.bool hu) rfl (fun X=>⟨X.pay,X.payn,X.wpay,X.pass,X.subs,X.codes⟩))).put (p':={docP c with level:=lv,keep:=kp,cli:=bytesOfL X4,clean:=cl,hw:=hw,hp:=hp,hu:=hu,wqos:=wq}) (s':=sv0) 14 (.int .i64 wq) rfl (fun X=>⟨X.pay,X.payn,X.wpay,X.pass,X.subs,X.codes⟩))).put (p':={docP c with level:=lv,keep:=kp,cli:=bytesOfL X4,clean:=cl,hw:=hw,hp:=hp,hu:=hu,wqos:=wq,wret:=wr}) (s':=sv0) 15 (.bool wr) rfl (fun X=>⟨X.pay,X.payn,X.wpay,X.pass,X.subs,X.codes⟩)))
 cases hw with
 | true =>
  obtain ⟨⟨X5,S6⟩,e5⟩:∃a,lpD S5=a:=⟨_,rfl⟩
  have L6:=lp_le e5 L5
  have G5:=Lib.hid (fun W q=>lump_e B r e5 W q)
  obtain ⟨⟨X6,S7⟩,e6⟩:∃a,lpD S6=a:=⟨_,rfl⟩
  have L7:=lp_le e6 L6
  have G6:=Lib.hid (fun W q=>lump_e B r e6 W q)
  have Z6:=Lib.hid (lp_sz e6 L6)
  simp only [if_true,e5,e6,conT] at EQC
  clear e5 e6
  go_wp2_with fail
  refine (G5.out _ (HP0.out).part).mono ?_
  rintro e w6 ⟨rfl,h6,t6⟩
  have H6:Hid (DSt w B r w.heap.size ({docP c with level:=lv,keep:=kp,cli:=bytesOfL X4,clean:=cl,hw:=true,hp:=hp,hu:=hu,wqos:=wq,wret:=wr}) (sv0) (S6) w6):=Lib.hid ((HP0.out).call h6 t6)
  have rc6:=H6.out.cells
  have rf6:=H6.out.frz
  clear h6 t6 rc5 rf5
  go_wp2_with fail
  refine (G6.out _ (((H6.out).put (p':={docP c with level:=lv,keep:=kp,cli:=bytesOfL X4,clean:=cl,hw:=true,hp:=hp,hu:=hu,wqos:=wq,wret:=wr,wtop:=bytesOfL X5}) (s':=sv0) 12 (.string (bytesOfL X5)) rfl (fun X=>⟨X.pay,X.payn,X.wpay,X.pass,X.subs,X.codes⟩))).part).mono ?_
  rintro e w7 ⟨rfl,h7,t7⟩
  have H7:Hid (DSt w B r w.heap.size ({docP c with level:=lv,keep:=kp,cli:=bytesOfL X4,clean:=cl,hw:=true,hp:=hp,hu:=hu,wqos:=wq,wret:=wr,wtop:=bytesOfL X5}) (sv0) (S7) w7):=Lib.hid ((((H6.out).put (p':={docP c with level:=lv,keep:=kp,cli:=bytesOfL X4,clean:=cl,hw:=true,hp:=hp,hu:=hu,wqos:=wq,wret:=wr,wtop:=bytesOfL X5}) (s':=sv0) 12 (.string (bytesOfL X5)) rfl (fun X=>⟨X.pay,X.payn,X.wpay,X.pass,X.subs,X.codes⟩))).call h7 t7)
  have rc7:=H7.out.cells
  have rf7:=H7.out.frz
  clear h7 t7 rc6 rf6
  obtain ⟨C6,V6,cv6,hn6,hb6⟩:=conv_new X6 X6.length (w.heap.size+2) rfl w7 Z6.out (by have:=H7.out.size;omega)
  have K6:=Lib.hid (H7.out.below hb6)
  have N6:=Lib.hid hn6
  clear hn6 hb6 rc7 rf7
  have rc7:=K6.out.cells
  have rf7:=K6.out.frz
  have HP1:Hid (DSt w B r w.heap.size ({docP c with level:=lv,keep:=kp,cli:=bytesOfL X4,clean:=cl,hw:=true,hp:=hp,hu:=hu,wqos:=wq,wret:=wr,wtop:=bytesOfL X5,wpay:=X6}) ({sv0 with wA:=some ⟨w7.heap.size,0,none⟩,wC:=C6}) (S7) (V6.setCell ⟨w.heap.size+1,13,none⟩ (.slice (some ⟨w7.heap.size,0,none⟩) X6.length C6))):=Lib.hid (((K6.out).put (p':={docP c with level:=lv,keep:=kp,cli:=bytesOfL X4,clean:=cl,hw:=true,hp:=hp,hu:=hu,wqos:=wq,wret:=wr,wtop:=bytesOfL X5,wpay:=X6}) (s':={sv0 with wA:=some ⟨w7.heap.size,0,none⟩,wC:=C6}) 13 (.slice (some ⟨w7.heap.size,0,none⟩) X6.length C6) rfl (fun X=>⟨X.pay,X.payn,N6.out,X.pass,X.subs,X.codes⟩)))
  cases hu with
  | true =>
   obtain ⟨⟨X7,S8⟩,e7⟩:∃a,lpD S7=a:=⟨_,rfl⟩
   have L8:=lp_le e7 L7
   have G7:=Lib.hid (fun W q=>lump_e B r e7 W q)
   simp only [if_true,e7] at EQC
   clear e7
   go_wp2_with fail
   refine (G7.out _ (HP1.out).part).mono ?_
   rintro e w8 ⟨rfl,h8,t8⟩
   have H8:Hid (DSt w B r w.heap.size ({docP c with level:=lv,keep:=kp,cli:=bytesOfL X4,clean:=cl,hw:=true,hp:=hp,hu:=true,wqos:=wq,wret:=wr,wtop:=bytesOfL X5,wpay:=X6}) ({sv0 with wA:=some ⟨w7.heap.size,0,none⟩,wC:=C6}) (S8) w8):=Lib.hid ((HP1.out).call h8 t8)
   have rc8:=H8.out.cells
   have rf8:=H8.out.frz
   clear h8 t8 rc7 rf7
   have HP2:Hid (DSt w B r w.heap.size ({docP c with level:=lv,keep:=kp,cli:=bytesOfL X4,clean:=cl,hw:=true,hp:=hp,hu:=true,wqos:=wq,wret:=wr,wtop:=bytesOfL X5,wpay:=X6,user:=bytesOfL X7}) ({sv0 with wA:=some ⟨w7.heap.size,0,none⟩,wC:=C6}) (S8) (w8.setCell ⟨w.heap.size+1,18,none⟩ (.string (bytesOfL X7)))):=Lib.hid (((H8.out).put (p':={docP c with level:=lv,keep:=kp,cli:=bytesOfL X4,clean:=cl,hw:=true,hp:=hp,hu:=true,wqos:=wq,wret:=wr,wtop:=bytesOfL X5,wpay:=X6,user:=bytesOfL X7}) (s':={sv0 with wA:=some ⟨w7.heap.size,0,none⟩,wC:=C6}) 18 (.string (bytesOfL X7)) rfl (fun X=>⟨X.pay,X.payn,X.wpay,X.pass,X.subs,X.codes⟩)))
   cases hp with
   | true =>
    obtain ⟨⟨X8,S9⟩,e8⟩:∃a,lpD S8=a:=⟨_,rfl⟩
    have L9:=lp_le e8 L8
    have G8:=Lib.hid (fun W q=>lump_e B r e8 W q)
    simp only [if_true,e8] at EQC
    have Z8:=Lib.hid (lp_sz e8 L8)
    clear e8
    go_wp2_with fail
    refine (G8.out _ (HP2.out).part).mono ?_
    rintro e w9 ⟨rfl,h9,t9⟩
    have H9:Hid (DSt w B r w.heap.size ({docP c with level:=lv,keep:=kp,cli:=bytesOfL X4,clean:=cl,hw:=true,hp:=true,hu:=true,wqos:=wq,wret:=wr,wtop:=bytesOfL X5,wpay:=X6,user:=bytesOfL X7}) ({sv0 with wA:=some ⟨w7.heap.size,0,none⟩,wC:=C6}) (S9) w9):=Lib.hid ((HP2.out).call h9 t9)
    have rc9:=H9.out.cells
    have rf9:=H9.out.frz
    clear h9 t9 rc8 rf8
    obtain ⟨C8,V8,cv8,hn8,hb8⟩:=conv_new X8 X8.length (w.heap.size+2) rfl w9 Z8.out (by have:=H9.out.size;omega)
    have K8:=Lib.hid (H9.out.below hb8)
    have N8:=Lib.hid hn8
    clear hn8 hb8 rc9 rf9
    have rc9:=K8.out.cells
    have rf9:=K8.out.frz
    go_wp2_with (first
     | ((with_reducible show wpList _ _ _ (⟨_,.load 28 (.tmp 5),_,_,_,_⟩ :: _) _ _);generalize hgen:(V8.setCell ⟨w.heap.size+1,19,none⟩ (.slice (some ⟨w9.heap.size,0,none⟩) X8.length C8))=V9;have HV9:Hid (DSt w B r w.heap.size ({docP c with level:=lv,keep:=kp,cli:=bytesOfL X4,clean:=cl,hw:=true,hp:=true,hu:=true,wqos:=wq,wret:=wr,wtop:=bytesOfL X5,wpay:=X6,user:=bytesOfL X7,pass:=X8}) ({sv0 with wA:=some ⟨w7.heap.size,0,none⟩,wC:=C6,uA:=some ⟨w9.heap.size,0,none⟩,uC:=C8}) (S9) V9):=Lib.hid (hgen ▸ ((K8.out).put (p':={docP c with level:=lv,keep:=kp,cli:=bytesOfL X4,clean:=cl,hw:=true,hp:=true,hu:=true,wqos:=wq,wret:=wr,wtop:=bytesOfL X5,wpay:=X6,user:=bytesOfL X7,pass:=X8}) (s':={sv0 with wA:=some ⟨w7.heap.size,0,none⟩,wC:=C6,uA:=some ⟨w9.heap.size,0,none⟩,uC:=C8}) 19 (.slice (some ⟨w9.heap.size,0,none⟩) X8.length C8) rfl (fun X=>⟨X.pay,X.payn,X.wpay,N8.out,X.subs,X.codes⟩)));clear hgen;refine ld_pk (w.heap.size+1) (by rfl) (by rfl) (pkC ({docP c with level:=lv,keep:=kp,cli:=bytesOfL X4,clean:=cl,hw:=true,hp:=true,hu:=true,wqos:=wq,wret:=wr,wtop:=bytesOfL X5,wpay:=X6,user:=bytesOfL X7,pass:=X8}) ({sv0 with wA:=some ⟨w7.heap.size,0,none⟩,wC:=C6,uA:=some ⟨w9.heap.size,0,none⟩,uC:=C8})) _ _ (by exact HV9.out.row) (by rfl) ?_)
     | ((with_reducible show wpList _ _ _ (⟨_,.store 28 (.tmp 4) _,_,_,_,_⟩ :: _) _ _);refine stR (w.heap.size) _ (pkC ({docP c with level:=lv,keep:=kp,cli:=bytesOfL X4,clean:=cl,hw:=true,hp:=true,hu:=true,wqos:=wq,wret:=wr,wtop:=bytesOfL X5,wpay:=X6,user:=bytesOfL X7,pass:=X8}) ({sv0 with wA:=some ⟨w7.heap.size,0,none⟩,wC:=C6,uA:=some ⟨w9.heap.size,0,none⟩,uC:=C8})) (by rfl) (by rfl) (by exact HV9.out.res) (by rfl) (by rfl) (pkc_one _ _) ?_))
    refine bodyPost_ret (v:=.agg _) (results_cell_row (by rfl) _ _ (w.heap.size) 28 _ (0,0) _ (by rfl) (setRow_heap _ _ _ _ _ _ (by exact HV9.out.res)) Try.underlying28 (by rfl) (by exact pk_sz)) (by rfl) ?_
    rw [EQC.out]
    exact HV9.out.done _
   | false =>
    simp only [if_false,Bool.false_eq_true] at EQC
    go_wp2_with (first
     | ((with_reducible show wpList _ _ _ (⟨_,.load 28 (.tmp 5),_,_,_,_⟩ :: _) _ _);generalize hgen:(w8.setCell ⟨w.heap.size+1,18,none⟩ (.string (bytesOfL X7)))=V9;have HV9:Hid (DSt w B r w.heap.size ({docP c with level:=lv,keep:=kp,cli:=bytesOfL X4,clean:=cl,hw:=true,hp:=false,hu:=true,wqos:=wq,wret:=wr,wtop:=bytesOfL X5,wpay:=X6,user:=bytesOfL X7}) ({sv0 with wA:=some ⟨w7.heap.size,0,none⟩,wC:=C6}) (S8) V9):=Lib.hid (hgen ▸ HP2.out);clear hgen;refine ld_pk (w.heap.size+1) (by rfl) (by rfl) (pkC ({docP c with level:=lv,keep:=kp,cli:=bytesOfL X4,clean:=cl,hw:=true,hp:=false,hu:=true,wqos:=wq,wret:=wr,wtop:=bytesOfL X5,wpay:=X6,user:=bytesOfL X7}) ({sv0 with wA:=some ⟨w7.heap.size,0,none⟩,wC:=C6})) _ _ (by exact HV9.out.row) (by rfl) ?_)
     | ((with_reducible show wpList _ _ _ (⟨_,.store 28 (.tmp 4) _,_,_,_,_⟩ :: _) _ _);refine stR (w.heap.size) _ (pkC ({docP c with level:=lv,keep:=kp,cli:=bytesOfL X4,clean:=cl,hw:=true,hp:=false,hu:=true,wqos:=wq,wret:=wr,wtop:=bytesOfL X5,wpay:=X6,user:=bytesOfL X7}) ({sv0 with wA:=some ⟨w7.heap.size,0,none⟩,wC:=C6})) (by rfl) (by rfl) (by exact HV9.out.res) (by rfl) (by rfl) (pkc_one _ _) ?_))
    refine bodyPost_ret (v:=.agg _) (results_cell_row (by rfl) _ _ (w.heap.size) 28 _ (0,0) _ (by rfl) (setRow_heap _ _ _ _ _ _ (by exact HV9.out.res)) Try.underlying28 (by rfl) (by exact pk_sz)) (by rfl) ?_
    rw [EQC.out]
    exact HV9.out.done _
  | false =>
   simp only [if_false,Bool.false_eq_true] at EQC
   cases hp with
   | true =>
    obtain ⟨⟨X8,S9⟩,e8⟩:∃a,lpD S7=a:=⟨_,rfl⟩
    have L9:=lp_le e8 L7
    have G8:=Lib.hid (fun W q=>lump_e B r e8 W q)
    simp only [if_true,e8] at EQC
    have Z8:=Lib.hid (lp_sz e8 L7)
    clear e8
    go_wp2_with fail
    refine (G8.out _ (HP1.out).part).mono ?_
    rintro e w8 ⟨rfl,h8,t8⟩
    have H8:Hid (DSt w B r w.heap.size ({docP c with level:=lv,keep:=kp,cli:=bytesOfL X4,clean:=cl,hw:=true,hp:=true,hu:=false,wqos:=wq,wret:=wr,wtop:=bytesOfL X5,wpay:=X6}) ({sv0 with wA:=some ⟨w7.heap.size,0,none⟩,wC:=C6}) (S9) w8):=Lib.hid ((HP1.out).call h8 t8)
    have rc8:=H8.out.cells
    have rf8:=H8.out.frz
    clear h8 t8 rc7 rf7
    obtain ⟨C8,V8,cv8,hn8,hb8⟩:=conv_new X8 X8.length (w.heap.size+2) rfl w8 Z8.out (by have:=H8.out.size;omega)
    have K8:=Lib.hid (H8.out.below hb8)
    have N8:=Lib.hid hn8
    clear hn8 hb8 rc8 rf8
    have rc8:=K8.out.cells
    have rf8:=K8.out.frz
    go_wp2_with (first
     | ((with_reducible show wpList _ _ _ (⟨_,.load 28 (.tmp 5),_,_,_,_⟩ :: _) _ _);generalize hgen:(V8.setCell ⟨w.heap.size+1,19,none⟩ (.slice (some ⟨w8.heap.size,0,none⟩) X8.length C8))=V9;have HV9:Hid (DSt w B r w.heap.size ({docP c with level:=lv,keep:=kp,cli:=bytesOfL X4,clean:=cl,hw:=true,hp:=true,hu:=false,wqos:=wq,wret:=wr,wtop:=bytesOfL X5,wpay:=X6,pass:=X8}) ({sv0 with wA:=some ⟨w7.heap.size,0,none⟩,wC:=C6,uA:=some ⟨w8.heap.size,0,none⟩,uC:=C8}) (S9) V9):=Lib.hid (hgen ▸ ((K8.out).put (p':={docP c with level:=lv,keep:=kp,cli:=bytesOfL X4,clean:=cl,hw:=true,hp:=true,hu:=false,wqos:=wq,wret:=wr,wtop:=bytesOfL X5,wpay:=X6,pass:=X8}) (s':={sv0 with wA:=some ⟨w7.heap.size,0,none⟩,wC:=C6,uA:=some ⟨w8.heap.size,0,none⟩,uC:=C8}) 19 (.slice (some ⟨w8.heap.size,0,none⟩) X8.length C8) rfl (fun X=>⟨X.pay,X.payn,X.wpay,N8.out,X.subs,X.codes⟩)));clear hgen;refine ld_pk (w.heap.size+1) (by rfl) (by rfl) (pkC ({docP c with level:=lv,keep:=kp,cli:=bytesOfL X4,clean:=cl,hw:=true,hp:=true,hu:=false,wqos:=wq,wret:=wr,wtop:=bytesOfL X5,wpay:=X6,pass:=X8}) ({sv0 with wA:=some ⟨w7.heap.size,0,none⟩,wC:=C6,uA:=some ⟨w8.heap.size,0,none⟩,uC:=C8})) _ _ (by exact HV9.out.row) (by rfl) ?_)
     | ((with_reducible show wpList _ _ _ (⟨_,.store 28 (.tmp 4) _,_,_,_,_⟩ :: _) _ _);refine stR (w.heap.size) _ (pkC ({docP c with level:=lv,keep:=kp,cli:=bytesOfL X4,clean:=cl,hw:=true,hp:=true,hu:=false,wqos:=wq,wret:=wr,wtop:=bytesOfL X5,wpay:=X6,pass:=X8}) ({sv0 with wA:=some ⟨w7.heap.size,0,none⟩,wC:=C6,uA:=some ⟨w8.heap.size,0,none⟩,uC:=C8})) (by rfl) (by rfl) (by exact HV9.out.res) (by rfl) (by rfl) (pkc_one _ _) ?_))
    refine bodyPost_ret (v:=.agg _) (results_cell_row (by rfl) _ _ (w.heap.size) 28 _ (0,0) _ (by rfl) (setRow_heap _ _ _ _ _ _ (by exact HV9.out.res)) Try.underlying28 (by rfl) (by exact pk_sz)) (by rfl) ?_
    rw [EQC.out]
    exact HV9.out.done _
   | false =>
    simp only [if_false,Bool.false_eq_true] at EQC
    go_wp2_with (first
     | ((with_reducible show wpList _ _ _ (⟨_,.load 28 (.tmp 5),_,_,_,_⟩ :: _) _ _);generalize hgen:(V6.setCell ⟨w.heap.size+1,13,none⟩ (.slice (some ⟨w7.heap.size,0,none⟩) X6.length C6))=V9;have HV9:Hid (DSt w B r w.heap.size ({docP c with level:=lv,keep:=kp,cli:=bytesOfL X4,clean:=cl,hw:=true,hp:=false,hu:=false,wqos:=wq,wret:=wr,wtop:=bytesOfL X5,wpay:=X6}) ({sv0 with wA:=some ⟨w7.heap.size,0,none⟩,wC:=C6}) (S7) V9):=Lib.hid (hgen ▸ HP1.out);clear hgen;refine ld_pk (w.heap.size+1) (by rfl) (by rfl) (pkC ({docP c with level:=lv,keep:=kp,cli:=bytesOfL X4,clean:=cl,hw:=true,hp:=false,hu:=false,wqos:=wq,wret:=wr,wtop:=bytesOfL X5,wpay:=X6}) ({sv0 with wA:=some ⟨w7.heap.size,0,none⟩,wC:=C6})) _ _ (by exact HV9.out.row) (by rfl) ?_)
     | ((with_reducible show wpList _ _ _ (⟨_,.store 28 (.tmp 4) _,_,_,_,_⟩ :: _) _ _);refine stR (w.heap.size) _ (pkC ({docP c with level:=lv,keep:=kp,cli:=bytesOfL X4,clean:=cl,hw:=true,hp:=false,hu:=false,wqos:=wq,wret:=wr,wtop:=bytesOfL X5,wpay:=X6}) ({sv0 with wA:=some ⟨w7.heap.size,0,none⟩,wC:=C6})) (by rfl) (by rfl) (by exact HV9.out.res) (by rfl) (by rfl) (pkc_one _ _) ?_))
    refine bodyPost_ret (v:=.agg _) (results_cell_row (by rfl) _ _ (w.heap.size) 28 _ (0,0) _ (by rfl) (setRow_heap _ _ _ _ _ _ (by exact HV9.out.res)) Try.underlying28 (by rfl) (by exact pk_sz)) (by rfl) ?_
    rw [EQC.out]
    exact HV9.out.done _
 | false =>
  simp only [if_false,Bool.false_eq_true,conT] at EQC
  cases hu with
  | true =>
   obtain ⟨⟨X7,S8⟩,e7⟩:∃a,lpD S5=a:=⟨_,rfl⟩
   have L8:=lp_le e7 L5
   have G7:=Lib.hid (fun W q=>lump_e B r e7 W q)
   simp only [if_true,e7] at EQC
   clear e7
   go_wp2_with fail
   refine (G7.out _ (HP0.out).part).mono ?_
   rintro e w6 ⟨rfl,h6,t6⟩
   have H6:Hid (DSt w B r w.heap.size ({docP c with level:=lv,keep:=kp,cli:=bytesOfL X4,clean:=cl,hw:=false,hp:=hp,hu:=true,wqos:=wq,wret:=wr}) (sv0) (S8) w6):=Lib.hid ((HP0.out).call h6 t6)
   have rc6:=H6.out.cells
   have rf6:=H6.out.frz
   clear h6 t6 rc5 rf5
   have HP2:Hid (DSt w B r w.heap.size ({docP c with level:=lv,keep:=kp,cli:=bytesOfL X4,clean:=cl,hw:=false,hp:=hp,hu:=true,wqos:=wq,wret:=wr,user:=bytesOfL X7}) (sv0) (S8) (w6.setCell ⟨w.heap.size+1,18,none⟩ (.string (bytesOfL X7)))):=Lib.hid (((H6.out).put (p':={docP c with level:=lv,keep:=kp,cli:=bytesOfL X4,clean:=cl,hw:=false,hp:=hp,hu:=true,wqos:=wq,wret:=wr,user:=bytesOfL X7}) (s':=sv0) 18 (.string (bytesOfL X7)) rfl (fun X=>⟨X.pay,X.payn,X.wpay,X.pass,X.subs,X.codes⟩)))
   cases hp with
   | true =>
    obtain ⟨⟨X8,S9⟩,e8⟩:∃a,lpD S8=a:=⟨_,rfl⟩
    have L9:=lp_le e8 L8
    have G8:=Lib.hid (fun W q=>lump_e B r e8 W q)
    simp only [if_true,e8] at EQC
    have Z8:=Lib.hid (lp_sz e8 L8)
    clear e8
    go_wp2_with fail
    refine (G8.out _ (HP2.out).part).mono ?_
    rintro e w7 ⟨rfl,h7,t7⟩
    have H7:Hid (DSt w B r w.heap.size ({docP c with level:=lv,keep:=kp,cli:=bytesOfL X4,clean:=cl,hw:=false,hp:=true,hu:=true,wqos:=wq,wret:=wr,user:=bytesOfL X7}) (sv0) (S9) w7):=Lib.hid ((HP2.out).call h7 t7)
    have rc7:=H7.out.cells
    have rf7:=H7.out.frz
    clear h7 t7 rc6 rf6
    obtain ⟨C8,V8,cv8,hn8,hb8⟩:=conv_new X8 X8.length (w.heap.size+2) rfl w7 Z8.out (by have:=H7.out.size;omega)
    have K8:=Lib.hid (H7.out.below hb8)
    have N8:=Lib.hid hn8
    clear hn8 hb8 rc7 rf7
    have rc7:=K8.out.cells
    have rf7:=K8.out.frz
    go_wp2_with (first
     | ((with_reducible show wpList _ _ _ (⟨_,.load 28 (.tmp 5),_,_,_,_⟩ :: _) _ _);generalize hgen:(V8.setCell ⟨w.heap.size+1,19,none⟩ (.slice (some ⟨w7.heap.size,0,none⟩) X8.length C8))=V9;have HV9:Hid (DSt w B r w.heap.size ({docP c with level:=lv,keep:=kp,cli:=bytesOfL X4,clean:=cl,hw:=false,hp:=true,hu:=true,wqos:=wq,wret:=wr,user:=bytesOfL X7,pass:=X8}) ({sv0 with uA:=some ⟨w7.heap.size,0,none⟩,uC:=C8}) (S9) V9):=Lib.hid (hgen ▸ ((K8.out).put (p':={docP c with level:=lv,keep:=kp,cli:=bytesOfL X4,clean:=cl,hw:=false,hp:=true,hu:=true,wqos:=wq,wret:=wr,user:=bytesOfL X7,pass:=X8}) (s':={sv0 with uA:=some ⟨w7.heap.size,0,none⟩,uC:=C8}) 19 (.slice (some ⟨w7.heap.size,0,none⟩) X8.length C8) rfl (fun X=>⟨X.pay,X.payn,X.wpay,N8.out,X.subs,X.codes⟩)));clear hgen;refine ld_pk (w.heap.size+1) (by rfl) (by rfl) (pkC ({docP c with level:=lv,keep:=kp,cli:=bytesOfL X4,clean:=cl,hw:=false,hp:=true,hu:=true,wqos:=wq,wret:=wr,user:=bytesOfL X7,pass:=X8}) ({sv0 with uA:=some ⟨w7.heap.size,0,none⟩,uC:=C8})) _ _ (by exact HV9.out.row) (by rfl) ?_)
     | ((with_reducible show wpList _ _ _ (⟨_,.store 28 (.tmp 4) _,_,_,_,_⟩ :: _) _ _);refine stR (w.heap.size) _ (pkC ({docP c with level:=lv,keep:=kp,cli:=bytesOfL X4,clean:=cl,hw:=false,hp:=true,hu:=true,wqos:=wq,wret:=wr,user:=bytesOfL X7,pass:=X8}) ({sv0 with uA:=some ⟨w7.heap.size,0,none⟩,uC:=C8})) (by rfl) (by rfl) (by exact HV9.out.res) (by rfl) (by rfl) (pkc_one _ _) ?_))
    refine bodyPost_ret (v:=.agg _) (results_cell_row (by rfl) _ _ (w.heap.size) 28 _ (0,0) _ (by rfl) (setRow_heap _ _ _ _ _ _ (by exact HV9.out.res)) Try.underlying28 (by rfl) (by exact pk_sz)) (by rfl) ?_
    rw [EQC.out]
    exact HV9.out.done _
   | false =>
    simp only [if_false,Bool.false_eq_true] at EQC
    go_wp2_with (first
     | ((with_reducible show wpList _ _ _ (⟨_,.load 28 (.tmp 5),_,_,_,_⟩ :: _) _ _);generalize hgen:(w6.setCell ⟨w.heap.size+1,18,none⟩ (.string (bytesOfL X7)))=V9;have HV9:Hid (DSt w B r w.heap.size ({docP c with level:=lv,keep:=kp,cli:=bytesOfL X4,clean:=cl,hw:=false,hp:=false,hu:=true,wqos:=wq,wret:=wr,user:=bytesOfL X7}) (sv0) (S8) V9):=Lib.hid (hgen ▸ HP2.out);clear hgen;refine ld_pk (w.heap.size+1) (by rfl) (by rfl) (pkC ({docP c with level:=lv,keep:=kp,cli:=bytesOfL X4,clean:=cl,hw:=false,hp:=false,hu:=true,wqos:=wq,wret:=wr,user:=bytesOfL X7}) (sv0)) _ _ (by exact HV9.out.row) (by rfl) ?_)
     | ((with_reducible show wpList _ _ _ (⟨_,.store 28 (.tmp 4) _,_,_,_,_⟩ :: _) _ _);refine stR (w.heap.size) _ (pkC ({docP c with level:=lv,keep:=kp,cli:=bytesOfL X4,clean:=cl,hw:=false,hp:=false,hu:=true,wqos:=wq,wret:=wr,user:=bytesOfL X7}) (sv0)) (by rfl) (by rfl) (by exact HV9.out.res) (by rfl) (by rfl) (pkc_one _ _) ?_))
    refine bodyPost_ret (v:=.agg _) (results_cell_row (by rfl) _ _ (w.heap.size) 28 _ (0,0) _ (by rfl) (setRow_heap _ _ _ _ _ _ (by exact HV9.out.res)) Try.underlying28 (by rfl) (by exact pk_sz)) (by rfl) ?_
    rw [EQC.out]
    exact HV9.out.done _
  | false =>
   simp only [if_false,Bool.false_eq_true] at EQC
   cases hp with
   | true =>
    obtain ⟨⟨X8,S9⟩,e8⟩:∃a,lpD S5=a:=⟨_,rfl⟩
    have L9:=lp_le e8 L5
    have G8:=Lib.hid (fun W q=>lump_e B r e8 W q)
    simp only [if_true,e8] at EQC
    have Z8:=Lib.hid (lp_sz e8 L5)
    clear e8
    go_wp2_with fail
    refine (G8.out _ (HP0.out).part).mono ?_
    rintro e w6 ⟨rfl,h6,t6⟩
    have H6:Hid (DSt w B r w.heap.size ({docP c with level:=lv,keep:=kp,cli:=bytesOfL X4,clean:=cl,hw:=false,hp:=true,hu:=false,wqos:=wq,wret:=wr}) (sv0) (S9) w6):=Lib.hid ((HP0.out).call h6 t6)
    have rc6:=H6.out.cells
    have rf6:=H6.out.frz
    clear h6 t6 rc5 rf5
    obtain ⟨C8,V8,cv8,hn8,hb8⟩:=conv_new X8 X8.length (w.heap.size+2) rfl w6 Z8.out (by have:=H6.out.size;omega)
    have K8:=Lib.hid (H6.out.below hb8)
    have N8:=Lib.hid hn8
    clear hn8 hb8 rc6 rf6
    have rc6:=K8.out.cells
    have rf6:=K8.out.frz
    go_wp2_with (first
     | ((with_reducible show wpList _ _ _ (⟨_,.load 28 (.tmp 5),_,_,_,_⟩ :: _) _ _);generalize hgen:(V8.setCell ⟨w.heap.size+1,19,none⟩ (.slice (some ⟨w6.heap.size,0,none⟩) X8.length C8))=V9;have HV9:Hid (DSt w B r w.heap.size ({docP c with level:=lv,keep:=kp,cli:=bytesOfL X4,clean:=cl,hw:=false,hp:=true,hu:=false,wqos:=wq,wret:=wr,pass:=X8}) ({sv0 with uA:=some ⟨w6.heap.size,0,none⟩,uC:=C8}) (S9) V9):=Lib.hid (hgen ▸ ((K8.out).put (p':={docP c with level:=lv,keep:=kp,cli:=bytesOfL X4,clean:=cl,hw:=false,hp:=true,hu:=false,wqos:=wq,wret:=wr,pass:=X8}) (s':={sv0 with uA:=some ⟨w6.heap.size,0,none⟩,uC:=C8}) 19 (.slice (some ⟨w6.heap.size,0,none⟩) X8.length C8) rfl (fun X=>⟨X.pay,X.payn,X.wpay,N8.out,X.subs,X.codes⟩)));clear hgen;refine ld_pk (w.heap.size+1) (by rfl) (by rfl) (pkC ({docP c with level:=lv,keep:=kp,cli:=bytesOfL X4,clean:=cl,hw:=false,hp:=true,hu:=false,wqos:=wq,wret:=wr,pass:=X8}) ({sv0 with uA:=some ⟨w6.heap.size,0,none⟩,uC:=C8})) _ _ (by exact HV9.out.row) (by rfl) ?_)
     | ((with_reducible show wpList _ _ _ (⟨_,.store 28 (.tmp 4) _,_,_,_,_⟩ :: _) _ _);refine stR (w.heap.size) _ (pkC ({docP c with level:=lv,keep:=kp,cli:=bytesOfL X4,clean:=cl,hw:=false,hp:=true,hu:=false,wqos:=wq,wret:=wr,pass:=X8}) ({sv0 with uA:=some ⟨w6.heap.size,0,none⟩,uC:=C8})) (by rfl) (by rfl) (by exact HV9.out.res) (by rfl) (by rfl) (pkc_one _ _) ?_))
    refine bodyPost_ret (v:=.agg _) (results_cell_row (by rfl) _ _ (w.heap.size) 28 _ (0,0) _ (by rfl) (setRow_heap _ _ _ _ _ _ (by exact HV9.out.res)) Try.underlying28 (by rfl) (by exact pk_sz)) (by rfl) ?_
    rw [EQC.out]
    exact HV9.out.done _
   | false =>
    simp only [if_false,Bool.false_eq_true] at EQC
    go_wp2_with (first
     | ((with_reducible show wpList _ _ _ (⟨_,.load 28 (.tmp 5),_,_,_,_⟩ :: _) _ _);generalize hgen:(((((((w5.setCell ⟨w.heap.size+1,8,none⟩ (.string (bytesOfL X4))).setCell ⟨w.heap.size+1,9,none⟩ (.bool cl)).setCell ⟨w.heap.size+1,11,none⟩ (.bool false)).setCell ⟨w.heap.size+1,17,none⟩ (.bool false)).setCell ⟨w.heap.size+1,16,none⟩ (.bool false)).setCell ⟨w.heap.size+1,14,none⟩ (.int .i64 wq)).setCell ⟨w.heap.size+1,15,none⟩ (.bool wr))=V9;have HV9:Hid (DSt w B r w.heap.size ({docP c with level:=lv,keep:=kp,cli:=bytesOfL X4,clean:=cl,hw:=false,hp:=false,hu:=false,wqos:=wq,wret:=wr}) (sv0) (S5) V9):=Lib.hid (hgen ▸ HP0.out);clear hgen;refine ld_pk (w.heap.size+1) (by rfl) (by rfl) (pkC ({docP c with level:=lv,keep:=kp,cli:=bytesOfL X4,clean:=cl,hw:=false,hp:=false,hu:=false,wqos:=wq,wret:=wr}) (sv0)) _ _ (by exact HV9.out.row) (by rfl) ?_)
     | ((with_reducible show wpList _ _ _ (⟨_,.store 28 (.tmp 4) _,_,_,_,_⟩ :: _) _ _);refine stR (w.heap.size) _ (pkC ({docP c with level:=lv,keep:=kp,cli:=bytesOfL X4,clean:=cl,hw:=false,hp:=false,hu:=false,wqos:=wq,wret:=wr}) (sv0)) (by rfl) (by rfl) (by exact HV9.out.res) (by rfl) (by rfl) (pkc_one _ _) ?_))
    refine bodyPost_ret (v:=.agg _) (results_cell_row (by rfl) _ _ (w.heap.size) 28 _ (0,0) _ (by rfl) (setRow_heap _ _ _ _ _ _ (by exact HV9.out.res)) Try.underlying28 (by rfl) (by exact pk_sz)) (by rfl) ?_
    rw [EQC.out]
    exact HV9.out.done _
theorem dpar_1_0000 (c:Int)(h0:0≤c)(h1:c≤255)(hj:c / 16=1)(B r:Nat)(S:PS)(w:World)(h:PtS w B r S)(hmq:(bytesOfL (lpD S).1=mqtt)=False) :
  Calls Try.prog 58 #[.int .u8 c,.pointer (some ⟨r,0,none⟩)] w (DParPost w B r (parD c S).1 (parD c S).2):=by
 have k1:((docP c).kind==1)=true:=by rw [docP_k,hj];rfl
 have m1:(c / 16==1)=true:=by rw [hj];rfl
 have k2:((docP c).kind==2)=false:=by rw [docP_k,hj];rfl
 have m2:(c / 16==2)=false:=by rw [hj];rfl
 have k3:((docP c).kind==3)=false:=by rw [docP_k,hj];rfl
 have m3:(c / 16==3)=false:=by rw [hj];rfl
 have k8:((docP c).kind==8)=false:=by rw [docP_k,hj];rfl
 have m8:(c / 16==8)=false:=by rw [hj];rfl
 have k9:((docP c).kind==9)=false:=by rw [docP_k,hj];rfl
 have m9:(c / 16==9)=false:=by rw [hj];rfl
 have k10:((docP c).kind==10)=false:=by rw [docP_k,hj];rfl
 have m10:(c / 16==10)=false:=by rw [hj];rfl
 have k12:((docP c).kind==12)=false:=by rw [docP_k,hj];rfl
 have m12:(c / 16==12)=false:=by rw [hj];rfl
 have k13:((docP c).kind==13)=false:=by rw [docP_k,hj];rfl
 have m13:(c / 16==13)=false:=by rw [hj];rfl
 have k14:((docP c).kind==14)=false:=by rw [docP_k,hj];rfl
 have m14:(c / 16==14)=false:=by rw [hj];rfl
 have L0:=h.le
 obtain ⟨⟨X0,S1⟩,e0⟩:∃a,lpD S=a:=⟨_,rfl⟩
 have L1:=lp_le e0 L0
 obtain ⟨⟨lv,S2⟩,e1⟩:∃a,nmD 1 (S1.1,true)=a:=⟨_,rfl⟩
 have L2:=nm_le e1 L1
 obtain ⟨⟨f,S3⟩,e2⟩:∃a,nmD 1 S2=a:=⟨_,rfl⟩
 have L3:=nm_le e2 L2
 obtain ⟨⟨kp,S4⟩,e3⟩:∃a,nmD 2 S3=a:=⟨_,rfl⟩
 have L4:=nm_le e3 L3
 obtain ⟨⟨X4,S5⟩,e4⟩:∃a,lpD S4=a:=⟨_,rfl⟩
 have L5:=lp_le e4 L4
 have fb:0≤f∧f≤255:=by have q:=nmD_in1 S2;rw [e2] at q;exact q
 obtain ⟨c2,c4,c128,c64,c32,c8⟩:=con_bits ⟨f.toNat,by omega⟩
 simp only [Int.toNat_of_nonneg fb.1] at c2 c4 c128 c64 c32 c8
 rw [e0] at hmq
 simp only at hmq
 have G0:=Lib.hid (fun W q=>lump_e B r e0 W q)
 have G1:=Lib.hid (fun W q=>number_e B r 1 (by omega) e1 W q)
 have G2:=Lib.hid (fun W q=>number_e B r 1 (by omega) e2 W q)
 have G3:=Lib.hid (fun W q=>number_e B r 2 (by omega) e3 W q)
 have G4:=Lib.hid (fun W q=>lump_e B r e4 W q)
 have hf0:f=0:=by
  have q:=congrArg (fun z=>z.1) e2
  simp only at q
  rw [←q]
  have q1:S2.2=true:=by have q2:=congrArg (fun z=>z.2.2) e1;simp only at q2;rw [←q2];unfold nmD;rw [tkD_bad]
  unfold nmD;rw [tkD_was 1 _ q1];rfl
 have b4:(f / 4%2==1)=false:=by rw [hf0];rfl
 have b128:(f / 128%2==1)=false:=by rw [hf0];rfl
 have b64:(f / 64%2==1)=false:=by rw [hf0];rfl
 clear hf0
 generalize hcl:(f / 2%2==1)=cl at *
 generalize hwr:(f / 32%2==1)=wr at *
 have wq0:0≤f / 8%4:=by omega
 have wq1:f / 8%4≤3:=by omega
 generalize hwq:f / 8%4=wq at *
 have hm2:((bytesOfL X0).toList==[77,81,84,84])=false:=by
  have q:(bytesOfL X0=mqtt)↔(bytesOfL X0).toList=[77,81,84,84]:=mq_iff _
  rw [Bool.eq_iff_iff]
  simp only [beq_iff_eq,←q,hmq]
  try simp
 have EQ:parD c S=({docP c with level:=lv,keep:=kp,cli:=bytesOfL X4,clean:=cl,hw:=false,hp:=false,hu:=false,wqos:=wq,wret:=wr},S5):=by
  simp only [parD,m1,conD,e0,hmq,if_true,if_false,Bool.false_eq_true,e1,e2,e3,e4,b4,b128,b64,hcl,hwq,hwr]
  try rfl
 rw [EQ]
 have H0:=Lib.hid (DSt.start w B r (docP c) S h rfl rfl rfl rfl rfl)
 have hlt:=h.lt
 have f4:=c4.trans b4
 have f128:=c128.trans b128
 have f64:=c64.trans b64
 clear EQ hj h hcl hwq hwr c4 c128 c64 b4 b128 b64 hmq m1 m2 m3 m8 m9 m10 m12 m13 m14 e0 e1 e2 e3 e4 L0 L1 L2 L3 L4 L5
 go_enter Try.func58,Try.ntmps58
 go_wp2_with ((with_reducible show wpList _ _ _ (⟨_,.store 28 (.tmp 5) _,_,_,_,_⟩ :: _) _ _);refine stLst (w.heap.size+1) (by simp) _ (pkC (docP c) sv0) (by rfl) (by rfl) (by rfl) (by rfl) (pkc_one _ _) ?_)
 go_wp2_with fail
 refine (G0.out _ (H0.out).part).mono ?_
 rintro e w1 ⟨rfl,h1,t1⟩
 have H1:Hid (DSt w B r w.heap.size (docP c) (sv0) (S1) w1):=Lib.hid ((H0.out).call h1 t1)
 have rc1:=H1.out.cells
 have rf1:=H1.out.frz
 clear h1 t1
 have hr1:=H1.out.part.frz
 have hr2:=H1.out.part.cell2
 go_wp2_with fail
 refine (G1.out _ ((H1.out).wrong).part).mono ?_
 rintro e w2 ⟨rfl,h2,t2⟩
 have H2:Hid (DSt w B r w.heap.size (docP c) (sv0) (S2) w2):=Lib.hid (((H1.out).wrong).call h2 t2)
 have rc2:=H2.out.cells
 have rf2:=H2.out.frz
 clear h2 t2 rc1 rf1
 go_wp2_with fail
 refine (G2.out _ (((H2.out).put (p':={docP c with level:=lv}) (s':=sv0) 7 (.int .i64 lv) rfl (fun X=>⟨X.pay,X.payn,X.wpay,X.pass,X.subs,X.codes⟩))).part).mono ?_
 rintro e w3 ⟨rfl,h3,t3⟩
 have H3:Hid (DSt w B r w.heap.size ({docP c with level:=lv}) (sv0) (S3) w3):=Lib.hid ((((H2.out).put (p':={docP c with level:=lv}) (s':=sv0) 7 (.int .i64 lv) rfl (fun X=>⟨X.pay,X.payn,X.wpay,X.pass,X.subs,X.codes⟩))).call h3 t3)
 have rc3:=H3.out.cells
 have rf3:=H3.out.frz
 clear h3 t3 rc2 rf2
 go_wp2_with fail
 refine (G3.out _ (H3.out).part).mono ?_
 rintro e w4 ⟨rfl,h4,t4⟩
 have H4:Hid (DSt w B r w.heap.size ({docP c with level:=lv}) (sv0) (S4) w4):=Lib.hid ((H3.out).call h4 t4)
 have rc4:=H4.out.cells
 have rf4:=H4.out.frz
 clear h4 t4 rc3 rf3
 go_wp2_with fail
 refine (G4.out _ (((H4.out).put (p':={docP c with level:=lv,keep:=kp}) (s':=sv0) 10 (.int .i64 kp) rfl (fun X=>⟨X.pay,X.payn,X.wpay,X.pass,X.subs,X.codes⟩))).part).mono ?_
 rintro e w5 ⟨rfl,h5,t5⟩
 have H5:Hid (DSt w B r w.heap.size ({docP c with level:=lv,keep:=kp}) (sv0) (S5) w5):=Lib.hid ((((H4.out).put (p':={docP c with level:=lv,keep:=kp}) (s':=sv0) 10 (.int .i64 kp) rfl (fun X=>⟨X.pay,X.payn,X.wpay,X.pass,X.subs,X.codes⟩))).call h5 t5)
 have rc5:=H5.out.cells
 have rf5:=H5.out.frz
 clear h5 t5 rc4 rf4
 go_wp2_with (first
  | ((with_reducible show wpList _ _ _ (⟨_,.load 28 (.tmp 5),_,_,_,_⟩ :: _) _ _);generalize hgen:(((((((w5.setCell ⟨w.heap.size+1,8,none⟩ (.string (bytesOfL X4))).setCell ⟨w.heap.size+1,9,none⟩ (.bool cl)).setCell ⟨w.heap.size+1,11,none⟩ (.bool false)).setCell ⟨w.heap.size+1,17,none⟩ (.bool false)).setCell ⟨w.heap.size+1,16,none⟩ (.bool false)).setCell ⟨w.heap.size+1,14,none⟩ (.int .i64 wq)).setCell ⟨w.heap.size+1,15,none⟩ (.bool wr))=V9;have HV9:Hid (DSt w B r w.heap.size ({docP c with level:=lv,keep:=kp,cli:=bytesOfL X4,clean:=cl,hw:=false,hp:=false,hu:=false,wqos:=wq,wret:=wr}) (sv0) (S5) V9):=Lib.hid (hgen ▸ ((((((((((((((H5.out).put (p':={docP c with level:=lv,keep:=kp,cli:=bytesOfL X4}) (s':=sv0) 8 (.string (bytesOfL X4)) rfl (fun X=>⟨X.pay,X.payn,X.wpay,X.pass,X.subs,X.codes⟩))).put (p':={docP c with level:=lv,keep:=kp,cli:=bytesOfL X4,clean:=cl}) (s':=sv0) 9 (.bool cl) rfl (fun X=>⟨X.pay,X.payn,X.wpay,X.pass,X.subs,X.codes⟩))).put (p':={docP c with level:=lv,keep:=kp,cli:=bytesOfL X4,clean:=cl,hw:=false}) (s':=sv0) 11 (.bool false) rfl (fun X=>⟨X.pay,X.payn,X.wpay,X.pass,X.subs,X.codes⟩))).put (p':={docP c with level:=lv,keep:=kp,cli:=bytesOfL X4,clean:=cl,hw:=false,hp:=false}) (s':=sv0) 17 (.bool false) rfl (fun X=>⟨X.pay,X.payn,X.wpay,X.pass,X.subs,X.codes⟩))).put (p':={docP c with level:=lv,keep:=kp,cli:=bytesOfL X4,clean:=cl,hw:=false,hp:=false,hu:=false}) (s':=sv0) 16 (.bool false) rfl (fun X=>⟨X.pay,X.payn,X.wpay,X.pass,X.subs,X.codes⟩))).put (p':={docP c with level:=lv,keep:=kp,cli:=bytesOfL X4,clean:=cl,hw:=false,hp:=false,hu:=false,wqos:=wq}) (s':=sv0) 14 (.int .i64 wq) rfl (fun X=>⟨X.pay,X.payn,X.wpay,X.pass,X.subs,X.codes⟩))).put (p':={docP c with level:=lv,keep:=kp,cli:=bytesOfL X4,clean:=cl,hw:=false,hp:=false,hu:=false,wqos:=wq,wret:=wr}) (s':=sv0) 15 (.bool wr) rfl (fun X=>⟨X.pay,X.payn,X.wpay,X.pass,X.subs,X.codes⟩)));clear hgen;refine ld_pk (w.heap.size+1) (by rfl) (by rfl) (pkC ({docP c with level:=lv,keep:=kp,cli:=bytesOfL X4,clean:=cl,hw:=false,hp:=false,hu:=false,wqos:=wq,wret:=wr}) (sv0)) _ _ (by exact HV9.out.row) (by rfl) ?_)
  | ((with_reducible show wpList _ _ _ (⟨_,.store 28 (.tmp 4) _,_,_,_,_⟩ :: _) _ _);refine stR (w.heap.size) _ (pkC ({docP c with level:=lv,keep:=kp,cli:=bytesOfL X4,clean:=cl,hw:=false,hp:=false,hu:=false,wqos:=wq,wret:=wr}) (sv0)) (by rfl) (by rfl) (by exact HV9.out.res) (by rfl) (by rfl) (pkc_one _ _) ?_))
 refine bodyPost_ret (v:=.agg _) (results_cell_row (by rfl) _ _ (w.heap.size) 28 _ (0,0) _ (by rfl) (setRow_heap _ _ _ _ _ _ (by exact HV9.out.res)) Try.underlying28 (by rfl) (by exact pk_sz)) (by rfl) ?_
 exact HV9.out.done _
end Go.Proofs.Ytnhpacaoobpkhaa
