import Derived.Test.YtnhpacaoobpkhaaGPub
import Derived.Test.YtnhpacaoobpkhaaGNum
namespace Go.Proofs.Ytnhpacaoobpkhaa
open Go.RowKit Go.Lib
set_option linter.unusedVariables false
set_option maxRecDepth 100000
set_option maxHeartbeats 8000000
def conP (p:Pk) (b:List UInt8):Pk :=
 let b2:=leftL b
 let b3:=b2.drop 1
 let f:=numL (b3.take 1)
 let b4:=b3.drop 1
 let b5:=b4.drop 2
 let hw:=f / 4%2==1
 let hu:=f / 128%2==1
 let hp:=f / 64%2==1
 let b6:=leftL b5
 let b8:=if hw then leftL (leftL b6) else b6
 let b9:=if hu then leftL b8 else b8
 { p with level:=numL (b2.take 1),keep:=numL (b4.take 2),cli:=bytesOfL (gotL b5),clean:=f / 2%2==1,hw:=hw,hu:=hu,hp:=hp, wtop:=if hw then bytesOfL (gotL b6) else p.wtop,wpay:=if hw then gotL (leftL b6) else p.wpay,wqos:=if hw then f / 8%4 else p.wqos,wret:=if hw then f / 32%2==1 else p.wret, user:=if hu then bytesOfL (gotL b8) else p.user,pass:=if hp then gotL b9 else p.pass}
def ConPost (w:World) (b:Nat) (q:Pk) (s:Sv) (w':World):Prop :=
 ∃s':Sv,w'.heap[b]? = some (.cells (pkC q s') 28)∧(s'.pA=s.pA∧s'.pC=s.pC∧s'.sA=s.sA∧s'.sC=s.sC∧s'.cA=s.cA∧s'.cC=s.cC)∧w'.ownsRow w.heap.size 5 1 (.slice s'.wA q.wpay.length s'.wC) q.wpay.length (Lib.byteCells q.wpay) ∧
  w'.ownsRow w.heap.size 5 1 (.slice s'.uA q.pass.length s'.uC) q.pass.length (Lib.byteCells q.pass)
theorem own_put {w:World}{base n size b:Nat}{E:TypeId}{v:Value}{xs:List Value}(h:w.ownsRow base E size v n xs)(hb:b<base)(i:Nat)(u:Value):(w.setCell ⟨b,i,none⟩ u).ownsRow base E size v n xs :=
 own_to h fun g hg1 hg2=>Below.heap_setCell _ _ _ _ (by show g≠b;omega)
theorem own_rd {w w':World}{base n size r:Nat}{E:TypeId}{v:Value}{xs:List Value}(h:w.ownsRow base E size v n xs)(t:RdTo r w w')(hr:r<base):w'.ownsRow base E size v n xs :=
 own_to h fun g hg1 hg2=>t.above g (by omega) hg2
theorem flag_bits:∀y:Fin 256,(bits .and .i64 (y.val:Int) 2 != 0)=((y.val:Int) / 2%2==1)∧(bits .and .i64 (y.val:Int) 4 != 0)=((y.val:Int) / 4%2==1)∧(bits .and .i64 (y.val:Int) 128 != 0)=((y.val:Int) / 128%2==1)∧(bits .and .i64 (y.val:Int) 64 != 0)=((y.val:Int) / 64%2==1)∧(bits .and .i64 (y.val:Int) 32 != 0)=((y.val:Int) / 32%2==1)∧bits .and .i64 ((y.val:Int) / 8) 3=(y.val:Int) / 8%4:=by decide +kernel
structure CRow (w W:World) (p:Pk) (s:Sv):Prop where
 ow:W.ownsRow w.heap.size 5 1 (.slice s.wA p.wpay.length s.wC) p.wpay.length (Lib.byteCells p.wpay)
 op:W.ownsRow w.heap.size 5 1 (.slice s.uA p.pass.length s.uC) p.pass.length (Lib.byteCells p.pass)
def SvKeep (s' s:Sv):Prop:=s'.pA=s.pA∧s'.pC=s.pC∧s'.sA=s.sA∧s'.sC=s.sC∧s'.cA=s.cA∧s'.cC=s.cC
structure CSt (w:World) (B b r:Nat) (s0:Sv) (p:Pk) (s:Sv) (l:List UInt8) (W:World):Prop where
 hb:b<r
 hB:B≤b
 hlt:r<w.heap.size
 part:∃ad c,RdAt W B r ad c l
 row:W.heap[b]? = some (.cells (pkC p s) 28)
 bl:Below b w W
 rows:CRow w W p s
 keep:SvKeep s s0
theorem CSt.call {w W w':World}{B b r:Nat}{s0 s:Sv}{p:Pk}{l l':List UInt8}(h:CSt w B b r s0 p s l W)(h1:∃ad c,RdAt w' B r ad c l')(t:RdTo r W w'):CSt w B b r s0 p s l' w' :=
 ⟨h.hb,h.hB,h.hlt,h1,by rw [t.below.block b h.hb];exact h.row,h.bl.trans (t.below.mono (Nat.le_of_lt h.hb)),⟨own_rd h.rows.ow t h.hlt,own_rd h.rows.op t h.hlt⟩,h.keep⟩
theorem CSt.put {w W:World}{B b r:Nat}{s0 s s':Sv}{p p':Pk}{l:List UInt8}(h:CSt w B b r s0 p s l W)(i:Nat)(v:Value)(e:(pkC p s).setIfInBounds i v=pkC p' s')(hf:CRow w W p s→CRow w W p' s')(hk:SvKeep s' s):CSt w B b r s0 p' s' l (W.setCell ⟨b,i,none⟩ v):=by
 have hr:=hf h.rows
 have hb:=h.hb
 have hlt:=h.hlt
 obtain ⟨ad,c,hp⟩:=h.part
 obtain ⟨k1,k2,k3,k4,k5,k6⟩:=hk
 obtain ⟨g1,g2,g3,g4,g5,g6⟩:=h.keep
 exact ⟨h.hb,h.hB,h.hlt,⟨ad,c,hp.put h.hB h.hb v⟩,put_row i v h.row e,h.bl.setCell (p:=⟨b,i,none⟩) (Nat.le_refl b) v,⟨own_put hr.ow (by omega) i v,own_put hr.op (by omega) i v⟩,⟨k1.trans g1,k2.trans g2,k3.trans g3,k4.trans g4,k5.trans g5,k6.trans g6⟩⟩
theorem CSt.done {w W:World}{B b r:Nat}{s0 s:Sv}{p:Pk}{l:List UInt8}(h:CSt w B b r s0 p s l W):(Ending.returned (.tuple #[]):Ending)=.returned (.tuple #[])∧Below b w W∧ConPost w b p s0 W:=⟨rfl,h.bl,s,h.row,h.keep,h.rows.ow,h.rows.op⟩
theorem CSt.cells {w W:World}{B b r:Nat}{s0 s:Sv}{p:Pk}{l:List UInt8}(h:CSt w B b r s0 p s l W):∀k,W.cell? ⟨b,k,none⟩=(pkC p s)[k]? := row_cells h.row
theorem CSt.frz {w W:World}{B b r:Nat}{s0 s:Sv}{p:Pk}{l:List UInt8}(h:CSt w B b r s0 p s l W):∀k,W.frozen? ⟨b,k,none⟩=false:=fun k=>frozen_of_row W b k _ _ h.row
theorem num_x (B r k:Nat)(hk:k≤2){l R:List UInt8}{y:Int}(hy:numL (l.take k)=y)(hR:l.drop k=R)(w:World)(h:∃ad c,RdAt w B r ad c l) :
  Calls Try.prog 86 #[.pointer (some ⟨r,0,none⟩),.int .i64 k] w fun e w'=>e=.returned (.int .i64 y)∧(∃ad c,RdAt w' B r ad c R)∧RdTo r w w':=by
 obtain ⟨ad,c,h⟩:=h
 rw [←hy,←hR]
 exact number_any B r ad c k l w h hk
theorem take_x (B r:Nat)(y:Int)(R R2:List UInt8)(h0:0≤y)(h1:y≤65535)(hR:R.drop y.toNat=R2)(w:World)(h:∃ad c,RdAt w B r ad c R) :
  Calls Try.prog 101 #[.pointer (some ⟨r,0,none⟩),.int .i64 y] w fun e w'=>(∃a n d,e=.returned (.slice (some a) n d))∧(∃ad c,RdAt w' B r ad c R2)∧RdTo r w w':=by
 obtain ⟨ad,c,h⟩:=h
 exact (rtake_any B r ad c y R (R.take y.toNat) R2 _ w h h0 h1 rfl hR rfl).mono fun e w' q=>⟨⟨_,_,_,q.1⟩,q.2.1,q.2.2.2⟩
theorem text_x (B r:Nat){l R:List UInt8}{y:ByteArray}(hy:bytesOfL (gotL l)=y)(hR:leftL l=R)(w:World)(h:∃ad c,RdAt w B r ad c l) :
  Calls Try.prog 102 #[.pointer (some ⟨r,0,none⟩)] w fun e w'=>e=.returned (.string y)∧(∃ad c,RdAt w' B r ad c R)∧RdTo r w w':=by
 obtain ⟨ad,c,h⟩:=h
 rw [←hy,←hR]
 exact text_any B r ad c l w h
theorem lump_x (B r:Nat){l R y:List UInt8}(hy:gotL l=y)(hR:leftL l=R)(w:World)(h:∃ad c,RdAt w B r ad c l) :
  Calls Try.prog 103 #[.pointer (some ⟨r,0,none⟩)] w fun e w'=>∃A' c',e=.returned (.slice A' y.length c')∧(w'.ownsRow w.heap.size 5 1 (.slice A' y.length c') y.length (Lib.byteCells y))∧(∃ad c,RdAt w' B r ad c R)∧RdTo r w w':=by
 obtain ⟨ad,c,h⟩:=h
 rw [←hR]
 exact lump_any B r ad c l w h y _ hy.symm rfl
theorem con_any (B b r:Nat) (ad:Addr) (c:Nat) (l:List UInt8) (p:Pk) (s:Sv) (w:World) (h:RdAt w B r ad c l) (hb:b<r) (hB:B≤b) (hp:w.heap[b]? = some (.cells (pkC p s) 28))
  (ow:w.ownsRow w.heap.size 5 1 (.slice s.wA p.wpay.length s.wC) p.wpay.length (Lib.byteCells p.wpay)) (op:w.ownsRow w.heap.size 5 1 (.slice s.uA p.pass.length s.uC) p.pass.length (Lib.byteCells p.pass)) :
  Calls Try.prog 85 #[.pointer (some ⟨r,0,none⟩),.pointer (some ⟨b,0,none⟩)] w fun e w'=>e=.returned (.tuple #[])∧Below b w w'∧ConPost w b (conP p l) s w':=by
 have hlt:=h.lt
 obtain ⟨x0,x1⟩:=num_bounds l 2 (by omega)
 obtain ⟨y1,e1⟩:∃y,numL (l.take 2)=y:=⟨_,rfl⟩
 obtain ⟨R1,d1⟩:∃R,l.drop 2=R:=⟨_,rfl⟩
 obtain ⟨R2,d2⟩:∃R,leftL l=R:=⟨_,rfl⟩
 obtain ⟨y3,e3⟩:∃y,numL (R2.take 1)=y:=⟨_,rfl⟩
 obtain ⟨R3,d3⟩:∃R,R2.drop 1=R:=⟨_,rfl⟩
 obtain ⟨f,ef⟩:∃y,numL (R3.take 1)=y:=⟨_,rfl⟩
 obtain ⟨R4,d4⟩:∃R,R3.drop 1=R:=⟨_,rfl⟩
 obtain ⟨y5,e5⟩:∃y,numL (R4.take 2)=y:=⟨_,rfl⟩
 obtain ⟨R5,d5⟩:∃R,R4.drop 2=R:=⟨_,rfl⟩
 obtain ⟨x6,e6⟩:∃x,bytesOfL (gotL R5)=x:=⟨_,rfl⟩
 obtain ⟨R6,d6⟩:∃R,leftL R5=R:=⟨_,rfl⟩
 have fb:0≤f∧f≤255:=by
  rw [←ef]
  have hlen:(R3.take 1).length≤1:=by rw [List.length_take];omega
  generalize R3.take 1=T at *
  rcases T with _ | ⟨x,_ | _⟩
  ·exact ⟨by decide,by decide⟩
  ·have:=x.toNat_lt;unfold numL;simp;omega
  ·simp at hlen
 rw [e1] at x0 x1
 have eR2:R1.drop y1.toNat=R2:=by rw [←d1,←e1,←d2];rfl
 have G1:=Lib.hid (fun W q=>num_x B r 2 (by omega) e1 d1 W q)
 have G2:=Lib.hid (fun W q=>take_x B r y1 R1 R2 x0 x1 eR2 W q)
 have G3:=Lib.hid (fun W q=>num_x B r 1 (by omega) e3 d3 W q)
 have G4:=Lib.hid (fun W q=>num_x B r 1 (by omega) ef d4 W q)
 have G5:=Lib.hid (fun W q=>num_x B r 2 (by omega) e5 d5 W q)
 have G6:=Lib.hid (fun W q=>text_x B r e6 d6 W q)
 have H0:Hid (CSt w B b r s p s l w):=Lib.hid ⟨hb,hB,hlt,⟨ad,c,h⟩,hp,Below.refl _ _,⟨ow,op⟩,⟨rfl,rfl,rfl,rfl,rfl,rfl⟩⟩
 obtain ⟨c2,c4,c128,c64,c32,c8⟩:=flag_bits ⟨f.toNat,by omega⟩
 simp only [Int.toNat_of_nonneg fb.1] at c2 c4 c128 c64 c32 c8
 generalize hhw:(f / 4%2==1)=fw at *
 generalize hhu:(f / 128%2==1)=fu at *
 generalize hhp:(f / 64%2==1)=fp at *
 generalize hcl:(f / 2%2==1)=cl at *
 generalize hwr:(f / 32%2==1)=wr at *
 have wq0:0≤f / 8%4:=by omega
 have wq1:f / 8%4≤3:=by omega
 generalize hwq:f / 8%4=wq at *
 obtain ⟨Q,hQ⟩:∃Q,conP p l=Q:=⟨_,rfl⟩
 rw [hQ]
 have HQ:Hid (Q={p with level:=y3,keep:=y5,cli:=x6,clean:=cl,hw:=fw,hu:=fu,hp:=fp,wtop:=if fw then bytesOfL (gotL R6) else p.wtop,wpay:=if fw then gotL (leftL R6) else p.wpay,wqos:=if fw then wq else p.wqos,wret:=if fw then wr else p.wret,user:=if fu then bytesOfL (gotL (if fw then leftL (leftL R6) else R6)) else p.user,pass:=if fp then gotL (if fu then leftL (if fw then leftL (leftL R6) else R6) else (if fw then leftL (leftL R6) else R6)) else p.pass}):=Lib.hid (by
  rw [←hQ]
  unfold conP
  simp only [d2,d3,e3,ef,d4,e5,d5,e6,d6,hhw,hhu,hhp,hcl,hwr,hwq])
 clear h hp ow op hQ e1 d1 d2 e3 d3 ef d4 e5 d5 e6 d6 x0 x1 eR2 hhw hhu hhp hcl hwr hwq
 have hne:r≠b:=by omega
 have hbw:b<w.heap.size:=by omega
 go_enter Try.func85,Try.ntmps85
 go_wp2_with fail
 refine (G1.out _ (H0.out).part).mono ?_
 rintro e w1 ⟨rfl,h1,t1⟩
 have H1:Hid (CSt w B b r s (p) (s) R1 w1):=Lib.hid ((H0.out).call h1 t1)
 have rc1:=H1.out.cells
 have rf1:=H1.out.frz
 clear h1 t1
 go_wp2_with fail
 refine (G2.out _ (H1.out).part).mono ?_
 rintro e w2 ⟨⟨ta,tn,td,rfl⟩,h2,t2⟩
 have H2:Hid (CSt w B b r s (p) (s) R2 w2):=Lib.hid ((H1.out).call h2 t2)
 have rc2:=H2.out.cells
 have rf2:=H2.out.frz
 clear h2 t2 rc1 rf1
 go_wp2_with fail
 refine (G3.out _ (H2.out).part).mono ?_
 rintro e w3 ⟨rfl,h3,t3⟩
 have H3:Hid (CSt w B b r s (p) (s) R3 w3):=Lib.hid ((H2.out).call h3 t3)
 have rc3:=H3.out.cells
 have rf3:=H3.out.frz
 clear h3 t3 rc2 rf2
 go_wp2_with fail
 refine (G4.out _ (((H3.out).put (p':={p with level:=y3}) (s':=s) 7 (.int .i64 y3) rfl (fun X=>⟨X.ow,X.op⟩) ⟨rfl,rfl,rfl,rfl,rfl,rfl⟩)).part).mono ?_
 rintro e w4 ⟨rfl,h4,t4⟩
 have H4:Hid (CSt w B b r s ({p with level:=y3}) (s) R4 w4):=Lib.hid ((((H3.out).put (p':={p with level:=y3}) (s':=s) 7 (.int .i64 y3) rfl (fun X=>⟨X.ow,X.op⟩) ⟨rfl,rfl,rfl,rfl,rfl,rfl⟩)).call h4 t4)
 have rc4:=H4.out.cells
 have rf4:=H4.out.frz
 clear h4 t4 rc3 rf3
 go_wp2_with fail
 refine (G5.out _ (H4.out).part).mono ?_
 rintro e w5 ⟨rfl,h5,t5⟩
 have H5:Hid (CSt w B b r s ({p with level:=y3}) (s) R5 w5):=Lib.hid ((H4.out).call h5 t5)
 have rc5:=H5.out.cells
 have rf5:=H5.out.frz
 clear h5 t5 rc4 rf4
 go_wp2_with fail
 refine (G6.out _ (((H5.out).put (p':={p with level:=y3,keep:=y5}) (s':=s) 10 (.int .i64 y5) rfl (fun X=>⟨X.ow,X.op⟩) ⟨rfl,rfl,rfl,rfl,rfl,rfl⟩)).part).mono ?_
 rintro e w6 ⟨rfl,h6,t6⟩
 have H6:Hid (CSt w B b r s ({p with level:=y3,keep:=y5}) (s) R6 w6):=Lib.hid ((((H5.out).put (p':={p with level:=y3,keep:=y5}) (s':=s) 10 (.int .i64 y5) rfl (fun X=>⟨X.ow,X.op⟩) ⟨rfl,rfl,rfl,rfl,rfl,rfl⟩)).call h6 t6)
 have rc6:=H6.out.cells
 have rf6:=H6.out.frz
 clear h6 t6 rc5 rf5
 have HP0:Hid (CSt w B b r s ({p with level:=y3,keep:=y5,cli:=x6,clean:=cl,hw:=fw,hu:=fu,hp:=fp}) (s) R6 (((((w6.setCell ⟨b,8,none⟩ (.string x6)).setCell ⟨b,9,none⟩ (.bool cl)).setCell ⟨b,11,none⟩ (.bool fw)).setCell ⟨b,16,none⟩ (.bool fu)).setCell ⟨b,17,none⟩ (.bool fp))):=Lib.hid (((((((((((H6.out).put (p':={p with level:=y3,keep:=y5,cli:=x6}) (s':=s) 8 (.string x6) rfl (fun X=>⟨X.ow,X.op⟩) ⟨rfl,rfl,rfl,rfl,rfl,rfl⟩)).put (p':={p with level:=y3,keep:=y5,cli:=x6,clean:=cl}) (s':=s) 9 (.bool cl) rfl (fun X=>⟨X.ow,X.op⟩) ⟨rfl,rfl,rfl,rfl,rfl,rfl⟩)).put (p':={p with level:=y3,keep:=y5,cli:=x6,clean:=cl,hw:=fw}) (s':=s) 11 (.bool fw) rfl (fun X=>⟨X.ow,X.op⟩) ⟨rfl,rfl,rfl,rfl,rfl,rfl⟩)).put (p':={p with level:=y3,keep:=y5,cli:=x6,clean:=cl,hw:=fw,hu:=fu}) (s':=s) 16 (.bool fu) rfl (fun X=>⟨X.ow,X.op⟩) ⟨rfl,rfl,rfl,rfl,rfl,rfl⟩)).put (p':={p with level:=y3,keep:=y5,cli:=x6,clean:=cl,hw:=fw,hu:=fu,hp:=fp}) (s':=s) 17 (.bool fp) rfl (fun X=>⟨X.ow,X.op⟩) ⟨rfl,rfl,rfl,rfl,rfl,rfl⟩))
 cases fw with
 | true =>
  obtain ⟨x7,e7⟩:∃x,bytesOfL (gotL R6)=x:=⟨_,rfl⟩
  obtain ⟨R7,d7⟩:∃R,leftL R6=R:=⟨_,rfl⟩
  obtain ⟨x8,e8⟩:∃x,gotL R7=x:=⟨_,rfl⟩
  obtain ⟨R8,d8⟩:∃R,leftL R7=R:=⟨_,rfl⟩
  have G7:=Lib.hid (fun W q=>text_x B r e7 d7 W q)
  have G8:=Lib.hid (fun W q=>lump_x B r e8 d8 W q)
  simp only [if_true,e7,d7,e8,d8] at HQ
  clear e7 d7 e8 d8
  go_wp2_with fail
  refine (G7.out _ (HP0.out).part).mono ?_
  rintro e w7 ⟨rfl,h7,t7⟩
  have H7:Hid (CSt w B b r s ({p with level:=y3,keep:=y5,cli:=x6,clean:=cl,hw:=true,hu:=fu,hp:=fp}) (s) R7 w7):=Lib.hid ((HP0.out).call h7 t7)
  have rc7:=H7.out.cells
  have rf7:=H7.out.frz
  clear h7 t7 rc6 rf6
  go_wp2_with fail
  refine (G8.out _ (((H7.out).put (p':={p with level:=y3,keep:=y5,cli:=x6,clean:=cl,hw:=true,hu:=fu,hp:=fp,wtop:=x7}) (s':=s) 12 (.string x7) rfl (fun X=>⟨X.ow,X.op⟩) ⟨rfl,rfl,rfl,rfl,rfl,rfl⟩)).part).mono ?_
  rintro e w8 ⟨A8,C8,rfl,o8,h8,t8⟩
  have O8:=Lib.hid (own_mono3 o8 (base':=w.heap.size) (by have:=(((H7.out).put (p':={p with level:=y3,keep:=y5,cli:=x6,clean:=cl,hw:=true,hu:=fu,hp:=fp,wtop:=x7}) (s':=s) 12 (.string x7) rfl (fun X=>⟨X.ow,X.op⟩) ⟨rfl,rfl,rfl,rfl,rfl,rfl⟩)).bl.size;simp at this ⊢;omega))
  have H8:Hid (CSt w B b r s ({p with level:=y3,keep:=y5,cli:=x6,clean:=cl,hw:=true,hu:=fu,hp:=fp,wtop:=x7}) (s) R8 w8):=Lib.hid ((((H7.out).put (p':={p with level:=y3,keep:=y5,cli:=x6,clean:=cl,hw:=true,hu:=fu,hp:=fp,wtop:=x7}) (s':=s) 12 (.string x7) rfl (fun X=>⟨X.ow,X.op⟩) ⟨rfl,rfl,rfl,rfl,rfl,rfl⟩)).call h8 t8)
  have rc8:=H8.out.cells
  have rf8:=H8.out.frz
  clear h8 t8 o8 rc7 rf7
  have HP1:Hid (CSt w B b r s ({p with level:=y3,keep:=y5,cli:=x6,clean:=cl,hw:=true,hu:=fu,hp:=fp,wtop:=x7,wpay:=x8,wqos:=wq,wret:=wr}) ({s with wA:=A8,wC:=C8}) R8 (((w8.setCell ⟨b,13,none⟩ (.slice A8 x8.length C8)).setCell ⟨b,14,none⟩ (.int .i64 wq)).setCell ⟨b,15,none⟩ (.bool wr))):=Lib.hid (((((((H8.out).put (p':={p with level:=y3,keep:=y5,cli:=x6,clean:=cl,hw:=true,hu:=fu,hp:=fp,wtop:=x7,wpay:=x8}) (s':={s with wA:=A8,wC:=C8}) 13 (.slice A8 x8.length C8) rfl (fun X=>⟨O8.out,X.op⟩) ⟨rfl,rfl,rfl,rfl,rfl,rfl⟩)).put (p':={p with level:=y3,keep:=y5,cli:=x6,clean:=cl,hw:=true,hu:=fu,hp:=fp,wtop:=x7,wpay:=x8,wqos:=wq}) (s':={s with wA:=A8,wC:=C8}) 14 (.int .i64 wq) rfl (fun X=>⟨X.ow,X.op⟩) ⟨rfl,rfl,rfl,rfl,rfl,rfl⟩)).put (p':={p with level:=y3,keep:=y5,cli:=x6,clean:=cl,hw:=true,hu:=fu,hp:=fp,wtop:=x7,wpay:=x8,wqos:=wq,wret:=wr}) (s':={s with wA:=A8,wC:=C8}) 15 (.bool wr) rfl (fun X=>⟨X.ow,X.op⟩) ⟨rfl,rfl,rfl,rfl,rfl,rfl⟩))
  cases fu with
  | true =>
   obtain ⟨x9,e9⟩:∃x,bytesOfL (gotL R8)=x:=⟨_,rfl⟩
   obtain ⟨R9,d9⟩:∃R,leftL R8=R:=⟨_,rfl⟩
   have G9:=Lib.hid (fun W q=>text_x B r e9 d9 W q)
   simp only [if_true,e9,d9] at HQ
   clear e9 d9
   go_wp2_with fail
   refine (G9.out _ (HP1.out).part).mono ?_
   rintro e w9 ⟨rfl,h9,t9⟩
   have H9:Hid (CSt w B b r s ({p with level:=y3,keep:=y5,cli:=x6,clean:=cl,hw:=true,hu:=true,hp:=fp,wtop:=x7,wpay:=x8,wqos:=wq,wret:=wr}) ({s with wA:=A8,wC:=C8}) R9 w9):=Lib.hid ((HP1.out).call h9 t9)
   have rc9:=H9.out.cells
   have rf9:=H9.out.frz
   clear h9 t9 rc8 rf8
   have HP2:Hid (CSt w B b r s ({p with level:=y3,keep:=y5,cli:=x6,clean:=cl,hw:=true,hu:=true,hp:=fp,wtop:=x7,wpay:=x8,wqos:=wq,wret:=wr,user:=x9}) ({s with wA:=A8,wC:=C8}) R9 (w9.setCell ⟨b,18,none⟩ (.string x9))):=Lib.hid (((H9.out).put (p':={p with level:=y3,keep:=y5,cli:=x6,clean:=cl,hw:=true,hu:=true,hp:=fp,wtop:=x7,wpay:=x8,wqos:=wq,wret:=wr,user:=x9}) (s':={s with wA:=A8,wC:=C8}) 18 (.string x9) rfl (fun X=>⟨X.ow,X.op⟩) ⟨rfl,rfl,rfl,rfl,rfl,rfl⟩))
   cases fp with
   | true =>
    obtain ⟨x10,e10⟩:∃x,gotL R9=x:=⟨_,rfl⟩
    obtain ⟨R10,d10⟩:∃R,leftL R9=R:=⟨_,rfl⟩
    have G10:=Lib.hid (fun W q=>lump_x B r e10 d10 W q)
    simp only [if_true,e10] at HQ
    clear e10 d10
    go_wp2_with fail
    refine (G10.out _ (HP2.out).part).mono ?_
    rintro e w10 ⟨A10,C10,rfl,o10,h10,t10⟩
    have O10:=Lib.hid (own_mono3 o10 (base':=w.heap.size) (by have:=(HP2.out).bl.size;simp at this ⊢;omega))
    have H10:Hid (CSt w B b r s ({p with level:=y3,keep:=y5,cli:=x6,clean:=cl,hw:=true,hu:=true,hp:=true,wtop:=x7,wpay:=x8,wqos:=wq,wret:=wr,user:=x9}) ({s with wA:=A8,wC:=C8}) R10 w10):=Lib.hid ((HP2.out).call h10 t10)
    have rc10:=H10.out.cells
    have rf10:=H10.out.frz
    clear h10 t10 o10 rc9 rf9
    go_wp2_with fail
    go_end0
    rw [HQ.out]
    exact (((H10.out).put (p':={p with level:=y3,keep:=y5,cli:=x6,clean:=cl,hw:=true,hu:=true,hp:=true,wtop:=x7,wpay:=x8,wqos:=wq,wret:=wr,user:=x9,pass:=x10}) (s':={s with wA:=A8,wC:=C8,uA:=A10,uC:=C10}) 19 (.slice A10 x10.length C10) rfl (fun X=>⟨X.ow,O10.out⟩) ⟨rfl,rfl,rfl,rfl,rfl,rfl⟩)).done
   | false =>
    simp only [if_false,Bool.false_eq_true] at HQ
    go_wp2_with fail
    go_end0
    rw [HQ.out]
    exact (HP2.out).done
  | false =>
   simp only [if_false,Bool.false_eq_true] at HQ
   cases fp with
   | true =>
    obtain ⟨x10,e10⟩:∃x,gotL R8=x:=⟨_,rfl⟩
    obtain ⟨R10,d10⟩:∃R,leftL R8=R:=⟨_,rfl⟩
    have G10:=Lib.hid (fun W q=>lump_x B r e10 d10 W q)
    simp only [if_true,e10] at HQ
    clear e10 d10
    go_wp2_with fail
    refine (G10.out _ (HP1.out).part).mono ?_
    rintro e w9 ⟨A9,C9,rfl,o9,h9,t9⟩
    have O9:=Lib.hid (own_mono3 o9 (base':=w.heap.size) (by have:=(HP1.out).bl.size;simp at this ⊢;omega))
    have H9:Hid (CSt w B b r s ({p with level:=y3,keep:=y5,cli:=x6,clean:=cl,hw:=true,hu:=false,hp:=true,wtop:=x7,wpay:=x8,wqos:=wq,wret:=wr}) ({s with wA:=A8,wC:=C8}) R10 w9):=Lib.hid ((HP1.out).call h9 t9)
    have rc9:=H9.out.cells
    have rf9:=H9.out.frz
    clear h9 t9 o9 rc8 rf8
    go_wp2_with fail
    go_end0
    rw [HQ.out]
    exact (((H9.out).put (p':={p with level:=y3,keep:=y5,cli:=x6,clean:=cl,hw:=true,hu:=false,hp:=true,wtop:=x7,wpay:=x8,wqos:=wq,wret:=wr,pass:=x10}) (s':={s with wA:=A8,wC:=C8,uA:=A9,uC:=C9}) 19 (.slice A9 x10.length C9) rfl (fun X=>⟨X.ow,O9.out⟩) ⟨rfl,rfl,rfl,rfl,rfl,rfl⟩)).done
   | false =>
    simp only [if_false,Bool.false_eq_true] at HQ
    go_wp2_with fail
    go_end0
    rw [HQ.out]
    exact (HP1.out).done
 | false =>
  simp only [if_false,Bool.false_eq_true] at HQ
  cases fu with
  | true =>
   obtain ⟨x9,e9⟩:∃x,bytesOfL (gotL R6)=x:=⟨_,rfl⟩
   obtain ⟨R9,d9⟩:∃R,leftL R6=R:=⟨_,rfl⟩
   have G9:=Lib.hid (fun W q=>text_x B r e9 d9 W q)
   simp only [if_true,e9,d9] at HQ
   clear e9 d9
   go_wp2_with fail
   refine (G9.out _ (HP0.out).part).mono ?_
   rintro e w7 ⟨rfl,h7,t7⟩
   have H7:Hid (CSt w B b r s ({p with level:=y3,keep:=y5,cli:=x6,clean:=cl,hw:=false,hu:=true,hp:=fp}) (s) R9 w7):=Lib.hid ((HP0.out).call h7 t7)
   have rc7:=H7.out.cells
   have rf7:=H7.out.frz
   clear h7 t7 rc6 rf6
   have HP2:Hid (CSt w B b r s ({p with level:=y3,keep:=y5,cli:=x6,clean:=cl,hw:=false,hu:=true,hp:=fp,user:=x9}) (s) R9 (w7.setCell ⟨b,18,none⟩ (.string x9))):=Lib.hid (((H7.out).put (p':={p with level:=y3,keep:=y5,cli:=x6,clean:=cl,hw:=false,hu:=true,hp:=fp,user:=x9}) (s':=s) 18 (.string x9) rfl (fun X=>⟨X.ow,X.op⟩) ⟨rfl,rfl,rfl,rfl,rfl,rfl⟩))
   cases fp with
   | true =>
    obtain ⟨x10,e10⟩:∃x,gotL R9=x:=⟨_,rfl⟩
    obtain ⟨R10,d10⟩:∃R,leftL R9=R:=⟨_,rfl⟩
    have G10:=Lib.hid (fun W q=>lump_x B r e10 d10 W q)
    simp only [if_true,e10] at HQ
    clear e10 d10
    go_wp2_with fail
    refine (G10.out _ (HP2.out).part).mono ?_
    rintro e w8 ⟨A8,C8,rfl,o8,h8,t8⟩
    have O8:=Lib.hid (own_mono3 o8 (base':=w.heap.size) (by have:=(HP2.out).bl.size;simp at this ⊢;omega))
    have H8:Hid (CSt w B b r s ({p with level:=y3,keep:=y5,cli:=x6,clean:=cl,hw:=false,hu:=true,hp:=true,user:=x9}) (s) R10 w8):=Lib.hid ((HP2.out).call h8 t8)
    have rc8:=H8.out.cells
    have rf8:=H8.out.frz
    clear h8 t8 o8 rc7 rf7
    go_wp2_with fail
    go_end0
    rw [HQ.out]
    exact (((H8.out).put (p':={p with level:=y3,keep:=y5,cli:=x6,clean:=cl,hw:=false,hu:=true,hp:=true,user:=x9,pass:=x10}) (s':={s with uA:=A8,uC:=C8}) 19 (.slice A8 x10.length C8) rfl (fun X=>⟨X.ow,O8.out⟩) ⟨rfl,rfl,rfl,rfl,rfl,rfl⟩)).done
   | false =>
    simp only [if_false,Bool.false_eq_true] at HQ
    go_wp2_with fail
    go_end0
    rw [HQ.out]
    exact (HP2.out).done
  | false =>
   simp only [if_false,Bool.false_eq_true] at HQ
   cases fp with
   | true =>
    obtain ⟨x10,e10⟩:∃x,gotL R6=x:=⟨_,rfl⟩
    obtain ⟨R10,d10⟩:∃R,leftL R6=R:=⟨_,rfl⟩
    have G10:=Lib.hid (fun W q=>lump_x B r e10 d10 W q)
    simp only [if_true,e10] at HQ
    clear e10 d10
    go_wp2_with fail
    refine (G10.out _ (HP0.out).part).mono ?_
    rintro e w7 ⟨A7,C7,rfl,o7,h7,t7⟩
    have O7:=Lib.hid (own_mono3 o7 (base':=w.heap.size) (by have:=(HP0.out).bl.size;simp at this ⊢;omega))
    have H7:Hid (CSt w B b r s ({p with level:=y3,keep:=y5,cli:=x6,clean:=cl,hw:=false,hu:=false,hp:=true}) (s) R10 w7):=Lib.hid ((HP0.out).call h7 t7)
    have rc7:=H7.out.cells
    have rf7:=H7.out.frz
    clear h7 t7 o7 rc6 rf6
    go_wp2_with fail
    go_end0
    rw [HQ.out]
    exact (((H7.out).put (p':={p with level:=y3,keep:=y5,cli:=x6,clean:=cl,hw:=false,hu:=false,hp:=true,pass:=x10}) (s':={s with uA:=A7,uC:=C7}) 19 (.slice A7 x10.length C7) rfl (fun X=>⟨X.ow,O7.out⟩) ⟨rfl,rfl,rfl,rfl,rfl,rfl⟩)).done
   | false =>
    simp only [if_false,Bool.false_eq_true] at HQ
    go_wp2_with fail
    go_end0
    rw [HQ.out]
    exact (HP0.out).done
end Go.Proofs.Ytnhpacaoobpkhaa
namespace Go.Proofs.Ytnhpacaoobpkhaa
theorem conR_eq (n:Int)(b:List UInt8):conP {pk0 with kind:=n / 16} b=conR n b:=by
 unfold conP conR
 simp only [List.drop_drop,Nat.reduceAdd]
 rfl
end Go.Proofs.Ytnhpacaoobpkhaa
namespace Go.Proofs.Ytnhpacaoobpkhaa
open Go.RowKit Go.Lib
theorem bytesOfL_size (l:List UInt8):(bytesOfL l).size=l.length:=by unfold bytesOfL;simp [ByteArray.size]
theorem left_le (l:List UInt8):(leftL l).length≤l.length:=by unfold leftL;rw [List.length_drop,List.length_drop];omega
theorem num_k (l:List UInt8)(k:Nat)(hk:k≤2):i64In (numL (l.take k)):=by
 obtain ⟨a,b⟩:=num_bounds l k hk
 unfold i64In;omega
theorem subsR_ok (q:Bool):∀(n:Nat) (l:List UInt8),l.length≤n→(subsR q l).length≤l.length∧∀x ∈ subsR q l,x.1.size≤65535∧i64In x.2
 | n,[],_=>by rw [subsR_nil];exact ⟨Nat.zero_le _,fun x hx=>by simp at hx⟩
 | 0,_ :: _,h=>by simp at h
 | n+1,c :: r,h=>by
  have hne:c :: r≠[]:=by simp
  have h1:=left_lt (c :: r) hne
  generalize c :: r=l at *
  rw [subsR_some q l hne]
  have h2:(if q then (leftL l).drop 1 else leftL l).length<l.length:=by
   split
   ·rw [List.length_drop];omega
   ·exact h1
  obtain ⟨g1,g2⟩:=subsR_ok q n (if q then (leftL l).drop 1 else leftL l) (by omega)
  refine ⟨by simp only [List.length_cons];omega,fun x hx=>?_⟩
  rcases List.mem_cons.1 hx with rfl | hx
  ·refine ⟨by simp only [bytesOfL_size];exact got_len l,?_⟩
   cases q
   ·simp only [Bool.false_eq_true,if_false];exact ⟨by omega,by omega⟩
   ·exact num_k _ 1 (by omega)
  ·exact g2 x hx
theorem par_ok (c:Int)(h0:0≤c)(h1:c≤255)(l:List UInt8)(hl:l.length≤1000000):PkOk (parR c l):=by
 have n1:=fun (r:List UInt8)=>num_k r 1 (by omega)
 have n2:=fun (r:List UInt8)=>num_k r 2 (by omega)
 have z:i64In 0:=⟨by decide,by decide⟩
 have kk:i64In (c / 16):=by unfold i64In;omega
 have sz:∀r,(bytesOfL (gotL r)).size≤1000000:=fun r=>by rw [bytesOfL_size];have:=got_len r;omega
 have gl:∀r,(gotL r).length≤1000000:=fun r=>by have:=got_len r;omega
 have e0:ByteArray.empty.size≤1000000:=by decide
 have hq:i64In (hdP c).qos:=by unfold hdP;split;(· show i64In (c / 2%4);unfold i64In;omega);· exact z
 have hk:i64In (hdP c).kind:=by unfold hdP;split <;> exact kk
 have base:PkOk (hdP c):=by
  unfold hdP at *
  split
  ·exact ⟨kk,by unfold i64In;simp only;omega,z,z,z,z,z,e0,Nat.zero_le _,e0,e0,Nat.zero_le _,e0,Nat.zero_le _,Nat.zero_le _,Nat.zero_le _,fun x hx=>by simp [pk0] at hx,fun x hx=>by simp [pk0] at hx⟩
  ·exact ⟨kk,z,z,z,z,z,z,e0,Nat.zero_le _,e0,e0,Nat.zero_le _,e0,Nat.zero_le _,Nat.zero_le _,Nat.zero_le _,fun x hx=>by simp [pk0] at hx,fun x hx=>by simp [pk0] at hx⟩
 unfold parR
 simp only
 split
 ·unfold conR
  simp only
  refine ⟨kk,z,z,n1 _,n2 _,?_,z,e0,Nat.zero_le _,sz _,?_,?_,?_,?_,Nat.zero_le _,Nat.zero_le _,fun x hx=>by simp [pk0] at hx,fun x hx=>by simp [pk0] at hx⟩
  ·simp only
   split
   ·have:=num_bounds (((leftL l).drop 1)) 1 (by omega);unfold i64In;omega
   ·exact z
  ·simp only;split
   ·exact sz _
   ·exact e0
  ·simp only;split
   ·exact gl _
   ·exact Nat.zero_le _
  ·simp only;split
   ·exact sz _
   ·exact e0
  ·simp only;split
   ·exact gl _
   ·exact Nat.zero_le _
 ·split
  ·exact ⟨hk,hq,base.id,base.level,base.keep,base.wqos,n1 _,base.top,base.pay,base.cli,base.wtop,base.wpay,base.user,base.pass,base.subs,base.codes,base.sub,base.cod⟩
  ·split
   ·refine ⟨hk,hq,?_,base.level,base.keep,base.wqos,base.code,sz _,?_,base.cli,base.wtop,base.wpay,base.user,base.pass,base.subs,base.codes,base.sub,base.cod⟩
    ·simp only;split
     ·exact z
     ·exact n2 _
    ·have:=left_le l
     simp only;split
     ·omega
     ·rw [List.length_drop];omega
   ·split
    ·exact ⟨hk,hq,n2 _,base.level,base.keep,base.wqos,base.code,base.top,base.pay,base.cli,base.wtop,base.wpay,base.user,base.pass,base.subs,base.codes,base.sub,base.cod⟩
    ·split
     ·obtain ⟨g1,g2⟩:=subsR_ok ((hdP c).kind==8) _ (l.drop 2) (Nat.le_refl _)
      rw [List.length_drop] at g1
      exact ⟨hk,hq,n2 _,base.level,base.keep,base.wqos,base.code,base.top,base.pay,base.cli,base.wtop,base.wpay,base.user,base.pass,by simp only;omega,base.codes,fun x hx=>⟨by have:=(g2 x hx).1;omega,(g2 x hx).2⟩,base.cod⟩
     ·split
      ·refine ⟨hk,hq,n2 _,base.level,base.keep,base.wqos,base.code,base.top,base.pay,base.cli,base.wtop,base.wpay,base.user,base.pass,base.subs,?_,base.sub,fun x hx=>?_⟩
       ·simp only;unfold codesR;rw [List.length_map,List.length_drop];omega
       ·simp only [codesR,List.mem_map] at hx
        obtain ⟨y,_,rfl⟩:=hx
        have:=y.toNat_lt
        unfold i64In;omega
      ·exact base
theorem readAt_in:∀(i:Nat) (n:Int) (l:List UInt8),i≤3→0≤n→0≤(readAt i n l).1∧0≤(readAt i n l).2.1∧(readAt i n l).2.1≤4∧(readAt i n l).2.1≤i+l.length∧((readAt i n l).2.2=0∨(readAt i n l).2.2=20∨(readAt i n l).2.2=21)
 | i,n,[],_,_=>by unfold readAt;simp
 | i,n,c :: r,hi,hn=>by
  have hp:(0:Int)<128 ^ i:=Int.pow_pos (by omega)
  unfold readAt
  split
  ·have:0≤n+(c.toNat:Int)*128 ^ i:=Int.add_nonneg hn (Int.mul_nonneg (by omega) (by omega))
   unfold wholeT
   split
   ·simp only [List.length_cons];refine ⟨this,?_,?_,?_,.inl trivial⟩ <;> omega
   ·simp;omega
  ·split
   ·simp;omega
   ·have hm:0≤n+((c.toNat:Int)%128)*128 ^ i:=Int.add_nonneg hn (Int.mul_nonneg (by omega) (by omega))
    obtain ⟨a1,a2,a3,a4,a5⟩:=readAt_in (i+1) _ r (by omega) hm
    refine ⟨a1,a2,a3,?_,a5⟩
    simp only [List.length_cons];omega
theorem readT_in (l:List UInt8):0≤(readT l).1∧0≤(readT l).2.1∧(readT l).2.1≤4∧(readT l).2.1≤l.length∧((readT l).2.2=0∨(readT l).2.2=20∨(readT l).2.2=21):=by
 have:=readAt_in 0 0 l (by omega) (by omega)
 simpa [readT] using this
def bndP:List UInt8→Int×Int×Int
 | []=>(0,0,20)
 | c :: r=>if begP c.toNat=false then (0,0,21) else if (readT r).2.2≠0 then (0,0,(readT r).2.2) else if (readT r).1 > 8192 then (0,0,22) else if 1+(readT r).2.1+(readT r).1 > (c :: r).length then (0,0,20) else (1+(readT r).2.1,1+(readT r).2.1+(readT r).1,0)
theorem bnd_ok (c:UInt8)(r:List UInt8)(h:(bndP (c :: r)).2.2=0):begP c.toNat=true∧1≤(bndP (c :: r)).1∧(bndP (c :: r)).1≤5∧(bndP (c :: r)).1≤(bndP (c :: r)).2.1∧(bndP (c :: r)).2.1≤(c :: r).length∧(bndP (c :: r)).2.1 - (bndP (c :: r)).1≤8192 ∧
  (bndP (c :: r)).1=1+(readT r).2.1∧(bndP (c :: r)).2.1=1+(readT r).2.1+(readT r).1∧(readT r).2.2=0:=by
 obtain ⟨a1,a2,a3,a4,a5⟩:=readT_in r
 by_cases q1:begP c.toNat=false
 ·have e:bndP (c :: r)=(0,0,21):=by simp only [bndP];rw [if_pos q1]
  rw [e] at h;cases h
 by_cases q2:(readT r).2.2≠0
 ·have e:bndP (c :: r)=(0,0,(readT r).2.2):=by simp only [bndP];rw [if_neg q1,if_pos q2]
  rw [e] at h;exact absurd h q2
 by_cases q3:(readT r).1 > 8192
 ·have e:bndP (c :: r)=(0,0,22):=by simp only [bndP];rw [if_neg q1,if_neg q2,if_pos q3]
  rw [e] at h;cases h
 by_cases q4:1+(readT r).2.1+(readT r).1 > (c :: r).length
 ·have e:bndP (c :: r)=(0,0,20):=by simp only [bndP];rw [if_neg q1,if_neg q2,if_neg q3,if_pos q4]
  rw [e] at h;cases h
 have e:bndP (c :: r)=(1+(readT r).2.1,1+(readT r).2.1+(readT r).1,0):=by simp only [bndP];rw [if_neg q1,if_neg q2,if_neg q3,if_neg q4]
 rw [e]
 simp only [ne_eq,Decidable.not_not] at q2
 refine ⟨by simpa using q1,?_,?_,?_,?_,?_,rfl,rfl,q2⟩ <;> simp only <;> omega
def rdP:List UInt8→Pk×Int×Int
 | []=>(pk0,0,20)
 | c :: r=>if (bndP (c :: r)).2.2≠0 then (pk0,0,(bndP (c :: r)).2.2) else
  if rightP (parR c.toNat (((c :: r).take (bndP (c :: r)).2.1.toNat).drop (bndP (c :: r)).1.toNat)) && decide (encP (parR c.toNat (((c :: r).take (bndP (c :: r)).2.1.toNat).drop (bndP (c :: r)).1.toNat))=(c :: r).take (bndP (c :: r)).2.1.toNat)
  then (parR c.toNat (((c :: r).take (bndP (c :: r)).2.1.toNat).drop (bndP (c :: r)).1.toNat),(bndP (c :: r)).2.1,0) else (pk0,0,21)
theorem bounds_any (A:Option Addr)(cap:Nat)(b:List UInt8)(B:Nat)(w:World)(hB:B≤w.heap.size)(hv:BytesAt w B (.slice A b.length cap) b)(hm:b.length≤1000000)(x y z:Int)(hT:bndP b=(x,y,z)) :
  Calls Try.prog 53 #[.slice A b.length cap] w fun e w'=>e=.returned (.tuple #[.int .i64 x,.int .i64 y,.int .i64 z])∧Below w.heap.size w w':=by
 rcases b with _ | ⟨c,r⟩
 ·obtain ⟨rfl,rfl,rfl⟩:(0:Int)=x∧(0:Int)=y∧(20:Int)=z:=by simpa [bndP] using hT
  clear hv hm hT
  go_enter Try.func53,Try.ntmps53
  go_wp2_with fail
  go_ret3
  exact ⟨rfl,Below.refl _ _⟩
 ·rcases A with _ | ad
  ·obtain ⟨A',c',hv1,hc,hm',hz,_⟩:=hv
   injection hv1 with v1 v2 v3
   have:=hz v1.symm
   cases this
  have z0:w.cell? ad=some (.int .u8 (c.toNat:Int)):=by have:=cell_zero hv;exact this
  obtain ⟨a1,a2,a3,a4,a5⟩:=readT_in r
  have hd:=BytesAt.drop hv 1 (by simp)
  have hcap:1≤cap∧cap≤9223372036854775807∧(c :: r).length≤cap:=by
   obtain ⟨A',c',hv1,hc,hm',hz,_⟩:=hv
   injection hv1 with v1 v2 v3
   subst v3
   unfold maxLen at hm'
   simp at hc ⊢;omega
  have hlen:(c :: r).length=r.length+1:=by simp
  have hr:r.length≤1000000:=by omega
  have hdl:(c :: r).length - 1=r.length:=by omega
  have hu:(c.toNat:Int)≤255:=by have:=c.toNat_lt;omega
  have HBeg:=Lib.hid (fun W=>wbegins_any (c.toNat:Int) (by omega) hu W)
  rw [hdl] at hd
  have HD:=Lib.hid hd
  have e0:(c :: r).drop 1=r:=rfl
  rw [e0] at HD
  have ea:ad.add 1=⟨ad.block,ad.off+1,none⟩:=rfl
  rw [ea] at HD
  have HR:=Lib.hid (fun (W:World) (h:Below w.heap.size w W) (t1 t2 t3:Int) (ht:readT r=(t1,t2,t3))=>read_any _ r W B (HD.out.below (h.mono hB)) hr t1 t2 t3 ht)
  have HZ:=Lib.hid (fun (W:World) (h:r=[])=>read_any (.slice (some ad) 0 0) [] W B (BytesAt.void W B ad 0 (by decide)) (by decide) 0 0 20 rfl)
  have hT0:r=[]→readT r=(0,0,20):=fun e=>by rw [e];rfl
  have hnil:cap=1→r=[]:=fun e=>List.eq_nil_of_length_eq_zero (by omega)
  have HN:=Lib.hid hnil
  clear hnil
  have hbn:bndP (c :: r)=if begP c.toNat=false then (0,0,21) else if (readT r).2.2≠0 then (0,0,(readT r).2.2) else if (readT r).1 > 8192 then (0,0,22) else if 1+(readT r).2.1+(readT r).1 > (c :: r).length then (0,0,20) else (1+(readT r).2.1,1+(readT r).2.1+(readT r).1,0):=rfl
  rw [hbn] at hT
  rw [hlen] at hT ⊢
  rw [hlen] at hcap
  clear hv hd e0 hbn hdl hlen ea
  generalize begP c.toNat=bg at *
  have HT0:=Lib.hid hT0
  clear hT0
  generalize hR:readT r=T at *
  obtain ⟨t1,t2,t3⟩:=T
  simp only at a1 a2 a3 a4 a5 hT
  have HR2:=Lib.hid (fun W h=>HR.out W h t1 t2 t3 rfl)
  have HC:Hid (cap=1→t3=20):=Lib.hid (fun e=>by have:=HT0.out (HN.out e);injection this with _ q;injection q)
  clear HR hR HT0
  generalize r.length=L at *
  cases bg with
  | false =>
   obtain ⟨rfl,rfl,rfl⟩:(0:Int)=x∧(0:Int)=y∧(21:Int)=z:=by simpa using hT
   go_enter Try.func53,Try.ntmps53
   go_wp2_with fail
   refine (HBeg.out _).mono ?_
   rintro e w1 ⟨rfl,hb1⟩
   go_wp2_with fail
   go_ret3
   exact ⟨rfl,hb1⟩
  | true =>
   simp only [Bool.true_eq_false,if_false] at hT
   by_cases q2:t3≠0
   ·obtain ⟨rfl,rfl,rfl⟩:(0:Int)=x∧(0:Int)=y∧t3=z:=by simpa [q2] using hT
    have q2b:(t3 != 0)=true:=by simpa using q2
    clear hT q2 a5
    by_cases hc1:cap=1
    ·subst hc1
     have HZ2:=Lib.hid (fun W=>HZ.out W (HN.out rfl))
     have e3:=HC.out rfl
     subst e3
     clear HZ HR2 HN HC
     have hL:L=0:=by omega
     subst hL
     go_enter Try.func53,Try.ntmps53
     go_wp2_with fail
     refine (HBeg.out _).mono ?_
     rintro e w1 ⟨rfl,hb1⟩
     go_wp2_with fail
     refine (HZ2.out _).mono ?_
     rintro e w2 ⟨rfl,rfl⟩
     go_wp2_with fail
     go_ret3
     exact ⟨rfl,hb1⟩
    clear HZ HN HC
    go_enter Try.func53,Try.ntmps53
    go_wp2_with fail
    refine (HBeg.out _).mono ?_
    rintro e w1 ⟨rfl,hb1⟩
    go_wp2_with fail
    refine (HR2.out _ hb1).mono ?_
    rintro e w2 ⟨rfl,rfl⟩
    go_wp2_with fail
    go_ret3
    exact ⟨rfl,hb1⟩
   ·simp only [ne_eq,Decidable.not_not] at q2
    subst q2
    simp only [ne_eq,not_true_eq_false,if_false] at hT
    clear a5
    have hc1:cap≠1:=fun e=>by have:=HC.out e;omega
    clear HZ HN HC
    by_cases q3:t1 > 8192
    ·obtain ⟨rfl,rfl,rfl⟩:(0:Int)=x∧(0:Int)=y∧(22:Int)=z:=by simpa [q3] using hT
     clear hT
     go_enter Try.func53,Try.ntmps53
     go_wp2_with fail
     refine (HBeg.out _).mono ?_
     rintro e w1 ⟨rfl,hb1⟩
     go_wp2_with fail
     refine (HR2.out _ hb1).mono ?_
     rintro e w2 ⟨rfl,rfl⟩
     go_wp2_with fail
     go_ret3
     exact ⟨rfl,hb1⟩
    ·by_cases q4:1+t2+t1 > ((L+1:Nat):Int)
     ·obtain ⟨rfl,rfl,rfl⟩:(0:Int)=x∧(0:Int)=y∧(20:Int)=z:=by rw [if_neg q3,if_pos q4] at hT;simpa using hT
      clear hT
      go_enter Try.func53,Try.ntmps53
      go_wp2_with fail
      refine (HBeg.out _).mono ?_
      rintro e w1 ⟨rfl,hb1⟩
      go_wp2_with fail
      refine (HR2.out _ hb1).mono ?_
      rintro e w2 ⟨rfl,rfl⟩
      go_wp2_with fail
      go_ret3
      exact ⟨rfl,hb1⟩
     ·obtain ⟨rfl,rfl,rfl⟩:1+t2=x∧1+t2+t1=y∧(0:Int)=z:=by rw [if_neg q3,if_neg q4] at hT;simpa using hT
      clear hT
      go_enter Try.func53,Try.ntmps53
      go_wp2_with fail
      refine (HBeg.out _).mono ?_
      rintro e w1 ⟨rfl,hb1⟩
      go_wp2_with fail
      refine (HR2.out _ hb1).mono ?_
      rintro e w2 ⟨rfl,rfl⟩
      go_wp2_with fail
      go_ret3
      exact ⟨rfl,hb1⟩
theorem ownsInts {w:World}{base:Nat}{v:Value}{l:List Int}(h:w.ownsRow base 3 1 v l.length (intCells l)):IntsAt w w.heap.size v l:=by
 rcases h.2 with ⟨rfl,h0⟩ | ⟨g,cap,cur,rfl,_,hg,hc,hm,_,_⟩
 ·have:l=[]:=List.eq_nil_of_length_eq_zero h0
  subst this
  exact ⟨none,0,rfl,by simp,by decide,fun _=>rfl,by simp,by simp⟩
 ·refine ⟨_,cap,rfl,hc,hm,by simp,fun ad had _=>?_,fun ad had j x hj=>?_⟩
  ·injection had with had;subst had
   exact (h.lt g rfl).2
  ·injection had with had;subst had
   exact h.cells rfl j _ (by unfold intCells;rw [List.getElem?_map,hj];rfl)
theorem own_nz {w:World}{base n size c:Nat}{E:TypeId}{A:Option Addr}{xs:List Value}(h:w.ownsRow base E size (.slice A n c) n xs):A=none→c=0:=by
 rcases h.2 with ⟨e,_⟩ | ⟨g,cap,cur,e,_⟩
 ·injection e with e1 e2 e3
  exact fun _=>e3
 ·injection e with e1 e2 e3
  intro q
  rw [q] at e1
  cases e1
structure PkOwn (w:World) (base:Nat) (q:Pk) (s:Sv):Prop where
 pay:w.ownsRow base 5 1 (.slice s.pA q.pay.length s.pC) q.pay.length (Lib.byteCells q.pay)
 wpay:w.ownsRow base 5 1 (.slice s.wA q.wpay.length s.wC) q.wpay.length (Lib.byteCells q.wpay)
 pass:w.ownsRow base 5 1 (.slice s.uA q.pass.length s.uC) q.pass.length (Lib.byteCells q.pass)
 subs:w.ownsRow base 70 2 (.slice s.sA q.subs.length s.sC) q.subs.length (subCells q.subs)
 codes:w.ownsRow base 3 1 (.slice s.cA q.codes.length s.cC) q.codes.length (intCells q.codes)
theorem PkOwn.at_ {w:World}{base:Nat}{q:Pk}{s:Sv}(h:PkOwn w base q s):PkAt w w.heap.size q s:=⟨ownsBytes h.pay,ownsBytes h.wpay,ownsBytes h.pass,ownsSubs h.subs,ownsInts h.codes⟩
theorem PkOwn.nil {w:World}{base:Nat}{q:Pk}{s:Sv}(h:PkOwn w base q s):NilOk s:=⟨own_nz h.pay,own_nz h.wpay,own_nz h.pass⟩
theorem PkOwn.to {w w':World}{base:Nat}{q:Pk}{s:Sv}(h:PkOwn w base q s)(hk:∀g,base≤g→g<w.heap.size→w'.heap[g]? = w.heap[g]?):PkOwn w' base q s:=⟨own_to h.pay hk,own_to h.wpay hk,own_to h.pass hk,own_to h.subs hk,own_to h.codes hk⟩
theorem PkOwn.on {w w':World}{base:Nat}{q:Pk}{s:Sv}(h:PkOwn w base q s)(hb:Below w.heap.size w w'):PkOwn w' base q s:=h.to fun g _ hg=>hb.block g hg
theorem PkOwn.mono {w:World}{base base':Nat}{q:Pk}{s:Sv}(h:PkOwn w base q s)(hb:base'≤base):PkOwn w base' q s:=⟨own_mono3 h.pay hb,own_mono3 h.wpay hb,own_mono3 h.pass hb,own_mono3 h.subs hb,own_mono3 h.codes hb⟩
theorem PkOwn.set {w:World}{base g:Nat}{q:Pk}{s:Sv}(h:PkOwn w base q s)(hg:g<base)(cs:Array Value):PkOwn (w.setRow g cs) base q s:=h.to fun b hb _=>by
 simp only [World.setRow]
 rw [Array.getElem?_modify,if_neg (by omega)]
theorem pk0_own (w:World)(base:Nat):PkOwn w base pk0 sv0:=⟨World.ownsRow_nil _ _ _ _,World.ownsRow_nil _ _ _ _,World.ownsRow_nil _ _ _ _,World.ownsRow_nil _ _ _ _,World.ownsRow_nil _ _ _ _⟩
def ParPost (w:World) (q:Pk) (e:Ending) (w':World):Prop :=
 ∃s,e=.returned (pkV q s)∧PkOwn w' w.heap.size q s∧Below w.heap.size w w'
theorem own_set {w:World}{base n size g:Nat}{E:TypeId}{v:Value}{xs:List Value}(h:w.ownsRow base E size v n xs)(hg:g<base)(cs:Array Value):(w.setRow g cs).ownsRow base E size v n xs :=
 own_to h fun b hb _=>by
  simp only [World.setRow]
  rw [Array.getElem?_modify,if_neg (by omega)]
theorem setRow_size (w:World)(g:Nat)(cs:Array Value):(w.setRow g cs).heap.size=w.heap.size:=by simp [World.setRow]
theorem par_fin {w w2:World} {q:Pk} {s:Sv} (base:Nat) (hb:w.heap.size<base) (o1:w2.ownsRow base 5 1 (.slice s.pA q.pay.length s.pC) q.pay.length (Lib.byteCells q.pay)) (o2:w2.ownsRow base 5 1 (.slice s.wA q.wpay.length s.wC) q.wpay.length (Lib.byteCells q.wpay))
  (o3:w2.ownsRow base 5 1 (.slice s.uA q.pass.length s.uC) q.pass.length (Lib.byteCells q.pass)) (o4:w2.ownsRow base 70 2 (.slice s.sA q.subs.length s.sC) q.subs.length (subCells q.subs)) (o5:w2.ownsRow base 3 1 (.slice s.cA q.codes.length s.cC) q.codes.length (intCells q.codes))
  (bl:Below w.heap.size w w2) (cs:Array Value):PkOwn (w2.setRow w.heap.size cs) w.heap.size q s∧Below w.heap.size w (w2.setRow w.heap.size cs) :=
 ⟨((PkOwn.mk o1 o2 o3 o4 o5).set hb cs).mono (by omega),below_setRow bl (Nat.le_refl _) _⟩
theorem nil_row {w:World}{base size:Nat}{E:TypeId}{A:Option Addr}{c n:Nat}{xs:List Value}(hA:A=none)(hc:c=0)(hn:n=0)(hx:xs=[]):w.ownsRow base E size (.slice A n c) n xs:=by
 subst hA hc hn hx
 exact World.ownsRow_nil _ _ _ _
theorem parse_1 (c:Int)(h0:0≤c)(h1:c≤255)(hj:c / 16=1)(l:List UInt8)(ad:Addr)(cap:Nat)(w:World)(hv:BytesAt w w.heap.size (.slice (some ad) l.length cap) l) :
  Calls Try.prog 54 #[.int .u8 c,.slice (some ad) l.length cap] w (ParPost w (parR c l)):=by
 have HH:=Lib.hid (fun W=>headOf_any c h0 h1 W)
 have e:hdP c={pk0 with kind:=c / 16}:=by unfold hdP;rw [hj];rfl
 have EQ:parR c l=conP (hdP c) l:=by rw [e,conR_eq];unfold parR;simp only [e,hj];rfl
 have k1:((hdP c).kind==1)=true:=by rw [e];simp [hj]
 have K:Hid ((hdP c).pay=[]∧(hdP c).wpay=[]∧(hdP c).pass=[]∧(hdP c).subs=[]∧(hdP c).codes=[]):=Lib.hid (by rw [e];exact ⟨rfl,rfl,rfl,rfl,rfl⟩)
 rw [EQ]
 clear EQ e
 generalize hdP c=P at *
 have HV:=Lib.hid hv
 clear hv
 go_enter Try.func54,Try.ntmps54
 go_wp2_with fail
 refine (HH.out _).mono ?_
 rintro e w1 ⟨rfl,hb1⟩
 have r0:=heap_below hb1 (heap_alloc_last _ _)
 have R0:=Lib.hid r0
 have z1:w.heap.size<w1.heap.size:=by have:=hb1.size;simp at this;omega
 have B1:=Lib.hid hb1
 clear r0 hb1 HH
 go_wp2_with ((with_reducible show wpList _ _ _ (⟨_,.store 28 (.tmp 5) _,_,_,_,_⟩ :: _) _ _);refine stLst (w1.heap.size) (by rfl) _ (pkC P sv0) (by rfl) (by rfl) (by rfl) (by rfl) (pkc_one _ _) ?_)
 refine (con_any w.heap.size w1.heap.size (w1.heap.size+1) ad cap l P sv0 _ ⟨heap_last2 _ _ _,?_,?_⟩ (by omega) (by omega) (heap_keep (heap_alloc_last _ _)) ?_ ?_).mono ?_
 ·have bl:=thn ((Below.refl w.heap.size w).alloc (Nat.le_refl _) _) B1.out
  exact HV.out.below ((bl.alloc (by omega) _).alloc (by simp;omega) _)
 ·omega
 ·rw [K.out.2.1];exact World.ownsRow_nil _ _ _ _
 ·rw [K.out.2.2.1];exact World.ownsRow_nil _ _ _ _
 rintro e w2 ⟨rfl,hb2,s',row2,hs,ow2,op2⟩
 have q0:w2.heap[w.heap.size]? = _:=(hb2.block _ (by omega)).trans (heap_keep (heap_keep R0.out))
 have W2:=Lib.hid (And.intro row2 (And.intro hs (And.intro ow2 op2)))
 have Q0:=Lib.hid q0
 have HB2:=Lib.hid hb2
 clear row2 hs ow2 op2 q0 hb2
 go_wp2_with (first
  | ((with_reducible show wpList _ _ _ (⟨_,.load 28 (.tmp 5),_,_,_,_⟩ :: _) _ _);refine ld_pk (w1.heap.size) (by rfl) (by rfl) (pkC (conP P l) s') _ _ (by exact W2.out.1) (by rfl) ?_)
  | ((with_reducible show wpList _ _ _ (⟨_,.store 28 (.tmp 4) _,_,_,_,_⟩ :: _) _ _);refine stR (w.heap.size) _ (pkC (conP P l) s') (by rfl) (by rfl) (by exact Q0.out) (by rfl) (by rfl) (pkc_one _ _) ?_))
 refine bodyPost_ret (v:=.agg _) (results_cell_row (by rfl) _ _ (w.heap.size) 28 _ (0,0) _ (by rfl) (setRow_heap _ _ _ _ _ _ (by exact Q0.out)) Try.underlying28 (by rfl) (by exact pk_sz)) (by rfl) ⟨s',rfl,?_⟩
 obtain ⟨_,⟨g1,g2,g3,g4,g5,g6⟩,ow2,op2⟩:=W2.out
 refine par_fin (w1.heap.size+1) (by omega) (nil_row g1 g2 ?_ ?_) (own_mono3 ow2 (by simp)) (own_mono3 op2 (by simp)) (nil_row g3 g4 ?_ ?_) (nil_row g5 g6 ?_ ?_) ?_ _
 ·show P.pay.length=0
  rw [K.out.1];rfl
 ·show Lib.byteCells P.pay=[]
  rw [K.out.1];rfl
 ·show P.subs.length=0
  rw [K.out.2.2.2.1];rfl
 ·show subCells P.subs=[]
  rw [K.out.2.2.2.1];rfl
 ·show P.codes.length=0
  rw [K.out.2.2.2.2];rfl
 ·show intCells P.codes=[]
  rw [K.out.2.2.2.2];rfl
 ·have bl:=thn ((Below.refl w.heap.size w).alloc (Nat.le_refl _) _) B1.out
  exact ((bl.alloc (by omega) _).alloc (by simp;omega) _).trans (HB2.out.mono (by omega))
theorem beg_right (p:Pk)(f:RF p)(hd:p.qos=0→p.dup=false)(h3:(p.kind==3)=true):begP (headP p)=true:=by
 have hk:p.kind=3:=by simpa using h3
 have e:headP p=48+(flagI p.dup 8+p.qos*2+flagI p.ret 1):=by unfold headP;rw [if_pos h3,hk];omega
 obtain ⟨q0,q1⟩:=f.qos
 have e1:headP p / 16=3:=by
  rw [e]
  obtain ⟨a1,b1⟩:=flagI_in p.dup 8 (by omega)
  obtain ⟨a2,b2⟩:=flagI_in p.ret 1 (by omega)
  omega
 have e2:headP p / 2%4=p.qos:=by rw [e];cases p.dup <;> cases p.ret <;> simp [flagI] <;> omega
 have e3:headP p / 8%2=if p.dup then 1 else 0:=by rw [e];cases p.dup <;> cases p.ret <;> simp [flagI] <;> omega
 unfold begP
 rw [e1,e2,e3]
 simp only [beq_self_eq_true,if_true,Bool.and_eq_true,inI_iff]
 refine ⟨⟨q0,q1⟩,?_⟩
 by_cases q:p.qos=0
 ·rw [hd q];simp
 ·simp;left;omega
theorem beg_other (p:Pk)(f:RF p)(h3:(p.kind==3)=false):begP (headP p)=true:=by
 have e1:=hd_kind p f
 unfold begP
 rw [e1,h3]
 simp only [Bool.false_eq_true,if_false,Bool.and_eq_true,inI_iff]
 refine ⟨f.kind,?_⟩
 unfold headP
 simp only [h3,Bool.false_eq_true,if_false,beq_self_eq_true]
theorem right_dup (p:Pk)(h:rightP p=true)(h3:(p.kind==3)=true)(hq:p.qos=0):p.dup=false:=by
 have hk:p.kind=3:=by simpa using h3
 simp only [rightP,Bool.and_eq_true,decide_eq_true_iff] at h
 obtain ⟨_,h⟩:=h
 have k1:(p.kind==1)=false:=by simp [hk]
 have k2:(p.kind==2)=false:=by simp [hk]
 simp [fitsP,k1,k2,h3,pfitsP,hq] at h
 exact h.2
theorem beg_of (p:Pk)(h:rightP p=true):begP (headP p)=true:=by
 have f:=right_f p h
 rcases h3:(p.kind==3) with _ | _
 ·exact beg_other p f h3
 ·exact beg_right p f (right_dup p h h3) h3
theorem par_right (p:Pk)(h:rightP p=true):parR (headP p) (bodyL p)=p:=by
 rcases k1:(p.kind==1) with _ | _
 ·exact par_enc p h k1
 ·exact par_enc1 p h k1
theorem bnd_enc (p:Pk)(h:rightP p=true)(r:List UInt8):bndP (encP p++r)=(1+((putL (lenP p)).length:Int),1+((putL (lenP p)).length:Int)+lenP p,0):=by
 have f:=right_f p h
 obtain ⟨g1,g2⟩:=f.len
 obtain ⟨g3,g4⟩:=head_in p f
 have e:encP p++r=UInt8.ofNat (headP p).toNat :: (putL (lenP p)++(bodyL p++r)):=by unfold encP;simp [List.append_assoc]
 have hc:((UInt8.ofNat (headP p).toNat).toNat:Int)=headP p:=byte_of _ g3 g4
 have hb:=body_len p
 rw [e]
 simp only [bndP]
 rw [hc,beg_of p h,back_T (lenP p) g1 (by omega)]
 simp only [Bool.true_eq_false,if_false,ne_eq,not_true_eq_false]
 rw [if_neg (by omega),if_neg]
 simp only [List.length_cons,List.length_append]
 omega
theorem enc_len (p:Pk):((encP p).length:Int)=1+(putL (lenP p)).length+lenP p:=by
 have hb:=body_len p
 unfold encP
 simp only [List.length_append,List.length_cons,List.length_nil]
 omega
theorem rd_enc (p:Pk)(h:rightP p=true)(r:List UInt8):rdP (encP p++r)=(p,((encP p).length:Int),0):=by
 have f:=right_f p h
 obtain ⟨g1,g2⟩:=f.len
 obtain ⟨g3,g4⟩:=head_in p f
 have hbn:=bnd_enc p h r
 have hl:=enc_len p
 have e:encP p++r=UInt8.ofNat (headP p).toNat :: (putL (lenP p)++(bodyL p++r)):=by unfold encP;simp [List.append_assoc]
 have hc:((UInt8.ofNat (headP p).toNat).toNat:Int)=headP p:=byte_of _ g3 g4
 have ht:(encP p++r).take (1+((putL (lenP p)).length:Int)+lenP p).toNat=encP p:=by
  rw [←hl,Int.toNat_natCast];exact List.take_left
 have hd:(encP p).drop (1+((putL (lenP p)).length:Int)).toNat=bodyL p:=by
  have e1:encP p=(UInt8.ofNat (headP p).toNat :: putL (lenP p))++bodyL p:=by unfold encP;simp
  rw [e1]
  have e2:(1+((putL (lenP p)).length:Int)).toNat=(UInt8.ofNat (headP p).toNat :: putL (lenP p)).length:=by simp only [List.length_cons];omega
  rw [e2];exact List.drop_left
 rw [e] at hbn ht ⊢
 simp only [rdP]
 rw [hbn,ht,hd,hc,par_right p h,h]
 simp only [ne_eq,not_true_eq_false,if_false,decide_true,Bool.and_self,if_true,←hl]
theorem enc_inj (p q:Pk)(hp:rightP p=true)(hq:rightP q=true)(h:encP p=encP q):p=q:=by
 have h1:=rd_enc p hp []
 have h2:=rd_enc q hq []
 rw [h] at h1
 rw [h1] at h2
 injection h2
end Go.Proofs.Ytnhpacaoobpkhaa
