import Derived.Test.YtnhpacaoobpkhaaDPar
import Derived.Test.YtnhpacaoobpkhaaDConA
import Derived.Test.YtnhpacaoobpkhaaDSub8
import Derived.Test.YtnhpacaoobpkhaaDCodes
import Derived.Test.YtnhpacaoobpkhaaGRAny
namespace Go.Proofs.Ytnhpacaoobpkhaa
open Go.RowKit Go.Lib
set_option linter.unusedSimpArgs false
set_option linter.unusedVariables false
theorem dpar_1_any (c:Int)(h0:0≤c)(h1:c≤255)(hj:c / 16=1)(B r:Nat)(S:PS)(w:World)(h:PtS w B r S) :
  Calls Try.prog 58 #[.int .u8 c,.pointer (some ⟨r,0,none⟩)] w (DParPost w B r (parD c S).1 (parD c S).2):=by
 by_cases hm:bytesOfL (lpD S).1=mqtt
 ·exact dpar_1y c h0 h1 hj B r S w h (by simp [hm])
 ·exact dpar_1_0000 c h0 h1 hj B r S w h (by simp [hm])
theorem dpar_any (c:Int)(h0:0≤c)(h1:c≤255)(ha:1≤c / 16)(hb:c / 16≤14)(B r:Nat)(S:PS)(w:World)(h:PtS w B r S) :
  Calls Try.prog 58 #[.int .u8 c,.pointer (some ⟨r,0,none⟩)] w (DParPost w B r (parD c S).1 (parD c S).2):=by
 have:c / 16=1∨c / 16=2∨c / 16=3∨c / 16=4∨c / 16=5∨c / 16=6∨c / 16=7∨c / 16=8∨c / 16=9∨c / 16=10∨c / 16=11∨c / 16=12∨c / 16=13∨c / 16=14:=by omega
 rcases this with hj | hj | hj | hj | hj | hj | hj | hj | hj | hj | hj | hj | hj | hj
 ·exact dpar_1_any c h0 h1 hj B r S w h
 ·exact dpar_2 c h0 h1 hj B r S w h
 ·rcases q:decide (0<c / 2%4) with _ | _
  ·exact dpar_3a c h0 h1 hj B r S w h q
  ·exact dpar_3b c h0 h1 hj B r S w h q
 ·exact dpar_4 c h0 h1 hj B r S w h
 ·exact dpar_5 c h0 h1 hj B r S w h
 ·exact dpar_6 c h0 h1 hj B r S w h
 ·exact dpar_7 c h0 h1 hj B r S w h
 ·exact dpar_8 c h0 h1 hj B r S w h
 ·exact dpar_9 c h0 h1 hj B r S w h
 ·exact dpar_10 c h0 h1 hj B r S w h
 ·exact dpar_11 c h0 h1 hj B r S w h
 ·exact dpar_12 c h0 h1 hj B r S w h
 ·exact dpar_13 c h0 h1 hj B r S w h
 ·exact dpar_14 c h0 h1 hj B r S w h
theorem d_lp (s:PS)(h:s.1.length≤10000):(bytesOfL (lpD s).1).size≤1000000∧(lpD s).1.length≤1000000∧(lpD s).2.1.length≤10000:=by
 obtain ⟨a,b,c⟩:=lpD_sz s
 omega
theorem d_nm (n:Nat)(s:PS)(h:s.1.length≤10000):(nmD n s).2.1.length≤10000:=Nat.le_trans (nmD_le n s) h
theorem d_if (b:Bool)(s:PS)(h:s.1.length≤10000):(bytesOfL (if b then lpD s else ([],s)).1).size≤1000000∧(if b then lpD s else ([],s)).1.length≤1000000∧(if b then lpD s else ([],s)).2.1.length≤10000:=by
 cases b
 ·exact ⟨by show (bytesOfL []).size≤1000000;decide,Nat.zero_le _,h⟩
 ·exact d_lp s h
theorem i_0:i64In 0:=⟨by decide,by decide⟩
theorem e_0:ByteArray.empty.size≤1000000:=by decide
theorem no_sub:∀x ∈ ([]:List (ByteArray×Int)),x.1.size≤1000000∧i64In x.2:=fun x hx=>by cases hx
theorem no_cod:∀x ∈ ([]:List Int),i64In x:=fun x hx=>by cases hx
theorem lite_0 (p:Pk)(h1:p.pay.length≤1000000)(h2:p.subs=[])(h3:p.codes=[]):Lite p :=
 ⟨h1,by rw [h2];exact Nat.zero_le _,fun q=>by rw [h2];exact Nat.zero_le _,by rw [h3];exact Nat.zero_le _⟩
theorem conD_ok (c:Int)(h0:0≤c)(h1:c≤255)(s:PS)(hs:s.1.length≤10000):PkOk (conD c s).1∧Lite (conD c s).1:=by
 have kk:i64In (c / 16):=by unfold i64In;omega
 have b0:(if bytesOfL (lpD s).1=mqtt then (lpD s).2 else ((lpD s).2.1,true)).1.length≤10000:=by
  split
  ·exact (d_lp s hs).2.2
  ·exact (d_lp s hs).2.2
 have b1:=d_nm 1 _ b0
 have f0:=nmD_in1 (nmD 1 (if bytesOfL (lpD s).1=mqtt then (lpD s).2 else ((lpD s).2.1,true))).2
 have b2:=d_nm 1 _ b1
 have b3:=d_nm 2 _ b2
 have b4:=d_lp _ b3
 refine ⟨⟨kk,i_0,i_0,in_i641 (nmD_in1 _),in_i64 (nmD_in 2 _ (by omega)),?_,i_0,e_0,Nat.zero_le _,b4.1,?_,?_,?_,?_,Nat.zero_le _,Nat.zero_le _,no_sub,no_cod⟩,lite_0 _ (Nat.zero_le _) rfl rfl⟩
 ·unfold conD;simp only;unfold i64In;omega
 ·exact (d_if _ _ b4.2.2).1
 ·exact (d_if _ _ (d_if _ _ b4.2.2).2.2).2.1
 ·exact (d_if _ _ (d_if _ _ (d_if _ _ b4.2.2).2.2).2.2).1
 ·exact (d_if _ _ (d_if _ _ (d_if _ _ (d_if _ _ b4.2.2).2.2).2.2).2.2).2.1
theorem parD_ok (c:Int)(h0:0≤c)(h1:c≤255)(s:PS)(hs:s.1.length≤10000):PkOk (parD c s).1∧Lite (parD c s).1:=by
 have kk:i64In (c / 16):=by unfold i64In;omega
 unfold parD
 simp only
 split
 ·exact conD_ok c h0 h1 s hs
 split
 ·exact ⟨⟨kk,i_0,i_0,i_0,i_0,i_0,in_i641 (nmD_in1 _),e_0,Nat.zero_le _,e_0,e_0,Nat.zero_le _,e_0,Nat.zero_le _,Nat.zero_le _,Nat.zero_le _,no_sub,no_cod⟩,lite_0 _ (Nat.zero_le _) rfl rfl⟩
 split
 ·have hq:i64In (c / 2%4):=by unfold i64In;omega
  have hp:(tkD (if 0<c / 2%4 then nmD 2 (lpD s).2 else (0,(lpD s).2)).2.1.length (if 0<c / 2%4 then nmD 2 (lpD s).2 else (0,(lpD s).2)).2).1.length≤1000000:=by
   refine Nat.le_trans (tkD_n _ _) ?_
   split
   ·have:=d_nm 2 _ (d_lp s hs).2.2;omega
   ·have:=(d_lp s hs).2.2;simp only;omega
  refine ⟨⟨kk,hq,?_,i_0,i_0,i_0,i_0,(d_lp s hs).1,hp,e_0,e_0,Nat.zero_le _,e_0,Nat.zero_le _,Nat.zero_le _,Nat.zero_le _,no_sub,no_cod⟩,lite_0 _ hp rfl rfl⟩
  simp only
  split
  ·exact in_i64 (nmD_in 2 _ (by omega))
  ·exact i_0
 split
 ·exact ⟨⟨kk,i_0,i_0,i_0,i_0,i_0,i_0,e_0,Nat.zero_le _,e_0,e_0,Nat.zero_le _,e_0,Nat.zero_le _,Nat.zero_le _,Nat.zero_le _,no_sub,no_cod⟩,lite_0 _ (Nat.zero_le _) rfl rfl⟩
 have hid:=in_i64 (nmD_in 2 s (by omega))
 have ha:=d_nm 2 s hs
 split
 ·obtain ⟨a1,a2⟩:=subsD_sz (c / 16==8) _ (nmD 2 s).2 (Nat.le_refl _)
  have a3:=fun q=>subsL_sum q (subsD (c / 16==8) (nmD 2 s).2).1
  refine ⟨⟨kk,i_0,hid,i_0,i_0,i_0,i_0,e_0,Nat.zero_le _,e_0,e_0,Nat.zero_le _,e_0,Nat.zero_le _,by simp only;omega,Nat.zero_le _,fun x hx=>?_,no_cod⟩,⟨Nat.zero_le _,by simp only;omega,fun q=>by have:=a3 q;simp only;omega,Nat.zero_le _⟩⟩
  obtain ⟨b1,b2,b3⟩:=a2 x hx
  exact ⟨by omega,in_i641 ⟨b2,b3⟩⟩
 split
 ·split
  ·exact ⟨⟨kk,i_0,hid,i_0,i_0,i_0,i_0,e_0,Nat.zero_le _,e_0,e_0,Nat.zero_le _,e_0,Nat.zero_le _,Nat.zero_le _,Nat.zero_le _,no_sub,no_cod⟩,lite_0 _ (Nat.zero_le _) rfl rfl⟩
  ·have hl:(codesR (nmD 2 s).2.1).length≤10000:=by unfold codesR;rw [List.length_map];exact ha
   refine ⟨⟨kk,i_0,hid,i_0,i_0,i_0,i_0,e_0,Nat.zero_le _,e_0,e_0,Nat.zero_le _,e_0,Nat.zero_le _,Nat.zero_le _,by simp only;omega,no_sub,fun x hx=>?_⟩,⟨Nat.zero_le _,Nat.zero_le _,fun q=>Nat.zero_le _,by simp only;omega⟩⟩
   simp only [codesR,List.mem_map] at hx
   obtain ⟨y,_,rfl⟩:=hx
   have:=y.toNat_lt
   unfold i64In;omega
 ·exact ⟨⟨kk,i_0,hid,i_0,i_0,i_0,i_0,e_0,Nat.zero_le _,e_0,e_0,Nat.zero_le _,e_0,Nat.zero_le _,Nat.zero_le _,Nat.zero_le _,no_sub,no_cod⟩,lite_0 _ (Nat.zero_le _) rfl rfl⟩
theorem doc_prog (c:UInt8) (all:List UInt8) (k:Nat) (body:List UInt8) (hall:all=(c :: all.tail)) (hbody:body=all.drop k)
  (hp:∀q,rightP q=true→encP q=all→(headP q=c.toNat∧bodyL q=body)) :
  (∀q,rightP (parR c.toNat body)=true→encP (parR c.toNat body)=all→q=parR c.toNat body→parD c.toNat (body,false)=(q,([],false))) ∧
  (rightP (parD c.toNat (body,false)).1=true→encP (parD c.toNat (body,false)).1=all→parR c.toNat body=(parD c.toNat (body,false)).1):=by
 refine ⟨fun q h1 h2 hq=>?_,fun h1 h2=>?_⟩
 ·obtain ⟨a,b⟩:=hp _ h1 h2
  have:=doc_right _ h1
  rw [a,b] at this
  rw [hq];exact this
 ·obtain ⟨a,b⟩:=hp _ h1 h2
  have:=par_right _ h1
  rw [a,b] at this
  exact this
end Go.Proofs.Ytnhpacaoobpkhaa
