import Derived.Test.YtnhpacaoobpkhaaGRR
namespace Go.Proofs.Ytnhpacaoobpkhaa
open Go.RowKit Go.Lib
set_option linter.unusedVariables false
set_option maxRecDepth 100000
set_option maxHeartbeats 8000000
theorem rright_8 (p:Pk) (s:Sv) (B:Nat) (w:World) (hp:PkAt w B p s) (hB:B≤w.heap.size) (ok:PkOk p)
  (hc1:rc1 p=true) (hc2:rc2 p=true) (e1:inI p.level 0 255=true) (e2:inI p.keep 0 65535=true) (e3:p.hp=false) (e5:inI p.code 0 5=true) (e6:p.pres=false) (q8:(p.kind==8)=true) (q10:(p.kind==10)=false) (q9:(p.kind==9)=false)
  (hbody:rc3 p=true→∀W,PkAt W B p s→B≤W.heap.size→Calls Try.prog 39 #[pkV p s] W (NewPost W (bodyL p))) :
  Calls Try.prog 20 #[pkV p s] w fun e w'=>e=.returned (.bool (refRP p))∧Below w.heap.size w w':=by
 obtain ⟨pA,pC,wA,wC,uA,uC,sA,sC,cA,cC⟩:=s
 have HP:=Lib.hid hp
 have OK:=Lib.hid ok
 have HBD:=Lib.hid hbody
 have c8:=ok.subs
 have c9:=ok.codes
 clear hbody
 go_enter Try.func20,Try.ntmps20
 go_upto_region 1 with fail
 refine rr1_main (RRT.ops ⟨by kernel_rfl,by kernel_rfl,by kernel_rfl,by kernel_rfl,by kernel_rfl,by kernel_rfl,by kernel_rfl,by kernel_rfl,by kernel_rfl,by kernel_rfl,by kernel_rfl,by kernel_rfl,by kernel_rfl,by kernel_rfl,by kernel_rfl,by kernel_rfl,by kernel_rfl,by kernel_rfl,by kernel_rfl,by kernel_rfl,by kernel_rfl,by kernel_rfl,by kernel_rfl,by kernel_rfl,by kernel_rfl,by kernel_rfl,by kernel_rfl,by kernel_rfl,by kernel_rfl,by kernel_rfl,by kernel_rfl,by kernel_rfl,by kernel_rfl,by kernel_rfl,by kernel_rfl,by kernel_rfl,by kernel_rfl,by kernel_rfl,by kernel_rfl,by kernel_rfl,by kernel_rfl,by kernel_rfl,by kernel_rfl,by kernel_rfl,by kernel_rfl,by kernel_rfl,by kernel_rfl,by kernel_rfl,by kernel_rfl,by kernel_rfl,by kernel_rfl,by kernel_rfl,by kernel_rfl,by kernel_rfl,by kernel_rfl,by kernel_rfl,by kernel_rfl,by kernel_rfl,by kernel_rfl,by kernel_rfl,by kernel_rfl,by kernel_rfl,by kernel_rfl,by kernel_rfl,by kernel_rfl,by kernel_rfl,by kernel_rfl,by kernel_rfl,by kernel_rfl,by kernel_rfl,by kernel_rfl,by kernel_rfl⟩) (by kernel_rfl) (rd_all (by kernel_rfl)) (by kernel_rfl) ⟨by kernel_rfl,by kernel_rfl,by kernel_rfl⟩ p ⟨pA,pC,wA,wC,uA,uC,sA,sC,cA,cC⟩ B w hp hB ok (fun c a a' w h1 h2=>⟨h1.trans h2.1,h2.2⟩) _ _ ⟨⟨by rfl,fun x hx=>?_⟩,by rfl⟩ ⟨heap_alloc_last _ _,alB (Below.refl _ _) _⟩ ?_
 ·simp only [List.mem_cons,List.not_mem_nil,or_false] at hx
  rcases hx with rfl | rfl | rfl <;> rfl
 clear hp ok
 intro a W F hS
 generalize z1:(!rc1 p)=b1 at F
 obtain ⟨g,hg⟩:=frame_r a p ⟨pA,pC,wA,wC,uA,uC,sA,sC,cA,cC⟩ w.heap.size _ F
 subst hg
 clear F
 have ROW:=Lib.hid hS.1
 have BW:=hS.2
 have RC:=row_cells hS.1
 clear hS
 rcases b1 with _ | _
 rotate_left 1
 ·go_wp2_with fail
  go_ret
  exact absurd (hc1.symm.trans (show rc1 p=false by simpa using z1)) (by decide)
 have Z1:=Lib.hid hc1
 have Z2:=Lib.hid hc2
 clear z1 hc1 hc2
 go_wp2_with (go_at_call 44;refine (rin_any _ _ _ _).mono ?_;rintro e w' ⟨rfl,rfl⟩)
 go_loopw [3] (fun i wr=>∃k:Nat,k≤p.subs.length∧i=.int .i64 k∧Hid ((p.subs.take k).all (rcS p)=true)∧Below w.heap.size w wr∧Hid (wr.heap[w.heap.size]? = some (.cells (pkC p ⟨pA,pC,wA,wC,uA,uC,sA,sC,cA,cC⟩) 28 (0,0)))) (fun i _=>p.subs.length - (intOf i).toNat)
 case atStart=>exact ⟨0,Nat.zero_le _,rfl,Lib.hid (by simp),BW,ROW⟩
 case round =>
  obtain ⟨k,hk,rfl,hT,hb,h1⟩:=hrel
  have C1:=row_cells h1.out
  clear ROW BW
  by_cases hlt:k<p.subs.length
  ·obtain ⟨ad,hA,hkc,c1,c2⟩:=(HP.out.subs.to hB hb).at_ k hlt
   dsimp only at hA hkc
   subst hA
   have hst:Hid ((p.subs.take (k+1)).all (rcS p)=((p.subs.take k).all (rcS p) && rcS p (p.subs[k].1,p.subs[k].2))):=Lib.hid (by rw [List.take_succ_eq_append_getElem hlt,List.all_append];simp)
   have hfl:Hid (rcS p (p.subs[k].1,p.subs[k].2)=false→rc3 p=false):=Lib.hid (fun e=>by
    have:p.subs.all (rcS p)=false:=by
     rw [List.all_eq_false]
     exact ⟨p.subs[k],List.getElem_mem hlt,by rw [show p.subs[k]=(p.subs[k].1,p.subs[k].2) from rfl,e];simp⟩
    unfold rc3
    rw [this];rfl)
   have hxs:=(OK.out.sub _ (List.getElem_mem hlt)).1
   generalize p.subs[k].1=x at *
   generalize p.subs[k].2=y at *
   rcases t1:rtxt x with _ | _
   ·go_wp2_with (go_at_call 47;refine (rtext_any _ _ (by exact hxs)).mono ?_;rintro e w' ⟨rfl,hb'⟩;have C2:=row_cells (heap_below hb' h1.out);have c1':=(hb'.cell (World.block_lt_of_cell? _ _ c1)).trans c1;have c2':=(hb'.cell (World.block_lt_of_cell? _ _ c2)).trans c2)
    go_ret
    exact ⟨ret_bool (by rw [ref_parts,Z1.out,Z2.out,hfl.out (by unfold rcS;simp [*])];rfl),thn hb hb'⟩
   rcases t2:inI y 0 2 with _ | _
   ·go_wp2_with (first | (go_at_call 47;refine (rtext_any _ _ (by exact hxs)).mono ?_;rintro e w' ⟨rfl,hb'⟩;have C2:=row_cells (heap_below hb' h1.out);have c1':=(hb'.cell (World.block_lt_of_cell? _ _ c1)).trans c1;have c2':=(hb'.cell (World.block_lt_of_cell? _ _ c2)).trans c2) | (go_at_call 44;refine (rin_any _ _ _ _).mono ?_;rintro e w' ⟨rfl,rfl⟩))
    go_ret
    exact ⟨ret_bool (by rw [ref_parts,Z1.out,Z2.out,hfl.out (by unfold rcS;simp [*])];rfl),thn hb hb'⟩
   have t3:=q10
   go_wp2_with (first | (go_at_call 47;refine (rtext_any _ _ (by exact hxs)).mono ?_;rintro e w' ⟨rfl,hb'⟩;have C2:=row_cells (heap_below hb' h1.out);obtain ⟨hc',hf'⟩:=bcell hb';have c1':=(hb'.cell (World.block_lt_of_cell? _ _ c1)).trans c1;have c2':=(hb'.cell (World.block_lt_of_cell? _ _ c2)).trans c2) | (go_at_call 44;refine (rin_any _ _ _ _).mono ?_;rintro e w' ⟨rfl,rfl⟩))
   go_roundw
   case rel=>exact ⟨k+1,hlt,by go_num,Lib.hid (by rw [hst.out,hT.out];unfold rcS;simp [*]),by (repeat (first | assumption | exact Below.refl _ _ | exact (Below.refl _ _).alloc (Nat.le_refl _) _ | (refine thn ?_ (by assumption)) | (refine alB ?_ _) | (refine dwN ?_ _) | (refine Below.drew ?_))),Lib.hid (heap_below hb' h1.out)⟩
   case measure=>simp [intOf];omega
  ·have hS1:p.subs.all (rcS p)=true:=by have e:=hT.out;rwa [List.take_of_length_le (by omega)] at e
   have S1:=Lib.hid hS1
   clear hS1 hT
   go_wp2_with fail
   go_loopw [4] (fun i wr'=>∃j:Nat,j≤p.codes.length∧i=.int .i64 j∧Hid ((p.codes.take j).all rcC=true)∧Below w.heap.size w wr'∧Hid (wr'.heap[w.heap.size]? = some (.cells (pkC p ⟨pA,pC,wA,wC,uA,uC,sA,sC,cA,cC⟩) 28 (0,0)))) (fun i _=>p.codes.length - (intOf i).toNat)
   case atStart=>exact ⟨0,Nat.zero_le _,rfl,Lib.hid (by simp),hb,h1⟩
   case round =>
    clear C1 hb h1
    obtain ⟨j,hj,rfl,hT,hb,h1⟩:=hrel
    have C1:=row_cells h1.out
    by_cases hlt2:j<p.codes.length
    ·obtain ⟨ad,hA,hkc,c1⟩:=(HP.out.codes.to hB hb).at_ j hlt2
     dsimp only at hA hkc
     subst hA
     have hst:Hid ((p.codes.take (j+1)).all rcC=((p.codes.take j).all rcC && rcC p.codes[j])):=Lib.hid (by rw [List.take_succ_eq_append_getElem hlt2,List.all_append];simp)
     have hfl:Hid (rcC p.codes[j]=false→rc3 p=false):=Lib.hid (fun e=>by
      have:p.codes.all rcC=false:=by
       rw [List.all_eq_false]
       exact ⟨p.codes[j],List.getElem_mem hlt2,by rw [e];simp⟩
      unfold rc3
      rw [this];simp)
     generalize p.codes[j]=x at *
     rcases t1:inI x 0 2 with _ | _
     ·rcases t2:(x != 128) with _ | _
      ·go_wp2_with (go_at_call 44;refine (rin_any _ _ _ _).mono ?_;rintro e w' ⟨rfl,rfl⟩)
       go_roundw
       case rel=>exact ⟨j+1,hlt2,by go_num,Lib.hid (by rw [hst.out,hT.out];unfold rcC;simp [*];try simpa using t2),hb,h1⟩
       case measure=>simp [intOf];omega
      ·go_wp2_with (go_at_call 44;refine (rin_any _ _ _ _).mono ?_;rintro e w' ⟨rfl,rfl⟩)
       go_ret
       exact ⟨ret_bool (by rw [ref_parts,Z1.out,Z2.out,hfl.out (by unfold rcC;simp [*];try simpa using t2)];rfl),hb⟩
     ·go_wp2_with (go_at_call 44;refine (rin_any _ _ _ _).mono ?_;rintro e w' ⟨rfl,rfl⟩)
      go_roundw
      case rel=>exact ⟨j+1,hlt2,by go_num,Lib.hid (by rw [hst.out,hT.out];unfold rcC;simp [*]),hb,h1⟩
      case measure=>simp [intOf];omega
    ·have hS2:p.codes.all rcC=true:=by have e:=hT.out;rwa [List.take_of_length_le (by omega)] at e
     have S2:=Lib.hid hS2
     clear hS2 hT
     have HL:=Lib.hid (body_len p)
     rcases qs:((p.subs.length:Int)==0) with _ | _
     rotate_left 1
     ·have Z3:Hid (rc3 p=false):=Lib.hid (by
       have e:(p.subs.length==0)=true:=by simpa using qs
       unfold rc3;rw [q8,q10,q9,e];simp)
      go_wp2_with fail
      go_ret
      exact ⟨ret_bool (by rw [ref_parts,Z1.out,Z2.out,Z3.out];rfl),hb⟩
     have Z3:Hid (rc3 p=true):=Lib.hid (by
      have e:(p.subs.length==0)=false:=by simpa using qs
      unfold rc3;rw [S1.out,S2.out,q8,q10,q9,e];rfl)
     go_wp2_with ((with_reducible show wpList _ _ _ (⟨_,.load 28 _,_,_,_,_⟩ :: _) _ _);refine ld_pk (w.heap.size) (by rfl) (by rfl) (pkC p ⟨pA,pC,wA,wC,uA,uC,sA,sC,cA,cC⟩) _ _ (by exact h1.out) (by rfl) ?_)
     refine (HBD.out Z3.out _ (HP.out.to hB hb) (Nat.le_trans hB hb.size)).mono ?_
     rintro e w2 ⟨A,c,rfl,ho,hb2⟩
     have hle:((bodyL p).length:Int)=lenP p:=HL.out
     generalize (bodyL p).length=n at *
     have HLe:=Lib.hid hle
     clear ho HL hle
     go_wp2_with fail
     go_ret
     exact ⟨ret_bool (by rw [ref_parts,Z1.out,Z2.out,Z3.out,←HLe.out];rfl),thn hb hb2⟩
theorem rright_9 (p:Pk) (s:Sv) (B:Nat) (w:World) (hp:PkAt w B p s) (hB:B≤w.heap.size) (ok:PkOk p)
  (hc1:rc1 p=true) (hc2:rc2 p=true) (e1:inI p.level 0 255=true) (e2:inI p.keep 0 65535=true) (e3:p.hp=false) (e5:inI p.code 0 5=true) (e6:p.pres=false) (q8:(p.kind==8)=false) (q10:(p.kind==10)=false) (q9:(p.kind==9)=true)
  (hbody:rc3 p=true→∀W,PkAt W B p s→B≤W.heap.size→Calls Try.prog 39 #[pkV p s] W (NewPost W (bodyL p))) :
  Calls Try.prog 20 #[pkV p s] w fun e w'=>e=.returned (.bool (refRP p))∧Below w.heap.size w w':=by
 obtain ⟨pA,pC,wA,wC,uA,uC,sA,sC,cA,cC⟩:=s
 have HP:=Lib.hid hp
 have OK:=Lib.hid ok
 have HBD:=Lib.hid hbody
 have c8:=ok.subs
 have c9:=ok.codes
 clear hbody
 go_enter Try.func20,Try.ntmps20
 go_upto_region 1 with fail
 refine rr1_main (RRT.ops ⟨by kernel_rfl,by kernel_rfl,by kernel_rfl,by kernel_rfl,by kernel_rfl,by kernel_rfl,by kernel_rfl,by kernel_rfl,by kernel_rfl,by kernel_rfl,by kernel_rfl,by kernel_rfl,by kernel_rfl,by kernel_rfl,by kernel_rfl,by kernel_rfl,by kernel_rfl,by kernel_rfl,by kernel_rfl,by kernel_rfl,by kernel_rfl,by kernel_rfl,by kernel_rfl,by kernel_rfl,by kernel_rfl,by kernel_rfl,by kernel_rfl,by kernel_rfl,by kernel_rfl,by kernel_rfl,by kernel_rfl,by kernel_rfl,by kernel_rfl,by kernel_rfl,by kernel_rfl,by kernel_rfl,by kernel_rfl,by kernel_rfl,by kernel_rfl,by kernel_rfl,by kernel_rfl,by kernel_rfl,by kernel_rfl,by kernel_rfl,by kernel_rfl,by kernel_rfl,by kernel_rfl,by kernel_rfl,by kernel_rfl,by kernel_rfl,by kernel_rfl,by kernel_rfl,by kernel_rfl,by kernel_rfl,by kernel_rfl,by kernel_rfl,by kernel_rfl,by kernel_rfl,by kernel_rfl,by kernel_rfl,by kernel_rfl,by kernel_rfl,by kernel_rfl,by kernel_rfl,by kernel_rfl,by kernel_rfl,by kernel_rfl,by kernel_rfl,by kernel_rfl,by kernel_rfl,by kernel_rfl,by kernel_rfl⟩) (by kernel_rfl) (rd_all (by kernel_rfl)) (by kernel_rfl) ⟨by kernel_rfl,by kernel_rfl,by kernel_rfl⟩ p ⟨pA,pC,wA,wC,uA,uC,sA,sC,cA,cC⟩ B w hp hB ok (fun c a a' w h1 h2=>⟨h1.trans h2.1,h2.2⟩) _ _ ⟨⟨by rfl,fun x hx=>?_⟩,by rfl⟩ ⟨heap_alloc_last _ _,alB (Below.refl _ _) _⟩ ?_
 ·simp only [List.mem_cons,List.not_mem_nil,or_false] at hx
  rcases hx with rfl | rfl | rfl <;> rfl
 clear hp ok
 intro a W F hS
 generalize z1:(!rc1 p)=b1 at F
 obtain ⟨g,hg⟩:=frame_r a p ⟨pA,pC,wA,wC,uA,uC,sA,sC,cA,cC⟩ w.heap.size _ F
 subst hg
 clear F
 have ROW:=Lib.hid hS.1
 have BW:=hS.2
 have RC:=row_cells hS.1
 clear hS
 rcases b1 with _ | _
 rotate_left 1
 ·go_wp2_with fail
  go_ret
  exact absurd (hc1.symm.trans (show rc1 p=false by simpa using z1)) (by decide)
 have Z1:=Lib.hid hc1
 have Z2:=Lib.hid hc2
 clear z1 hc1 hc2
 go_wp2_with (go_at_call 44;refine (rin_any _ _ _ _).mono ?_;rintro e w' ⟨rfl,rfl⟩)
 go_loopw [3] (fun i wr=>∃k:Nat,k≤p.subs.length∧i=.int .i64 k∧Hid ((p.subs.take k).all (rcS p)=true)∧Below w.heap.size w wr∧Hid (wr.heap[w.heap.size]? = some (.cells (pkC p ⟨pA,pC,wA,wC,uA,uC,sA,sC,cA,cC⟩) 28 (0,0)))) (fun i _=>p.subs.length - (intOf i).toNat)
 case atStart=>exact ⟨0,Nat.zero_le _,rfl,Lib.hid (by simp),BW,ROW⟩
 case round =>
  obtain ⟨k,hk,rfl,hT,hb,h1⟩:=hrel
  have C1:=row_cells h1.out
  clear ROW BW
  by_cases hlt:k<p.subs.length
  ·obtain ⟨ad,hA,hkc,c1,c2⟩:=(HP.out.subs.to hB hb).at_ k hlt
   dsimp only at hA hkc
   subst hA
   have hst:Hid ((p.subs.take (k+1)).all (rcS p)=((p.subs.take k).all (rcS p) && rcS p (p.subs[k].1,p.subs[k].2))):=Lib.hid (by rw [List.take_succ_eq_append_getElem hlt,List.all_append];simp)
   have hfl:Hid (rcS p (p.subs[k].1,p.subs[k].2)=false→rc3 p=false):=Lib.hid (fun e=>by
    have:p.subs.all (rcS p)=false:=by
     rw [List.all_eq_false]
     exact ⟨p.subs[k],List.getElem_mem hlt,by rw [show p.subs[k]=(p.subs[k].1,p.subs[k].2) from rfl,e];simp⟩
    unfold rc3
    rw [this];rfl)
   have hxs:=(OK.out.sub _ (List.getElem_mem hlt)).1
   generalize p.subs[k].1=x at *
   generalize p.subs[k].2=y at *
   rcases t1:rtxt x with _ | _
   ·go_wp2_with (go_at_call 47;refine (rtext_any _ _ (by exact hxs)).mono ?_;rintro e w' ⟨rfl,hb'⟩;have C2:=row_cells (heap_below hb' h1.out);have c1':=(hb'.cell (World.block_lt_of_cell? _ _ c1)).trans c1;have c2':=(hb'.cell (World.block_lt_of_cell? _ _ c2)).trans c2)
    go_ret
    exact ⟨ret_bool (by rw [ref_parts,Z1.out,Z2.out,hfl.out (by unfold rcS;simp [*])];rfl),thn hb hb'⟩
   rcases t2:inI y 0 2 with _ | _
   ·go_wp2_with (first | (go_at_call 47;refine (rtext_any _ _ (by exact hxs)).mono ?_;rintro e w' ⟨rfl,hb'⟩;have C2:=row_cells (heap_below hb' h1.out);have c1':=(hb'.cell (World.block_lt_of_cell? _ _ c1)).trans c1;have c2':=(hb'.cell (World.block_lt_of_cell? _ _ c2)).trans c2) | (go_at_call 44;refine (rin_any _ _ _ _).mono ?_;rintro e w' ⟨rfl,rfl⟩))
    go_ret
    exact ⟨ret_bool (by rw [ref_parts,Z1.out,Z2.out,hfl.out (by unfold rcS;simp [*])];rfl),thn hb hb'⟩
   have t3:=q10
   go_wp2_with (first | (go_at_call 47;refine (rtext_any _ _ (by exact hxs)).mono ?_;rintro e w' ⟨rfl,hb'⟩;have C2:=row_cells (heap_below hb' h1.out);obtain ⟨hc',hf'⟩:=bcell hb';have c1':=(hb'.cell (World.block_lt_of_cell? _ _ c1)).trans c1;have c2':=(hb'.cell (World.block_lt_of_cell? _ _ c2)).trans c2) | (go_at_call 44;refine (rin_any _ _ _ _).mono ?_;rintro e w' ⟨rfl,rfl⟩))
   go_roundw
   case rel=>exact ⟨k+1,hlt,by go_num,Lib.hid (by rw [hst.out,hT.out];unfold rcS;simp [*]),by (repeat (first | assumption | exact Below.refl _ _ | exact (Below.refl _ _).alloc (Nat.le_refl _) _ | (refine thn ?_ (by assumption)) | (refine alB ?_ _) | (refine dwN ?_ _) | (refine Below.drew ?_))),Lib.hid (heap_below hb' h1.out)⟩
   case measure=>simp [intOf];omega
  ·have hS1:p.subs.all (rcS p)=true:=by have e:=hT.out;rwa [List.take_of_length_le (by omega)] at e
   have S1:=Lib.hid hS1
   clear hS1 hT
   go_wp2_with fail
   go_loopw [4] (fun i wr'=>∃j:Nat,j≤p.codes.length∧i=.int .i64 j∧Hid ((p.codes.take j).all rcC=true)∧Below w.heap.size w wr'∧Hid (wr'.heap[w.heap.size]? = some (.cells (pkC p ⟨pA,pC,wA,wC,uA,uC,sA,sC,cA,cC⟩) 28 (0,0)))) (fun i _=>p.codes.length - (intOf i).toNat)
   case atStart=>exact ⟨0,Nat.zero_le _,rfl,Lib.hid (by simp),hb,h1⟩
   case round =>
    clear C1 hb h1
    obtain ⟨j,hj,rfl,hT,hb,h1⟩:=hrel
    have C1:=row_cells h1.out
    by_cases hlt2:j<p.codes.length
    ·obtain ⟨ad,hA,hkc,c1⟩:=(HP.out.codes.to hB hb).at_ j hlt2
     dsimp only at hA hkc
     subst hA
     have hst:Hid ((p.codes.take (j+1)).all rcC=((p.codes.take j).all rcC && rcC p.codes[j])):=Lib.hid (by rw [List.take_succ_eq_append_getElem hlt2,List.all_append];simp)
     have hfl:Hid (rcC p.codes[j]=false→rc3 p=false):=Lib.hid (fun e=>by
      have:p.codes.all rcC=false:=by
       rw [List.all_eq_false]
       exact ⟨p.codes[j],List.getElem_mem hlt2,by rw [e];simp⟩
      unfold rc3
      rw [this];simp)
     generalize p.codes[j]=x at *
     rcases t1:inI x 0 2 with _ | _
     ·rcases t2:(x != 128) with _ | _
      ·go_wp2_with (go_at_call 44;refine (rin_any _ _ _ _).mono ?_;rintro e w' ⟨rfl,rfl⟩)
       go_roundw
       case rel=>exact ⟨j+1,hlt2,by go_num,Lib.hid (by rw [hst.out,hT.out];unfold rcC;simp [*];try simpa using t2),hb,h1⟩
       case measure=>simp [intOf];omega
      ·go_wp2_with (go_at_call 44;refine (rin_any _ _ _ _).mono ?_;rintro e w' ⟨rfl,rfl⟩)
       go_ret
       exact ⟨ret_bool (by rw [ref_parts,Z1.out,Z2.out,hfl.out (by unfold rcC;simp [*];try simpa using t2)];rfl),hb⟩
     ·go_wp2_with (go_at_call 44;refine (rin_any _ _ _ _).mono ?_;rintro e w' ⟨rfl,rfl⟩)
      go_roundw
      case rel=>exact ⟨j+1,hlt2,by go_num,Lib.hid (by rw [hst.out,hT.out];unfold rcC;simp [*]),hb,h1⟩
      case measure=>simp [intOf];omega
    ·have hS2:p.codes.all rcC=true:=by have e:=hT.out;rwa [List.take_of_length_le (by omega)] at e
     have S2:=Lib.hid hS2
     clear hS2 hT
     have HL:=Lib.hid (body_len p)
     rcases qs:((p.codes.length:Int)==0) with _ | _
     rotate_left 1
     ·have Z3:Hid (rc3 p=false):=Lib.hid (by
       have e:(p.codes.length==0)=true:=by simpa using qs
       unfold rc3;rw [q8,q10,q9,e];simp)
      go_wp2_with fail
      go_ret
      exact ⟨ret_bool (by rw [ref_parts,Z1.out,Z2.out,Z3.out];rfl),hb⟩
     have Z3:Hid (rc3 p=true):=Lib.hid (by
      have e:(p.codes.length==0)=false:=by simpa using qs
      unfold rc3;rw [S1.out,S2.out,q8,q10,q9,e];rfl)
     go_wp2_with ((with_reducible show wpList _ _ _ (⟨_,.load 28 _,_,_,_,_⟩ :: _) _ _);refine ld_pk (w.heap.size) (by rfl) (by rfl) (pkC p ⟨pA,pC,wA,wC,uA,uC,sA,sC,cA,cC⟩) _ _ (by exact h1.out) (by rfl) ?_)
     refine (HBD.out Z3.out _ (HP.out.to hB hb) (Nat.le_trans hB hb.size)).mono ?_
     rintro e w2 ⟨A,c,rfl,ho,hb2⟩
     have hle:((bodyL p).length:Int)=lenP p:=HL.out
     generalize (bodyL p).length=n at *
     have HLe:=Lib.hid hle
     clear ho HL hle
     go_wp2_with fail
     go_ret
     exact ⟨ret_bool (by rw [ref_parts,Z1.out,Z2.out,Z3.out,←HLe.out];rfl),thn hb hb2⟩
theorem rright_10 (p:Pk) (s:Sv) (B:Nat) (w:World) (hp:PkAt w B p s) (hB:B≤w.heap.size) (ok:PkOk p)
  (hc1:rc1 p=true) (hc2:rc2 p=true) (e1:inI p.level 0 255=true) (e2:inI p.keep 0 65535=true) (e3:p.hp=false) (e5:inI p.code 0 5=true) (e6:p.pres=false) (q8:(p.kind==8)=false) (q10:(p.kind==10)=true) (q9:(p.kind==9)=false)
  (hbody:rc3 p=true→∀W,PkAt W B p s→B≤W.heap.size→Calls Try.prog 39 #[pkV p s] W (NewPost W (bodyL p))) :
  Calls Try.prog 20 #[pkV p s] w fun e w'=>e=.returned (.bool (refRP p))∧Below w.heap.size w w':=by
 obtain ⟨pA,pC,wA,wC,uA,uC,sA,sC,cA,cC⟩:=s
 have HP:=Lib.hid hp
 have OK:=Lib.hid ok
 have HBD:=Lib.hid hbody
 have c8:=ok.subs
 have c9:=ok.codes
 clear hbody
 go_enter Try.func20,Try.ntmps20
 go_upto_region 1 with fail
 refine rr1_main (RRT.ops ⟨by kernel_rfl,by kernel_rfl,by kernel_rfl,by kernel_rfl,by kernel_rfl,by kernel_rfl,by kernel_rfl,by kernel_rfl,by kernel_rfl,by kernel_rfl,by kernel_rfl,by kernel_rfl,by kernel_rfl,by kernel_rfl,by kernel_rfl,by kernel_rfl,by kernel_rfl,by kernel_rfl,by kernel_rfl,by kernel_rfl,by kernel_rfl,by kernel_rfl,by kernel_rfl,by kernel_rfl,by kernel_rfl,by kernel_rfl,by kernel_rfl,by kernel_rfl,by kernel_rfl,by kernel_rfl,by kernel_rfl,by kernel_rfl,by kernel_rfl,by kernel_rfl,by kernel_rfl,by kernel_rfl,by kernel_rfl,by kernel_rfl,by kernel_rfl,by kernel_rfl,by kernel_rfl,by kernel_rfl,by kernel_rfl,by kernel_rfl,by kernel_rfl,by kernel_rfl,by kernel_rfl,by kernel_rfl,by kernel_rfl,by kernel_rfl,by kernel_rfl,by kernel_rfl,by kernel_rfl,by kernel_rfl,by kernel_rfl,by kernel_rfl,by kernel_rfl,by kernel_rfl,by kernel_rfl,by kernel_rfl,by kernel_rfl,by kernel_rfl,by kernel_rfl,by kernel_rfl,by kernel_rfl,by kernel_rfl,by kernel_rfl,by kernel_rfl,by kernel_rfl,by kernel_rfl,by kernel_rfl,by kernel_rfl⟩) (by kernel_rfl) (rd_all (by kernel_rfl)) (by kernel_rfl) ⟨by kernel_rfl,by kernel_rfl,by kernel_rfl⟩ p ⟨pA,pC,wA,wC,uA,uC,sA,sC,cA,cC⟩ B w hp hB ok (fun c a a' w h1 h2=>⟨h1.trans h2.1,h2.2⟩) _ _ ⟨⟨by rfl,fun x hx=>?_⟩,by rfl⟩ ⟨heap_alloc_last _ _,alB (Below.refl _ _) _⟩ ?_
 ·simp only [List.mem_cons,List.not_mem_nil,or_false] at hx
  rcases hx with rfl | rfl | rfl <;> rfl
 clear hp ok
 intro a W F hS
 generalize z1:(!rc1 p)=b1 at F
 obtain ⟨g,hg⟩:=frame_r a p ⟨pA,pC,wA,wC,uA,uC,sA,sC,cA,cC⟩ w.heap.size _ F
 subst hg
 clear F
 have ROW:=Lib.hid hS.1
 have BW:=hS.2
 have RC:=row_cells hS.1
 clear hS
 rcases b1 with _ | _
 rotate_left 1
 ·go_wp2_with fail
  go_ret
  exact absurd (hc1.symm.trans (show rc1 p=false by simpa using z1)) (by decide)
 have Z1:=Lib.hid hc1
 have Z2:=Lib.hid hc2
 clear z1 hc1 hc2
 go_wp2_with (go_at_call 44;refine (rin_any _ _ _ _).mono ?_;rintro e w' ⟨rfl,rfl⟩)
 go_loopw [3] (fun i wr=>∃k:Nat,k≤p.subs.length∧i=.int .i64 k∧Hid ((p.subs.take k).all (rcS p)=true)∧Below w.heap.size w wr∧Hid (wr.heap[w.heap.size]? = some (.cells (pkC p ⟨pA,pC,wA,wC,uA,uC,sA,sC,cA,cC⟩) 28 (0,0)))) (fun i _=>p.subs.length - (intOf i).toNat)
 case atStart=>exact ⟨0,Nat.zero_le _,rfl,Lib.hid (by simp),BW,ROW⟩
 case round =>
  obtain ⟨k,hk,rfl,hT,hb,h1⟩:=hrel
  have C1:=row_cells h1.out
  clear ROW BW
  by_cases hlt:k<p.subs.length
  ·obtain ⟨ad,hA,hkc,c1,c2⟩:=(HP.out.subs.to hB hb).at_ k hlt
   dsimp only at hA hkc
   subst hA
   have hst:Hid ((p.subs.take (k+1)).all (rcS p)=((p.subs.take k).all (rcS p) && rcS p (p.subs[k].1,p.subs[k].2))):=Lib.hid (by rw [List.take_succ_eq_append_getElem hlt,List.all_append];simp)
   have hfl:Hid (rcS p (p.subs[k].1,p.subs[k].2)=false→rc3 p=false):=Lib.hid (fun e=>by
    have:p.subs.all (rcS p)=false:=by
     rw [List.all_eq_false]
     exact ⟨p.subs[k],List.getElem_mem hlt,by rw [show p.subs[k]=(p.subs[k].1,p.subs[k].2) from rfl,e];simp⟩
    unfold rc3
    rw [this];rfl)
   have hxs:=(OK.out.sub _ (List.getElem_mem hlt)).1
   generalize p.subs[k].1=x at *
   generalize p.subs[k].2=y at *
   rcases t1:rtxt x with _ | _
   ·go_wp2_with (go_at_call 47;refine (rtext_any _ _ (by exact hxs)).mono ?_;rintro e w' ⟨rfl,hb'⟩;have C2:=row_cells (heap_below hb' h1.out);have c1':=(hb'.cell (World.block_lt_of_cell? _ _ c1)).trans c1;have c2':=(hb'.cell (World.block_lt_of_cell? _ _ c2)).trans c2)
    go_ret
    exact ⟨ret_bool (by rw [ref_parts,Z1.out,Z2.out,hfl.out (by unfold rcS;simp [*])];rfl),thn hb hb'⟩
   rcases t2:inI y 0 2 with _ | _
   ·go_wp2_with (first | (go_at_call 47;refine (rtext_any _ _ (by exact hxs)).mono ?_;rintro e w' ⟨rfl,hb'⟩;have C2:=row_cells (heap_below hb' h1.out);have c1':=(hb'.cell (World.block_lt_of_cell? _ _ c1)).trans c1;have c2':=(hb'.cell (World.block_lt_of_cell? _ _ c2)).trans c2) | (go_at_call 44;refine (rin_any _ _ _ _).mono ?_;rintro e w' ⟨rfl,rfl⟩))
    go_ret
    exact ⟨ret_bool (by rw [ref_parts,Z1.out,Z2.out,hfl.out (by unfold rcS;simp [*])];rfl),thn hb hb'⟩
   have t3:=q10
   rcases t4:(y != 0) with _ | _
   ·go_wp2_with (first | (go_at_call 47;refine (rtext_any _ _ (by exact hxs)).mono ?_;rintro e w' ⟨rfl,hb'⟩;have C2:=row_cells (heap_below hb' h1.out);have c1':=(hb'.cell (World.block_lt_of_cell? _ _ c1)).trans c1;have c2':=(hb'.cell (World.block_lt_of_cell? _ _ c2)).trans c2) | (go_at_call 44;refine (rin_any _ _ _ _).mono ?_;rintro e w' ⟨rfl,rfl⟩))
    go_roundw
    case rel=>exact ⟨k+1,hlt,by go_num,Lib.hid (by rw [hst.out,hT.out];unfold rcS;simp [*];try simpa using t4),by (repeat (first | assumption | exact Below.refl _ _ | exact (Below.refl _ _).alloc (Nat.le_refl _) _ | (refine thn ?_ (by assumption)) | (refine alB ?_ _) | (refine dwN ?_ _) | (refine Below.drew ?_))),Lib.hid (heap_below hb' h1.out)⟩
    case measure=>simp [intOf];omega
   ·go_wp2_with (first | (go_at_call 47;refine (rtext_any _ _ (by exact hxs)).mono ?_;rintro e w' ⟨rfl,hb'⟩;have C2:=row_cells (heap_below hb' h1.out);have c1':=(hb'.cell (World.block_lt_of_cell? _ _ c1)).trans c1;have c2':=(hb'.cell (World.block_lt_of_cell? _ _ c2)).trans c2) | (go_at_call 44;refine (rin_any _ _ _ _).mono ?_;rintro e w' ⟨rfl,rfl⟩))
    go_ret
    exact ⟨ret_bool (by rw [ref_parts,Z1.out,Z2.out,hfl.out (by unfold rcS;simp [*];try simpa using t4)];rfl),thn hb hb'⟩
  ·have hS1:p.subs.all (rcS p)=true:=by have e:=hT.out;rwa [List.take_of_length_le (by omega)] at e
   have S1:=Lib.hid hS1
   clear hS1 hT
   go_wp2_with fail
   go_loopw [4] (fun i wr'=>∃j:Nat,j≤p.codes.length∧i=.int .i64 j∧Hid ((p.codes.take j).all rcC=true)∧Below w.heap.size w wr'∧Hid (wr'.heap[w.heap.size]? = some (.cells (pkC p ⟨pA,pC,wA,wC,uA,uC,sA,sC,cA,cC⟩) 28 (0,0)))) (fun i _=>p.codes.length - (intOf i).toNat)
   case atStart=>exact ⟨0,Nat.zero_le _,rfl,Lib.hid (by simp),hb,h1⟩
   case round =>
    clear C1 hb h1
    obtain ⟨j,hj,rfl,hT,hb,h1⟩:=hrel
    have C1:=row_cells h1.out
    by_cases hlt2:j<p.codes.length
    ·obtain ⟨ad,hA,hkc,c1⟩:=(HP.out.codes.to hB hb).at_ j hlt2
     dsimp only at hA hkc
     subst hA
     have hst:Hid ((p.codes.take (j+1)).all rcC=((p.codes.take j).all rcC && rcC p.codes[j])):=Lib.hid (by rw [List.take_succ_eq_append_getElem hlt2,List.all_append];simp)
     have hfl:Hid (rcC p.codes[j]=false→rc3 p=false):=Lib.hid (fun e=>by
      have:p.codes.all rcC=false:=by
       rw [List.all_eq_false]
       exact ⟨p.codes[j],List.getElem_mem hlt2,by rw [e];simp⟩
      unfold rc3
      rw [this];simp)
     generalize p.codes[j]=x at *
     rcases t1:inI x 0 2 with _ | _
     ·rcases t2:(x != 128) with _ | _
      ·go_wp2_with (go_at_call 44;refine (rin_any _ _ _ _).mono ?_;rintro e w' ⟨rfl,rfl⟩)
       go_roundw
       case rel=>exact ⟨j+1,hlt2,by go_num,Lib.hid (by rw [hst.out,hT.out];unfold rcC;simp [*];try simpa using t2),hb,h1⟩
       case measure=>simp [intOf];omega
      ·go_wp2_with (go_at_call 44;refine (rin_any _ _ _ _).mono ?_;rintro e w' ⟨rfl,rfl⟩)
       go_ret
       exact ⟨ret_bool (by rw [ref_parts,Z1.out,Z2.out,hfl.out (by unfold rcC;simp [*];try simpa using t2)];rfl),hb⟩
     ·go_wp2_with (go_at_call 44;refine (rin_any _ _ _ _).mono ?_;rintro e w' ⟨rfl,rfl⟩)
      go_roundw
      case rel=>exact ⟨j+1,hlt2,by go_num,Lib.hid (by rw [hst.out,hT.out];unfold rcC;simp [*]),hb,h1⟩
      case measure=>simp [intOf];omega
    ·have hS2:p.codes.all rcC=true:=by have e:=hT.out;rwa [List.take_of_length_le (by omega)] at e
     have S2:=Lib.hid hS2
     clear hS2 hT
     have HL:=Lib.hid (body_len p)
     rcases qs:((p.subs.length:Int)==0) with _ | _
     rotate_left 1
     ·have Z3:Hid (rc3 p=false):=Lib.hid (by
       have e:(p.subs.length==0)=true:=by simpa using qs
       unfold rc3;rw [q8,q10,q9,e];simp)
      go_wp2_with fail
      go_ret
      exact ⟨ret_bool (by rw [ref_parts,Z1.out,Z2.out,Z3.out];rfl),hb⟩
     have Z3:Hid (rc3 p=true):=Lib.hid (by
      have e:(p.subs.length==0)=false:=by simpa using qs
      unfold rc3;rw [S1.out,S2.out,q8,q10,q9,e];rfl)
     go_wp2_with ((with_reducible show wpList _ _ _ (⟨_,.load 28 _,_,_,_,_⟩ :: _) _ _);refine ld_pk (w.heap.size) (by rfl) (by rfl) (pkC p ⟨pA,pC,wA,wC,uA,uC,sA,sC,cA,cC⟩) _ _ (by exact h1.out) (by rfl) ?_)
     refine (HBD.out Z3.out _ (HP.out.to hB hb) (Nat.le_trans hB hb.size)).mono ?_
     rintro e w2 ⟨A,c,rfl,ho,hb2⟩
     have hle:((bodyL p).length:Int)=lenP p:=HL.out
     generalize (bodyL p).length=n at *
     have HLe:=Lib.hid hle
     clear ho HL hle
     go_wp2_with fail
     go_ret
     exact ⟨ret_bool (by rw [ref_parts,Z1.out,Z2.out,Z3.out,←HLe.out];rfl),thn hb hb2⟩
end Go.Proofs.Ytnhpacaoobpkhaa
