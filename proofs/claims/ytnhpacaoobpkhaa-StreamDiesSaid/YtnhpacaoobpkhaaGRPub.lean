import Derived.Test.YtnhpacaoobpkhaaGRR
import Derived.Test.YtnhpacaoobpkhaaGBody
namespace Go.Proofs.Ytnhpacaoobpkhaa
open Go.RowKit Go.Lib
set_option linter.unusedVariables false
set_option maxRecDepth 100000
set_option maxHeartbeats 8000000
theorem rright_pub (p:Pk) (s:Sv) (B:Nat) (w:World) (hp:PkAt w B p s) (hB:B≤w.heap.size) (ok:PkOk p)
  (hc1:rc1 p=true) (e1:inI p.level 0 255=true) (e2:inI p.keep 0 65535=true) (e3:p.hp=false) (e5:inI p.code 0 5=true) (e6:p.pres=false) (q8:(p.kind==8)=false) (q10:(p.kind==10)=false) (q9:(p.kind==9)=false) (hs:p.subs.length=0) (hc:p.codes.length=0)
  (hbody:∀W,PkAt W B p s→B≤W.heap.size→Calls Try.prog 39 #[pkV p s] W (NewPost W (bodyL p))) :
  Calls Try.prog 20 #[pkV p s] w fun e w'=>e=.returned (.bool (decide (lenP p≤8192)))∧Below w.heap.size w w':=by
 obtain ⟨pA,pC,wA,wC,uA,uC,sA,sC,cA,cC⟩:=s
 have HP:=Lib.hid hp
 have OK:=Lib.hid ok
 have HBD:=Lib.hid hbody
 have c8:=ok.subs
 have c9:=ok.codes
 clear hbody
 go_enter Try.func20,Try.ntmps20
 go_upto_region 1 with fail
 refine rr1_main (RRT.ops ⟨by kernel_rfl,by kernel_rfl,by kernel_rfl,by kernel_rfl,by kernel_rfl,by kernel_rfl,by kernel_rfl,by kernel_rfl,by kernel_rfl,by kernel_rfl,by kernel_rfl,by kernel_rfl,by kernel_rfl,by kernel_rfl,by kernel_rfl,by kernel_rfl,by kernel_rfl,by kernel_rfl,by kernel_rfl,by kernel_rfl,by kernel_rfl,by kernel_rfl,by kernel_rfl,by kernel_rfl,by kernel_rfl,by kernel_rfl,by kernel_rfl,by kernel_rfl,by kernel_rfl,by kernel_rfl,by kernel_rfl,by kernel_rfl,by kernel_rfl,by kernel_rfl,by kernel_rfl,by kernel_rfl,by kernel_rfl,by kernel_rfl,by kernel_rfl,by kernel_rfl,by kernel_rfl,by kernel_rfl,by kernel_rfl,by kernel_rfl,by kernel_rfl,by kernel_rfl,by kernel_rfl,by kernel_rfl,by kernel_rfl,by kernel_rfl,by kernel_rfl,by kernel_rfl,by kernel_rfl,by kernel_rfl,by kernel_rfl,by kernel_rfl,by kernel_rfl,by kernel_rfl,by kernel_rfl,by kernel_rfl,by kernel_rfl,by kernel_rfl,by kernel_rfl,by kernel_rfl,by kernel_rfl,by kernel_rfl,by kernel_rfl,by kernel_rfl,by kernel_rfl,by kernel_rfl,by kernel_rfl,by kernel_rfl⟩) (by kernel_rfl) (rd_all (by kernel_rfl)) (by kernel_rfl) ⟨by kernel_rfl,by kernel_rfl,by kernel_rfl⟩ p ⟨pA,pC,wA,wC,uA,uC,sA,sC,cA,cC⟩ B w hp hB ok (fun c a a' w h1 h2=>⟨h1.trans h2.1,h2.2⟩) _ _ ⟨⟨by rfl,fun x hx=>?_⟩,by rfl⟩ ⟨heap_alloc_last _ _,alB (Below.refl _ _) _⟩ ?_
 ·simp only [List.mem_cons,List.not_mem_nil,or_false] at hx
  rcases hx with rfl | rfl | rfl <;> rfl
 clear hp ok
 intro a W F hS
 generalize z1:(!rc1 p)=b1 at F
 obtain ⟨g,hg⟩:=frame_r a p ⟨pA,pC,wA,wC,uA,uC,sA,sC,cA,cC⟩ w.heap.size _ F
 subst hg
 clear F
 have ROW:=Lib.hid hS.1
 have BW:=hS.2
 have RC:=row_cells hS.1
 clear hS
 rcases b1 with _ | _
 rotate_left 1
 ·go_wp2_with fail
  go_ret
  exact absurd (hc1.symm.trans (show rc1 p=false by simpa using z1)) (by decide)
 have HL:=Lib.hid (body_len p)
 clear z1 hc1
 go_wp2_with (go_at_call 44;refine (rin_any _ _ _ _).mono ?_;rintro e w' ⟨rfl,rfl⟩)
 go_loopw [3] (fun i wr=>i=.int .i64 0∧wr=W) (fun _ _=>0)
 case atStart=>exact ⟨rfl,rfl⟩
 case round =>
  obtain ⟨rfl,rfl⟩:=hrel
  go_wp2_with fail
  go_loopw [4] (fun i wr'=>i=.int .i64 0∧wr'=wr) (fun _ _=>0)
  case atStart=>exact ⟨rfl,rfl⟩
  case round =>
   obtain ⟨rfl,rfl⟩:=hrel
   go_wp2_with ((with_reducible show wpList _ _ _ (⟨_,.load 28 _,_,_,_,_⟩ :: _) _ _);refine ld_pk (w.heap.size) (by rfl) (by rfl) (pkC p ⟨pA,pC,wA,wC,uA,uC,sA,sC,cA,cC⟩) _ _ (by exact ROW.out) (by rfl) ?_)
   refine (HBD.out _ (HP.out.to hB BW) (Nat.le_trans hB BW.size)).mono ?_
   rintro e w2 ⟨A,c,rfl,ho,hb2⟩
   have hle:((bodyL p).length:Int)=lenP p:=HL.out
   generalize (bodyL p).length=n at *
   have HLe:=Lib.hid hle
   clear ho HL hle
   go_wp2_with fail
   go_ret
   exact ⟨ret_bool (by rw [←HLe.out]),thn BW hb2⟩
def msgA (q:Bool) (l:List UInt8):Pk:={pk0 with kind:=3,top:=⟨#[97]⟩,pay:=l,qos:=if q then 1 else 0,id:=if q then 7 else 0}
theorem msgA_len (q:Bool)(l:List UInt8):lenP (msgA q l)=3+l.length+(if q then 2 else 0):=by cases q <;> rfl
theorem txt_a:txt ⟨#[97]⟩=true:=by decide +kernel
theorem msgA_right (q:Bool)(l:List UInt8):rightP (msgA q l)=decide (lenP (msgA q l)≤8192):=by
 have e:msgA q l=wrP (msgA q l):=by cases q <;> rfl
 have f:fitsP (msgA q l)=true:=by
  have:fitsP (msgA q l)=pfitsP (msgA q l):=rfl
  rw [this]
  unfold pfitsP
  rw [show (msgA q l).top=⟨#[97]⟩ from rfl,txt_a]
  cases q <;> rfl
 unfold rightP
 rw [decide_eq_true e,f]
 simp
theorem msgA_rc1 (q:Bool)(l:List UInt8):rc1 (msgA q l)=true:=by
 have e:msgA q l=onP (msgA q l):=by cases q <;> rfl
 have r0:rtxt ByteArray.empty=true:=by decide +kernel
 have r1:rtxt ⟨#[97]⟩=true:=by decide +kernel
 unfold rc1
 rw [decide_eq_true e,show (msgA q l).top=⟨#[97]⟩ from rfl,show (msgA q l).cli=ByteArray.empty from rfl,show (msgA q l).user=ByteArray.empty from rfl,show (msgA q l).wtop=ByteArray.empty from rfl,r0,r1]
 cases q <;> rfl
theorem msgA_ok (q:Bool)(l:List UInt8)(h:l.length≤1000000):PkOk (msgA q l):=by
 have i:∀x:Int,-9223372036854775808≤x→x≤9223372036854775807→i64In x:=fun _ a b=>⟨a,b⟩
 have z:i64In 0:=⟨by decide,by decide⟩
 have e0:ByteArray.empty.size≤1000000:=by decide
 have e1:(⟨#[97]⟩:ByteArray).size≤1000000:=by decide
 exact ⟨i 3 (by decide) (by decide),by cases q;exact z;exact i 1 (by decide) (by decide),by cases q;exact z;exact i 7 (by decide) (by decide),z,z,z,z,e1,h,e0,e0,Nat.zero_le _,e0,Nat.zero_le _,Nat.zero_le _,Nat.zero_le _,fun x hx=>by simp [msgA,pk0] at hx,fun x hx=>by simp [msgA,pk0] at hx⟩
def svA (A:Option Addr) (c:Nat):Sv:={sv0 with pA:=A,pC:=c}
theorem msgA_at (q:Bool)(l:List UInt8)(w:World)(B:Nat)(A:Option Addr)(c:Nat)(h:BytesAt w B (.slice A l.length c) l):PkAt w B (msgA q l) (svA A c):=⟨h,bytes_nil _ _,bytes_nil _ _,subs_nil _ _,ints_nil _ _⟩
theorem msgA_body (q:Bool)(l:List UInt8)(h:l.length≤1000000)(A:Option Addr)(c:Nat)(hn:A=none→c=0)(B:Nat):∀W,PkAt W B (msgA q l) (svA A c)→B≤W.heap.size→Calls Try.prog 39 #[pkV (msgA q l) (svA A c)] W (NewPost W (bodyL (msgA q l))) :=
 fun W hp hB=>rbody_pub (msgA q l) (svA A c) B W hp hB hn rfl rfl rfl (by cases q;exact (by decide:(0:Int)≤0);exact (by decide:(0:Int)≤1)) (show (⟨#[97]⟩:ByteArray).size≤65535 by decide) (by cases q;exact (by decide:(0:Int)≤0∧(0:Int)≤65535);exact (by decide:(0:Int)≤7∧(7:Int)≤65535)) h
theorem msgA_dright (q:Bool)(l:List UInt8)(h:l.length≤1000000)(A:Option Addr)(c:Nat)(hn:A=none→c=0)(B:Nat):∀W,PkAt W B (msgA q l) (svA A c)→B≤W.heap.size→Calls Try.prog 20 #[pkV (msgA q l) (svA A c)] W fun e w'=>e=.returned (.bool (decide (lenP (msgA q l)≤8192)))∧Below W.heap.size W w' :=
 fun W hp hB=>rright_pub (msgA q l) (svA A c) B W hp hB (msgA_ok q l h) (msgA_rc1 q l) rfl rfl rfl rfl rfl rfl rfl rfl rfl rfl (msgA_body q l h A c hn B)
theorem rright_pw (p:Pk) (s:Sv) (B:Nat) (w:World) (hp:PkAt w B p s) (hB:B≤w.heap.size) (ok:PkOk p)
  (hc1:rc1 p=true) (e1:inI p.level 0 255=true) (e2:inI p.keep 0 65535=true) (e3:p.hp=true) (e4:p.hu=true) (e5:inI p.code 0 5=true) (e6:p.pres=false) (q8:(p.kind==8)=false) (q10:(p.kind==10)=false) (q9:(p.kind==9)=false) (hs:p.subs.length=0) (hc:p.codes.length=0)
  (hbody:∀W,PkAt W B p s→B≤W.heap.size→Calls Try.prog 39 #[pkV p s] W (NewPost W (bodyL p))) :
  Calls Try.prog 20 #[pkV p s] w fun e w'=>e=.returned (.bool (decide (lenP p≤8192)))∧Below w.heap.size w w':=by
 obtain ⟨pA,pC,wA,wC,uA,uC,sA,sC,cA,cC⟩:=s
 have HP:=Lib.hid hp
 have OK:=Lib.hid ok
 have HBD:=Lib.hid hbody
 have c8:=ok.subs
 have c9:=ok.codes
 clear hbody
 go_enter Try.func20,Try.ntmps20
 go_upto_region 1 with fail
 refine rr1_main (RRT.ops ⟨by kernel_rfl,by kernel_rfl,by kernel_rfl,by kernel_rfl,by kernel_rfl,by kernel_rfl,by kernel_rfl,by kernel_rfl,by kernel_rfl,by kernel_rfl,by kernel_rfl,by kernel_rfl,by kernel_rfl,by kernel_rfl,by kernel_rfl,by kernel_rfl,by kernel_rfl,by kernel_rfl,by kernel_rfl,by kernel_rfl,by kernel_rfl,by kernel_rfl,by kernel_rfl,by kernel_rfl,by kernel_rfl,by kernel_rfl,by kernel_rfl,by kernel_rfl,by kernel_rfl,by kernel_rfl,by kernel_rfl,by kernel_rfl,by kernel_rfl,by kernel_rfl,by kernel_rfl,by kernel_rfl,by kernel_rfl,by kernel_rfl,by kernel_rfl,by kernel_rfl,by kernel_rfl,by kernel_rfl,by kernel_rfl,by kernel_rfl,by kernel_rfl,by kernel_rfl,by kernel_rfl,by kernel_rfl,by kernel_rfl,by kernel_rfl,by kernel_rfl,by kernel_rfl,by kernel_rfl,by kernel_rfl,by kernel_rfl,by kernel_rfl,by kernel_rfl,by kernel_rfl,by kernel_rfl,by kernel_rfl,by kernel_rfl,by kernel_rfl,by kernel_rfl,by kernel_rfl,by kernel_rfl,by kernel_rfl,by kernel_rfl,by kernel_rfl,by kernel_rfl,by kernel_rfl,by kernel_rfl,by kernel_rfl⟩) (by kernel_rfl) (rd_all (by kernel_rfl)) (by kernel_rfl) ⟨by kernel_rfl,by kernel_rfl,by kernel_rfl⟩ p ⟨pA,pC,wA,wC,uA,uC,sA,sC,cA,cC⟩ B w hp hB ok (fun c a a' w h1 h2=>⟨h1.trans h2.1,h2.2⟩) _ _ ⟨⟨by rfl,fun x hx=>?_⟩,by rfl⟩ ⟨heap_alloc_last _ _,alB (Below.refl _ _) _⟩ ?_
 ·simp only [List.mem_cons,List.not_mem_nil,or_false] at hx
  rcases hx with rfl | rfl | rfl <;> rfl
 clear hp ok
 intro a W F hS
 generalize z1:(!rc1 p)=b1 at F
 obtain ⟨g,hg⟩:=frame_r a p ⟨pA,pC,wA,wC,uA,uC,sA,sC,cA,cC⟩ w.heap.size _ F
 subst hg
 clear F
 have ROW:=Lib.hid hS.1
 have BW:=hS.2
 have RC:=row_cells hS.1
 clear hS
 rcases b1 with _ | _
 rotate_left 1
 ·go_wp2_with fail
  go_ret
  exact absurd (hc1.symm.trans (show rc1 p=false by simpa using z1)) (by decide)
 have HL:=Lib.hid (body_len p)
 clear z1 hc1
 go_wp2_with (go_at_call 44;refine (rin_any _ _ _ _).mono ?_;rintro e w' ⟨rfl,rfl⟩)
 go_loopw [3] (fun i wr=>i=.int .i64 0∧wr=W) (fun _ _=>0)
 case atStart=>exact ⟨rfl,rfl⟩
 case round =>
  obtain ⟨rfl,rfl⟩:=hrel
  go_wp2_with fail
  go_loopw [4] (fun i wr'=>i=.int .i64 0∧wr'=wr) (fun _ _=>0)
  case atStart=>exact ⟨rfl,rfl⟩
  case round =>
   obtain ⟨rfl,rfl⟩:=hrel
   go_wp2_with ((with_reducible show wpList _ _ _ (⟨_,.load 28 _,_,_,_,_⟩ :: _) _ _);refine ld_pk (w.heap.size) (by rfl) (by rfl) (pkC p ⟨pA,pC,wA,wC,uA,uC,sA,sC,cA,cC⟩) _ _ (by exact ROW.out) (by rfl) ?_)
   refine (HBD.out _ (HP.out.to hB BW) (Nat.le_trans hB BW.size)).mono ?_
   rintro e w2 ⟨A,c,rfl,ho,hb2⟩
   have hle:((bodyL p).length:Int)=lenP p:=HL.out
   generalize (bodyL p).length=n at *
   have HLe:=Lib.hid hle
   clear ho HL hle
   go_wp2_with fail
   go_ret
   exact ⟨ret_bool (by rw [←HLe.out]),thn BW hb2⟩
theorem rright_pres (p:Pk) (s:Sv) (B:Nat) (w:World) (hp:PkAt w B p s) (hB:B≤w.heap.size) (ok:PkOk p)
  (hc1:rc1 p=true) (e1:inI p.level 0 255=true) (e2:inI p.keep 0 65535=true) (e3:p.hp=false) (e5:inI p.code 0 5=true) (e6:p.pres=true) (e7:(p.code != 0)=false) (q8:(p.kind==8)=false) (q10:(p.kind==10)=false) (q9:(p.kind==9)=false) (hs:p.subs.length=0) (hc:p.codes.length=0)
  (hbody:∀W,PkAt W B p s→B≤W.heap.size→Calls Try.prog 39 #[pkV p s] W (NewPost W (bodyL p))) :
  Calls Try.prog 20 #[pkV p s] w fun e w'=>e=.returned (.bool (decide (lenP p≤8192)))∧Below w.heap.size w w':=by
 obtain ⟨pA,pC,wA,wC,uA,uC,sA,sC,cA,cC⟩:=s
 have HP:=Lib.hid hp
 have OK:=Lib.hid ok
 have HBD:=Lib.hid hbody
 have c8:=ok.subs
 have c9:=ok.codes
 clear hbody
 go_enter Try.func20,Try.ntmps20
 go_upto_region 1 with fail
 refine rr1_main (RRT.ops ⟨by kernel_rfl,by kernel_rfl,by kernel_rfl,by kernel_rfl,by kernel_rfl,by kernel_rfl,by kernel_rfl,by kernel_rfl,by kernel_rfl,by kernel_rfl,by kernel_rfl,by kernel_rfl,by kernel_rfl,by kernel_rfl,by kernel_rfl,by kernel_rfl,by kernel_rfl,by kernel_rfl,by kernel_rfl,by kernel_rfl,by kernel_rfl,by kernel_rfl,by kernel_rfl,by kernel_rfl,by kernel_rfl,by kernel_rfl,by kernel_rfl,by kernel_rfl,by kernel_rfl,by kernel_rfl,by kernel_rfl,by kernel_rfl,by kernel_rfl,by kernel_rfl,by kernel_rfl,by kernel_rfl,by kernel_rfl,by kernel_rfl,by kernel_rfl,by kernel_rfl,by kernel_rfl,by kernel_rfl,by kernel_rfl,by kernel_rfl,by kernel_rfl,by kernel_rfl,by kernel_rfl,by kernel_rfl,by kernel_rfl,by kernel_rfl,by kernel_rfl,by kernel_rfl,by kernel_rfl,by kernel_rfl,by kernel_rfl,by kernel_rfl,by kernel_rfl,by kernel_rfl,by kernel_rfl,by kernel_rfl,by kernel_rfl,by kernel_rfl,by kernel_rfl,by kernel_rfl,by kernel_rfl,by kernel_rfl,by kernel_rfl,by kernel_rfl,by kernel_rfl,by kernel_rfl,by kernel_rfl,by kernel_rfl⟩) (by kernel_rfl) (rd_all (by kernel_rfl)) (by kernel_rfl) ⟨by kernel_rfl,by kernel_rfl,by kernel_rfl⟩ p ⟨pA,pC,wA,wC,uA,uC,sA,sC,cA,cC⟩ B w hp hB ok (fun c a a' w h1 h2=>⟨h1.trans h2.1,h2.2⟩) _ _ ⟨⟨by rfl,fun x hx=>?_⟩,by rfl⟩ ⟨heap_alloc_last _ _,alB (Below.refl _ _) _⟩ ?_
 ·simp only [List.mem_cons,List.not_mem_nil,or_false] at hx
  rcases hx with rfl | rfl | rfl <;> rfl
 clear hp ok
 intro a W F hS
 generalize z1:(!rc1 p)=b1 at F
 obtain ⟨g,hg⟩:=frame_r a p ⟨pA,pC,wA,wC,uA,uC,sA,sC,cA,cC⟩ w.heap.size _ F
 subst hg
 clear F
 have ROW:=Lib.hid hS.1
 have BW:=hS.2
 have RC:=row_cells hS.1
 clear hS
 rcases b1 with _ | _
 rotate_left 1
 ·go_wp2_with fail
  go_ret
  exact absurd (hc1.symm.trans (show rc1 p=false by simpa using z1)) (by decide)
 have HL:=Lib.hid (body_len p)
 clear z1 hc1
 go_wp2_with (go_at_call 44;refine (rin_any _ _ _ _).mono ?_;rintro e w' ⟨rfl,rfl⟩)
 go_loopw [3] (fun i wr=>i=.int .i64 0∧wr=W) (fun _ _=>0)
 case atStart=>exact ⟨rfl,rfl⟩
 case round =>
  obtain ⟨rfl,rfl⟩:=hrel
  go_wp2_with fail
  go_loopw [4] (fun i wr'=>i=.int .i64 0∧wr'=wr) (fun _ _=>0)
  case atStart=>exact ⟨rfl,rfl⟩
  case round =>
   obtain ⟨rfl,rfl⟩:=hrel
   go_wp2_with ((with_reducible show wpList _ _ _ (⟨_,.load 28 _,_,_,_,_⟩ :: _) _ _);refine ld_pk (w.heap.size) (by rfl) (by rfl) (pkC p ⟨pA,pC,wA,wC,uA,uC,sA,sC,cA,cC⟩) _ _ (by exact ROW.out) (by rfl) ?_)
   refine (HBD.out _ (HP.out.to hB BW) (Nat.le_trans hB BW.size)).mono ?_
   rintro e w2 ⟨A,c,rfl,ho,hb2⟩
   have hle:((bodyL p).length:Int)=lenP p:=HL.out
   generalize (bodyL p).length=n at *
   have HLe:=Lib.hid hle
   clear ho HL hle
   go_wp2_with fail
   go_ret
   exact ⟨ret_bool (by rw [←HLe.out]),thn BW hb2⟩
end Go.Proofs.Ytnhpacaoobpkhaa
