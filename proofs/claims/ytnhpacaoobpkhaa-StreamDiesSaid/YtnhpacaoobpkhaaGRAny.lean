import Derived.Test.YtnhpacaoobpkhaaGRPub
import Derived.Test.YtnhpacaoobpkhaaGRNo
import Derived.Test.YtnhpacaoobpkhaaGR8
import Derived.Test.YtnhpacaoobpkhaaGCon
import Derived.Test.YtnhpacaoobpkhaaGBody
namespace Go.Proofs.Ytnhpacaoobpkhaa
open Go.RowKit Go.Lib
set_option linter.unusedVariables false
theorem rc1_on {p:Pk}(h:rc1 p=true):p=onP p∧1≤p.kind∧p.kind≤14:=by
 simp only [rc1,inI,Bool.and_eq_true,decide_eq_true_iff] at h
 exact ⟨h.2.1,h.1.1,h.1.2⟩
theorem on_hp {p:Pk}(e:p=onP p)(h:p.hp=true):p.kind=1:=by
 have t:=(congrArg Pk.hp e).symm.trans h
 clear e h
 simp only [onP,wrP] at t
 repeat' split at t
 all_goals first | (simp_all;done) | (simp [pk0] at t;done)
theorem on_pres {p:Pk}(e:p=onP p)(h:p.pres=true):p.kind=2:=by
 have t:=(congrArg Pk.pres e).symm.trans h
 clear e h
 simp only [onP,wrP] at t
 repeat' split at t
 all_goals first | (simp_all;done) | (simp [pk0] at t;done)
theorem on_subs {p:Pk}(e:p=onP p)(h8:p.kind≠8)(h10:p.kind≠10):p.subs=[]:=by
 have t:=congrArg Pk.subs e
 rw [t]
 clear e t
 simp only [onP,wrP]
 repeat' split
 all_goals first | rfl | (simp_all;done)
theorem on_codes {p:Pk}(e:p=onP p)(h9:p.kind≠9):p.codes=[]:=by
 have t:=congrArg Pk.codes e
 rw [t]
 clear e t
 simp only [onP,wrP]
 repeat' split
 all_goals first | rfl | (simp_all;done)
structure Lite (p:Pk):Prop where
 pay:p.pay.length≤1000000
 subs:p.subs.length≤65535
 subsL:∀q,(subsL q p.subs).length≤100000
 codes:p.codes.length≤65535
theorem bf_ref {p:Pk}(h1:rc1 p=true)(h2:rc2 p=true)(h3:rc3 p=true)(li:Lite p):BF p:=by
 obtain ⟨e,k0,k1⟩:=rc1_on h1
 simp only [rc1,inI,rtxt,Bool.and_eq_true,decide_eq_true_iff,Bool.or_eq_true,Bool.not_eq_true',and_true] at h1
 simp only [rc2,inI,Bool.and_eq_true,decide_eq_true_iff] at h2
 simp only [rc3,Bool.and_eq_true,List.all_eq_true] at h3
 obtain ⟨-,-,hid,hq,ht,hc,hu,hw,hwq,hwp,hpa⟩:=h1
 obtain ⟨⟨⟨⟨hl,hk⟩,-⟩,hcd⟩,-⟩:=h2
 obtain ⟨⟨⟨hs,hcs⟩,-⟩,-⟩:=h3
 have idk:0≤p.id∧p.id≤65535:=by
  rcases hid with n | n
  ·have t:=congrArg Pk.id e
   have z:(onP p).id=0:=by
    clear e t hq ht hc hu hw hwq hwp hpa hl hk hcd hs hcs
    unfold numP at n
    simp only [onP,wrP]
    repeat' split
    all_goals first | rfl | (simp_all;done)
   rw [t,z];omega
  ·omega
 refine ⟨⟨k0,k1⟩,hq,idk,hl,hk,hwq,⟨hcd.1,by omega⟩,ht.1,li.pay,hc.1,hw.1,hwp,hu.1,hpa,li.subs,fun x hx=>?_,li.subsL,li.codes,fun x hx=>?_,?_,?_,?_⟩
 ·have:=hs x hx
  simp only [rcS,rtxt,inI,Bool.and_eq_true,decide_eq_true_iff] at this
  exact ⟨this.1.1,this.2.1.1,by omega⟩
 ·have:=hcs x hx
  simp only [rcC,inI,Bool.or_eq_true,Bool.and_eq_true,decide_eq_true_iff,beq_iff_eq] at this
  omega
 ·intro q;exact ⟨on_subs e (by omega) (by omega),on_codes e (by omega)⟩
 ·intro q;exact on_codes e (by omega)
 ·intro q;exact on_subs e (by omega) (by omega)
theorem rright_all (p:Pk)(s:Sv)(B:Nat)(w:World)(hp:PkAt w B p s)(hB:B≤w.heap.size)(ok:PkOk p)(hn:s.pA=none→s.pC=0)(li:Lite p) :
  Calls Try.prog 20 #[pkV p s] w fun e w'=>e=.returned (.bool (rightP p))∧Below w.heap.size w w':=by
 rw [←refRP_eq]
 rcases c1:rc1 p with _ | _
 ·rw [show refRP p=false by rw [ref_parts,c1];rfl]
  exact rright_no1 p s B w hp hB ok c1
 obtain ⟨e,k0,k1⟩:=rc1_on c1
 have no:rc2 p=false→refRP p=false:=fun h=>by rw [ref_parts,c1,h];rfl
 rcases e1:inI p.level 0 255 with _ | _
 ·rw [no (by unfold rc2;rw [e1];rfl)]
  exact rright_no_level p s B w hp hB ok c1 e1
 rcases e2:inI p.keep 0 65535 with _ | _
 ·rw [no (by unfold rc2;rw [e1,e2];rfl)]
  exact rright_no_keep p s B w hp hB ok c1 e1 e2
 rcases e3:p.hp with _ | _
 ·rcases e5:inI p.code 0 5 with _ | _
  ·rw [no (by unfold rc2;rw [e1,e2,e3,e5];rfl)]
   exact rright_no_codeA p s B w hp hB ok c1 e1 e2 e3 e5
  rcases e6:p.pres with _ | _
  ·have c2:rc2 p=true:=by unfold rc2;rw [e1,e2,e3,e5,e6];rfl
   have hbd:rc3 p=true→∀W,PkAt W B p s→B≤W.heap.size→Calls Try.prog 39 #[pkV p s] W (NewPost W (bodyL p)):=fun c3 W h1 h2=>rbody_any p s B W h1 h2 hn (bf_ref c1 c2 c3 li)
   rcases q8:(p.kind==8) with _ | _
   rotate_left 1
   ·have q:p.kind=8:=by simpa using q8
    exact rright_8 p s B w hp hB ok c1 c2 e1 e2 e3 e5 e6 q8 (by rw [q];rfl) (by rw [q];rfl) hbd
   rcases q10:(p.kind==10) with _ | _
   rotate_left 1
   ·have q:p.kind=10:=by simpa using q10
    exact rright_10 p s B w hp hB ok c1 c2 e1 e2 e3 e5 e6 q8 q10 (by rw [q];rfl) hbd
   rcases q9:(p.kind==9) with _ | _
   rotate_left 1
   ·exact rright_9 p s B w hp hB ok c1 c2 e1 e2 e3 e5 e6 q8 q10 q9 hbd
   have hs:=on_subs e (by simpa using q8) (by simpa using q10)
   have hc:=on_codes e (by simpa using q9)
   have c3:rc3 p=true:=by unfold rc3;rw [q8,q10,q9,hs,hc];rfl
   rw [show refRP p=decide (lenP p≤8192) by rw [ref_parts,c1,c2,c3];simp]
   exact rright_pub p s B w hp hB ok c1 e1 e2 e3 e5 e6 q8 q10 q9 (by rw [hs];rfl) (by rw [hc];rfl) (hbd c3)
  ·have k2:=on_pres e e6
   rcases e7:(p.code != 0) with _ | _
   ·have e7':(p.code==0)=true:=by simpa using e7
    have c2:rc2 p=true:=by unfold rc2;rw [e1,e2,e3,e5,e6,e7'];rfl
    have q8:(p.kind==8)=false:=by rw [k2];rfl
    have q10:(p.kind==10)=false:=by rw [k2];rfl
    have q9:(p.kind==9)=false:=by rw [k2];rfl
    have hs:=on_subs e (by omega) (by omega)
    have hc:=on_codes e (by omega)
    have c3:rc3 p=true:=by unfold rc3;rw [q8,q10,q9,hs,hc];rfl
    rw [show refRP p=decide (lenP p≤8192) by rw [ref_parts,c1,c2,c3];simp]
    exact rright_pres p s B w hp hB ok c1 e1 e2 e3 e5 e6 e7 q8 q10 q9 (by rw [hs];rfl) (by rw [hc];rfl) (fun W h1 h2=>rbody_any p s B W h1 h2 hn (bf_ref c1 c2 c3 li))
   ·have e7':(p.code==0)=false:=by simpa using e7
    rw [no (by unfold rc2;rw [e1,e2,e3,e5,e6,e7'];rfl)]
    exact rright_no_presA p s B w hp hB ok c1 e1 e2 e3 e5 e6 e7
 ·have k2:=on_hp e e3
  rcases e4:p.hu with _ | _
  ·rw [no (by unfold rc2;rw [e1,e2,e3,e4];rfl)]
   exact rright_no_pass p s B w hp hB ok c1 e1 e2 e3 e4
  rcases e5:inI p.code 0 5 with _ | _
  ·rw [no (by unfold rc2;rw [e1,e2,e3,e4,e5];rfl)]
   exact rright_no_codeB p s B w hp hB ok c1 e1 e2 e3 e4 e5
  rcases e6:p.pres with _ | _
  ·have c2:rc2 p=true:=by unfold rc2;rw [e1,e2,e3,e4,e5,e6];rfl
   have q8:(p.kind==8)=false:=by rw [k2];rfl
   have q10:(p.kind==10)=false:=by rw [k2];rfl
   have q9:(p.kind==9)=false:=by rw [k2];rfl
   have hs:=on_subs e (by omega) (by omega)
   have hc:=on_codes e (by omega)
   have c3:rc3 p=true:=by unfold rc3;rw [q8,q10,q9,hs,hc];rfl
   rw [show refRP p=decide (lenP p≤8192) by rw [ref_parts,c1,c2,c3];simp]
   exact rright_pw p s B w hp hB ok c1 e1 e2 e3 e4 e5 e6 q8 q10 q9 (by rw [hs];rfl) (by rw [hc];rfl) (fun W h1 h2=>rbody_any p s B W h1 h2 hn (bf_ref c1 c2 c3 li))
  ·have:=on_pres e e6
   omega
theorem dput_all_no (p:Pk)(s:Sv)(B:Nat)(w:World)(hp:PkAt w B p s)(hB:B≤w.heap.size)(ok:PkOk p)(hn:s.pA=none→s.pC=0)(li:Lite p)(hr:rightP p=false) :
  Calls Try.prog 18 #[pkV p s] w fun e w'=>e=.returned (.tuple #[.slice none 0 0,.int .i64 26])∧Below w.heap.size w w' :=
 dput_no p s B w hp hB (fun W h1 h2=>by have h:=rright_all p s B W h1 h2 ok hn li;rw [hr] at h;exact h)
theorem dput_all_yes (p:Pk)(s:Sv)(B:Nat)(w:World)(hp:PkAt w B p s)(hB:B≤w.heap.size)(ok:PkOk p)(hn:s.pA=none→s.pC=0)(li:Lite p)(hr:rightP p=true) :
  Calls Try.prog 18 #[pkV p s] w (PutPost w (encP p)):=by
 have f:=right_f p hr
 exact dput_yes p s B w hp hB f.kind.1 f.kind.2 f.qos.1 f.qos.2 f.len.2 (body_len p) (fun W h1 h2=>by have h:=rright_all p s B W h1 h2 ok hn li;rw [hr] at h;exact h) (fun W h1 h2=>rbody_any p s B W h1 h2 hn (bf_right p hr))
def conA (cli:ByteArray) (keep:Int) (clean will user pass ret:Bool) (q:Int) (x:List UInt8):Pk :=
 { pk0 with kind:=1,level:=4,cli:=cli,clean:=clean,keep:=keep,hw:=will,hu:=user,hp:=pass,wtop:=if will then ⟨#[119]⟩ else ByteArray.empty,wpay:=if will then x else [],wqos:=if will then q else 0,wret:=if will then ret else false,user:=if user then cli else ByteArray.empty,pass:=if pass then x else []}
def svCon (A:Option Addr) (c:Nat) (will pass:Bool):Sv:={sv0 with wA:=if will then A else none,wC:=if will then c else 0,uA:=if pass then A else none,uC:=if pass then c else 0}
end Go.Proofs.Ytnhpacaoobpkhaa
