import Derived.Test.YtnhpacaoobpkhaaGRR
namespace Go.Proofs.Ytnhpacaoobpkhaa
open Go.RowKit Go.Lib
set_option linter.unusedVariables false
set_option maxRecDepth 100000
set_option maxHeartbeats 8000000
theorem rright_no1 (p:Pk) (s:Sv) (B:Nat) (w:World) (hp:PkAt w B p s) (hB:B≤w.heap.size) (ok:PkOk p)
  (hc1:rc1 p=false) :
  Calls Try.prog 20 #[pkV p s] w fun e w'=>e=.returned (.bool false)∧Below w.heap.size w w':=by
 obtain ⟨pA,pC,wA,wC,uA,uC,sA,sC,cA,cC⟩:=s
 have HP:=Lib.hid hp
 have OK:=Lib.hid ok
 have c8:=ok.subs
 have c9:=ok.codes
 go_enter Try.func20,Try.ntmps20
 go_upto_region 1 with fail
 refine rr1_main (RRT.ops ⟨by kernel_rfl,by kernel_rfl,by kernel_rfl,by kernel_rfl,by kernel_rfl,by kernel_rfl,by kernel_rfl,by kernel_rfl,by kernel_rfl,by kernel_rfl,by kernel_rfl,by kernel_rfl,by kernel_rfl,by kernel_rfl,by kernel_rfl,by kernel_rfl,by kernel_rfl,by kernel_rfl,by kernel_rfl,by kernel_rfl,by kernel_rfl,by kernel_rfl,by kernel_rfl,by kernel_rfl,by kernel_rfl,by kernel_rfl,by kernel_rfl,by kernel_rfl,by kernel_rfl,by kernel_rfl,by kernel_rfl,by kernel_rfl,by kernel_rfl,by kernel_rfl,by kernel_rfl,by kernel_rfl,by kernel_rfl,by kernel_rfl,by kernel_rfl,by kernel_rfl,by kernel_rfl,by kernel_rfl,by kernel_rfl,by kernel_rfl,by kernel_rfl,by kernel_rfl,by kernel_rfl,by kernel_rfl,by kernel_rfl,by kernel_rfl,by kernel_rfl,by kernel_rfl,by kernel_rfl,by kernel_rfl,by kernel_rfl,by kernel_rfl,by kernel_rfl,by kernel_rfl,by kernel_rfl,by kernel_rfl,by kernel_rfl,by kernel_rfl,by kernel_rfl,by kernel_rfl,by kernel_rfl,by kernel_rfl,by kernel_rfl,by kernel_rfl,by kernel_rfl,by kernel_rfl,by kernel_rfl,by kernel_rfl⟩) (by kernel_rfl) (rd_all (by kernel_rfl)) (by kernel_rfl) ⟨by kernel_rfl,by kernel_rfl,by kernel_rfl⟩ p ⟨pA,pC,wA,wC,uA,uC,sA,sC,cA,cC⟩ B w hp hB ok (fun c a a' w h1 h2=>⟨h1.trans h2.1,h2.2⟩) _ _ ⟨⟨by rfl,fun x hx=>?_⟩,by rfl⟩ ⟨heap_alloc_last _ _,alB (Below.refl _ _) _⟩ ?_
 ·simp only [List.mem_cons,List.not_mem_nil,or_false] at hx
  rcases hx with rfl | rfl | rfl <;> rfl
 clear hp ok
 intro a W F hS
 generalize z1:(!rc1 p)=b1 at F
 obtain ⟨g,hg⟩:=frame_r a p ⟨pA,pC,wA,wC,uA,uC,sA,sC,cA,cC⟩ w.heap.size _ F
 subst hg
 clear F
 have ROW:=Lib.hid hS.1
 have BW:=hS.2
 have RC:=row_cells hS.1
 clear hS
 rcases b1 with _ | _
 ·exact absurd (hc1.symm.trans (show rc1 p=true by simpa using z1)) (by decide)
 go_wp2_with fail
 go_ret
 exact ⟨rfl,BW⟩
theorem rright_no_level (p:Pk) (s:Sv) (B:Nat) (w:World) (hp:PkAt w B p s) (hB:B≤w.heap.size) (ok:PkOk p)
  (hc1:rc1 p=true) (e1:inI p.level 0 255=false) :
  Calls Try.prog 20 #[pkV p s] w fun e w'=>e=.returned (.bool false)∧Below w.heap.size w w':=by
 obtain ⟨pA,pC,wA,wC,uA,uC,sA,sC,cA,cC⟩:=s
 have HP:=Lib.hid hp
 have OK:=Lib.hid ok
 have c8:=ok.subs
 have c9:=ok.codes
 go_enter Try.func20,Try.ntmps20
 go_upto_region 1 with fail
 refine rr1_main (RRT.ops ⟨by kernel_rfl,by kernel_rfl,by kernel_rfl,by kernel_rfl,by kernel_rfl,by kernel_rfl,by kernel_rfl,by kernel_rfl,by kernel_rfl,by kernel_rfl,by kernel_rfl,by kernel_rfl,by kernel_rfl,by kernel_rfl,by kernel_rfl,by kernel_rfl,by kernel_rfl,by kernel_rfl,by kernel_rfl,by kernel_rfl,by kernel_rfl,by kernel_rfl,by kernel_rfl,by kernel_rfl,by kernel_rfl,by kernel_rfl,by kernel_rfl,by kernel_rfl,by kernel_rfl,by kernel_rfl,by kernel_rfl,by kernel_rfl,by kernel_rfl,by kernel_rfl,by kernel_rfl,by kernel_rfl,by kernel_rfl,by kernel_rfl,by kernel_rfl,by kernel_rfl,by kernel_rfl,by kernel_rfl,by kernel_rfl,by kernel_rfl,by kernel_rfl,by kernel_rfl,by kernel_rfl,by kernel_rfl,by kernel_rfl,by kernel_rfl,by kernel_rfl,by kernel_rfl,by kernel_rfl,by kernel_rfl,by kernel_rfl,by kernel_rfl,by kernel_rfl,by kernel_rfl,by kernel_rfl,by kernel_rfl,by kernel_rfl,by kernel_rfl,by kernel_rfl,by kernel_rfl,by kernel_rfl,by kernel_rfl,by kernel_rfl,by kernel_rfl,by kernel_rfl,by kernel_rfl,by kernel_rfl,by kernel_rfl⟩) (by kernel_rfl) (rd_all (by kernel_rfl)) (by kernel_rfl) ⟨by kernel_rfl,by kernel_rfl,by kernel_rfl⟩ p ⟨pA,pC,wA,wC,uA,uC,sA,sC,cA,cC⟩ B w hp hB ok (fun c a a' w h1 h2=>⟨h1.trans h2.1,h2.2⟩) _ _ ⟨⟨by rfl,fun x hx=>?_⟩,by rfl⟩ ⟨heap_alloc_last _ _,alB (Below.refl _ _) _⟩ ?_
 ·simp only [List.mem_cons,List.not_mem_nil,or_false] at hx
  rcases hx with rfl | rfl | rfl <;> rfl
 clear hp ok
 intro a W F hS
 generalize z1:(!rc1 p)=b1 at F
 obtain ⟨g,hg⟩:=frame_r a p ⟨pA,pC,wA,wC,uA,uC,sA,sC,cA,cC⟩ w.heap.size _ F
 subst hg
 clear F
 have ROW:=Lib.hid hS.1
 have BW:=hS.2
 have RC:=row_cells hS.1
 clear hS
 rcases b1 with _ | _
 rotate_left 1
 ·exact absurd (hc1.symm.trans (show rc1 p=false by simpa using z1)) (by decide)
 clear z1 hc1
 go_wp2_with (go_at_call 44;refine (rin_any _ _ _ _).mono ?_;rintro e w' ⟨rfl,rfl⟩)
 go_ret
 exact ⟨rfl,BW⟩
theorem rright_no_keep (p:Pk) (s:Sv) (B:Nat) (w:World) (hp:PkAt w B p s) (hB:B≤w.heap.size) (ok:PkOk p)
  (hc1:rc1 p=true) (e1:inI p.level 0 255=true) (e2:inI p.keep 0 65535=false) :
  Calls Try.prog 20 #[pkV p s] w fun e w'=>e=.returned (.bool false)∧Below w.heap.size w w':=by
 obtain ⟨pA,pC,wA,wC,uA,uC,sA,sC,cA,cC⟩:=s
 have HP:=Lib.hid hp
 have OK:=Lib.hid ok
 have c8:=ok.subs
 have c9:=ok.codes
 go_enter Try.func20,Try.ntmps20
 go_upto_region 1 with fail
 refine rr1_main (RRT.ops ⟨by kernel_rfl,by kernel_rfl,by kernel_rfl,by kernel_rfl,by kernel_rfl,by kernel_rfl,by kernel_rfl,by kernel_rfl,by kernel_rfl,by kernel_rfl,by kernel_rfl,by kernel_rfl,by kernel_rfl,by kernel_rfl,by kernel_rfl,by kernel_rfl,by kernel_rfl,by kernel_rfl,by kernel_rfl,by kernel_rfl,by kernel_rfl,by kernel_rfl,by kernel_rfl,by kernel_rfl,by kernel_rfl,by kernel_rfl,by kernel_rfl,by kernel_rfl,by kernel_rfl,by kernel_rfl,by kernel_rfl,by kernel_rfl,by kernel_rfl,by kernel_rfl,by kernel_rfl,by kernel_rfl,by kernel_rfl,by kernel_rfl,by kernel_rfl,by kernel_rfl,by kernel_rfl,by kernel_rfl,by kernel_rfl,by kernel_rfl,by kernel_rfl,by kernel_rfl,by kernel_rfl,by kernel_rfl,by kernel_rfl,by kernel_rfl,by kernel_rfl,by kernel_rfl,by kernel_rfl,by kernel_rfl,by kernel_rfl,by kernel_rfl,by kernel_rfl,by kernel_rfl,by kernel_rfl,by kernel_rfl,by kernel_rfl,by kernel_rfl,by kernel_rfl,by kernel_rfl,by kernel_rfl,by kernel_rfl,by kernel_rfl,by kernel_rfl,by kernel_rfl,by kernel_rfl,by kernel_rfl,by kernel_rfl⟩) (by kernel_rfl) (rd_all (by kernel_rfl)) (by kernel_rfl) ⟨by kernel_rfl,by kernel_rfl,by kernel_rfl⟩ p ⟨pA,pC,wA,wC,uA,uC,sA,sC,cA,cC⟩ B w hp hB ok (fun c a a' w h1 h2=>⟨h1.trans h2.1,h2.2⟩) _ _ ⟨⟨by rfl,fun x hx=>?_⟩,by rfl⟩ ⟨heap_alloc_last _ _,alB (Below.refl _ _) _⟩ ?_
 ·simp only [List.mem_cons,List.not_mem_nil,or_false] at hx
  rcases hx with rfl | rfl | rfl <;> rfl
 clear hp ok
 intro a W F hS
 generalize z1:(!rc1 p)=b1 at F
 obtain ⟨g,hg⟩:=frame_r a p ⟨pA,pC,wA,wC,uA,uC,sA,sC,cA,cC⟩ w.heap.size _ F
 subst hg
 clear F
 have ROW:=Lib.hid hS.1
 have BW:=hS.2
 have RC:=row_cells hS.1
 clear hS
 rcases b1 with _ | _
 rotate_left 1
 ·exact absurd (hc1.symm.trans (show rc1 p=false by simpa using z1)) (by decide)
 clear z1 hc1
 go_wp2_with (go_at_call 44;refine (rin_any _ _ _ _).mono ?_;rintro e w' ⟨rfl,rfl⟩)
 go_ret
 exact ⟨rfl,BW⟩
theorem rright_no_pass (p:Pk) (s:Sv) (B:Nat) (w:World) (hp:PkAt w B p s) (hB:B≤w.heap.size) (ok:PkOk p)
  (hc1:rc1 p=true) (e1:inI p.level 0 255=true) (e2:inI p.keep 0 65535=true) (e3:p.hp=true) (e4:p.hu=false) :
  Calls Try.prog 20 #[pkV p s] w fun e w'=>e=.returned (.bool false)∧Below w.heap.size w w':=by
 obtain ⟨pA,pC,wA,wC,uA,uC,sA,sC,cA,cC⟩:=s
 have HP:=Lib.hid hp
 have OK:=Lib.hid ok
 have c8:=ok.subs
 have c9:=ok.codes
 go_enter Try.func20,Try.ntmps20
 go_upto_region 1 with fail
 refine rr1_main (RRT.ops ⟨by kernel_rfl,by kernel_rfl,by kernel_rfl,by kernel_rfl,by kernel_rfl,by kernel_rfl,by kernel_rfl,by kernel_rfl,by kernel_rfl,by kernel_rfl,by kernel_rfl,by kernel_rfl,by kernel_rfl,by kernel_rfl,by kernel_rfl,by kernel_rfl,by kernel_rfl,by kernel_rfl,by kernel_rfl,by kernel_rfl,by kernel_rfl,by kernel_rfl,by kernel_rfl,by kernel_rfl,by kernel_rfl,by kernel_rfl,by kernel_rfl,by kernel_rfl,by kernel_rfl,by kernel_rfl,by kernel_rfl,by kernel_rfl,by kernel_rfl,by kernel_rfl,by kernel_rfl,by kernel_rfl,by kernel_rfl,by kernel_rfl,by kernel_rfl,by kernel_rfl,by kernel_rfl,by kernel_rfl,by kernel_rfl,by kernel_rfl,by kernel_rfl,by kernel_rfl,by kernel_rfl,by kernel_rfl,by kernel_rfl,by kernel_rfl,by kernel_rfl,by kernel_rfl,by kernel_rfl,by kernel_rfl,by kernel_rfl,by kernel_rfl,by kernel_rfl,by kernel_rfl,by kernel_rfl,by kernel_rfl,by kernel_rfl,by kernel_rfl,by kernel_rfl,by kernel_rfl,by kernel_rfl,by kernel_rfl,by kernel_rfl,by kernel_rfl,by kernel_rfl,by kernel_rfl,by kernel_rfl,by kernel_rfl⟩) (by kernel_rfl) (rd_all (by kernel_rfl)) (by kernel_rfl) ⟨by kernel_rfl,by kernel_rfl,by kernel_rfl⟩ p ⟨pA,pC,wA,wC,uA,uC,sA,sC,cA,cC⟩ B w hp hB ok (fun c a a' w h1 h2=>⟨h1.trans h2.1,h2.2⟩) _ _ ⟨⟨by rfl,fun x hx=>?_⟩,by rfl⟩ ⟨heap_alloc_last _ _,alB (Below.refl _ _) _⟩ ?_
 ·simp only [List.mem_cons,List.not_mem_nil,or_false] at hx
  rcases hx with rfl | rfl | rfl <;> rfl
 clear hp ok
 intro a W F hS
 generalize z1:(!rc1 p)=b1 at F
 obtain ⟨g,hg⟩:=frame_r a p ⟨pA,pC,wA,wC,uA,uC,sA,sC,cA,cC⟩ w.heap.size _ F
 subst hg
 clear F
 have ROW:=Lib.hid hS.1
 have BW:=hS.2
 have RC:=row_cells hS.1
 clear hS
 rcases b1 with _ | _
 rotate_left 1
 ·exact absurd (hc1.symm.trans (show rc1 p=false by simpa using z1)) (by decide)
 clear z1 hc1
 go_wp2_with (go_at_call 44;refine (rin_any _ _ _ _).mono ?_;rintro e w' ⟨rfl,rfl⟩)
 go_ret
 exact ⟨rfl,BW⟩
theorem rright_no_codeA (p:Pk) (s:Sv) (B:Nat) (w:World) (hp:PkAt w B p s) (hB:B≤w.heap.size) (ok:PkOk p)
  (hc1:rc1 p=true) (e1:inI p.level 0 255=true) (e2:inI p.keep 0 65535=true) (e3:p.hp=false) (e5:inI p.code 0 5=false) :
  Calls Try.prog 20 #[pkV p s] w fun e w'=>e=.returned (.bool false)∧Below w.heap.size w w':=by
 obtain ⟨pA,pC,wA,wC,uA,uC,sA,sC,cA,cC⟩:=s
 have HP:=Lib.hid hp
 have OK:=Lib.hid ok
 have c8:=ok.subs
 have c9:=ok.codes
 go_enter Try.func20,Try.ntmps20
 go_upto_region 1 with fail
 refine rr1_main (RRT.ops ⟨by kernel_rfl,by kernel_rfl,by kernel_rfl,by kernel_rfl,by kernel_rfl,by kernel_rfl,by kernel_rfl,by kernel_rfl,by kernel_rfl,by kernel_rfl,by kernel_rfl,by kernel_rfl,by kernel_rfl,by kernel_rfl,by kernel_rfl,by kernel_rfl,by kernel_rfl,by kernel_rfl,by kernel_rfl,by kernel_rfl,by kernel_rfl,by kernel_rfl,by kernel_rfl,by kernel_rfl,by kernel_rfl,by kernel_rfl,by kernel_rfl,by kernel_rfl,by kernel_rfl,by kernel_rfl,by kernel_rfl,by kernel_rfl,by kernel_rfl,by kernel_rfl,by kernel_rfl,by kernel_rfl,by kernel_rfl,by kernel_rfl,by kernel_rfl,by kernel_rfl,by kernel_rfl,by kernel_rfl,by kernel_rfl,by kernel_rfl,by kernel_rfl,by kernel_rfl,by kernel_rfl,by kernel_rfl,by kernel_rfl,by kernel_rfl,by kernel_rfl,by kernel_rfl,by kernel_rfl,by kernel_rfl,by kernel_rfl,by kernel_rfl,by kernel_rfl,by kernel_rfl,by kernel_rfl,by kernel_rfl,by kernel_rfl,by kernel_rfl,by kernel_rfl,by kernel_rfl,by kernel_rfl,by kernel_rfl,by kernel_rfl,by kernel_rfl,by kernel_rfl,by kernel_rfl,by kernel_rfl,by kernel_rfl⟩) (by kernel_rfl) (rd_all (by kernel_rfl)) (by kernel_rfl) ⟨by kernel_rfl,by kernel_rfl,by kernel_rfl⟩ p ⟨pA,pC,wA,wC,uA,uC,sA,sC,cA,cC⟩ B w hp hB ok (fun c a a' w h1 h2=>⟨h1.trans h2.1,h2.2⟩) _ _ ⟨⟨by rfl,fun x hx=>?_⟩,by rfl⟩ ⟨heap_alloc_last _ _,alB (Below.refl _ _) _⟩ ?_
 ·simp only [List.mem_cons,List.not_mem_nil,or_false] at hx
  rcases hx with rfl | rfl | rfl <;> rfl
 clear hp ok
 intro a W F hS
 generalize z1:(!rc1 p)=b1 at F
 obtain ⟨g,hg⟩:=frame_r a p ⟨pA,pC,wA,wC,uA,uC,sA,sC,cA,cC⟩ w.heap.size _ F
 subst hg
 clear F
 have ROW:=Lib.hid hS.1
 have BW:=hS.2
 have RC:=row_cells hS.1
 clear hS
 rcases b1 with _ | _
 rotate_left 1
 ·exact absurd (hc1.symm.trans (show rc1 p=false by simpa using z1)) (by decide)
 clear z1 hc1
 go_wp2_with (go_at_call 44;refine (rin_any _ _ _ _).mono ?_;rintro e w' ⟨rfl,rfl⟩)
 go_ret
 exact ⟨rfl,BW⟩
theorem rright_no_codeB (p:Pk) (s:Sv) (B:Nat) (w:World) (hp:PkAt w B p s) (hB:B≤w.heap.size) (ok:PkOk p)
  (hc1:rc1 p=true) (e1:inI p.level 0 255=true) (e2:inI p.keep 0 65535=true) (e3:p.hp=true) (e4:p.hu=true) (e5:inI p.code 0 5=false) :
  Calls Try.prog 20 #[pkV p s] w fun e w'=>e=.returned (.bool false)∧Below w.heap.size w w':=by
 obtain ⟨pA,pC,wA,wC,uA,uC,sA,sC,cA,cC⟩:=s
 have HP:=Lib.hid hp
 have OK:=Lib.hid ok
 have c8:=ok.subs
 have c9:=ok.codes
 go_enter Try.func20,Try.ntmps20
 go_upto_region 1 with fail
 refine rr1_main (RRT.ops ⟨by kernel_rfl,by kernel_rfl,by kernel_rfl,by kernel_rfl,by kernel_rfl,by kernel_rfl,by kernel_rfl,by kernel_rfl,by kernel_rfl,by kernel_rfl,by kernel_rfl,by kernel_rfl,by kernel_rfl,by kernel_rfl,by kernel_rfl,by kernel_rfl,by kernel_rfl,by kernel_rfl,by kernel_rfl,by kernel_rfl,by kernel_rfl,by kernel_rfl,by kernel_rfl,by kernel_rfl,by kernel_rfl,by kernel_rfl,by kernel_rfl,by kernel_rfl,by kernel_rfl,by kernel_rfl,by kernel_rfl,by kernel_rfl,by kernel_rfl,by kernel_rfl,by kernel_rfl,by kernel_rfl,by kernel_rfl,by kernel_rfl,by kernel_rfl,by kernel_rfl,by kernel_rfl,by kernel_rfl,by kernel_rfl,by kernel_rfl,by kernel_rfl,by kernel_rfl,by kernel_rfl,by kernel_rfl,by kernel_rfl,by kernel_rfl,by kernel_rfl,by kernel_rfl,by kernel_rfl,by kernel_rfl,by kernel_rfl,by kernel_rfl,by kernel_rfl,by kernel_rfl,by kernel_rfl,by kernel_rfl,by kernel_rfl,by kernel_rfl,by kernel_rfl,by kernel_rfl,by kernel_rfl,by kernel_rfl,by kernel_rfl,by kernel_rfl,by kernel_rfl,by kernel_rfl,by kernel_rfl,by kernel_rfl⟩) (by kernel_rfl) (rd_all (by kernel_rfl)) (by kernel_rfl) ⟨by kernel_rfl,by kernel_rfl,by kernel_rfl⟩ p ⟨pA,pC,wA,wC,uA,uC,sA,sC,cA,cC⟩ B w hp hB ok (fun c a a' w h1 h2=>⟨h1.trans h2.1,h2.2⟩) _ _ ⟨⟨by rfl,fun x hx=>?_⟩,by rfl⟩ ⟨heap_alloc_last _ _,alB (Below.refl _ _) _⟩ ?_
 ·simp only [List.mem_cons,List.not_mem_nil,or_false] at hx
  rcases hx with rfl | rfl | rfl <;> rfl
 clear hp ok
 intro a W F hS
 generalize z1:(!rc1 p)=b1 at F
 obtain ⟨g,hg⟩:=frame_r a p ⟨pA,pC,wA,wC,uA,uC,sA,sC,cA,cC⟩ w.heap.size _ F
 subst hg
 clear F
 have ROW:=Lib.hid hS.1
 have BW:=hS.2
 have RC:=row_cells hS.1
 clear hS
 rcases b1 with _ | _
 rotate_left 1
 ·exact absurd (hc1.symm.trans (show rc1 p=false by simpa using z1)) (by decide)
 clear z1 hc1
 go_wp2_with (go_at_call 44;refine (rin_any _ _ _ _).mono ?_;rintro e w' ⟨rfl,rfl⟩)
 go_ret
 exact ⟨rfl,BW⟩
theorem rright_no_presA (p:Pk) (s:Sv) (B:Nat) (w:World) (hp:PkAt w B p s) (hB:B≤w.heap.size) (ok:PkOk p)
  (hc1:rc1 p=true) (e1:inI p.level 0 255=true) (e2:inI p.keep 0 65535=true) (e3:p.hp=false) (e5:inI p.code 0 5=true) (e6:p.pres=true) (e7:(p.code != 0)=true) :
  Calls Try.prog 20 #[pkV p s] w fun e w'=>e=.returned (.bool false)∧Below w.heap.size w w':=by
 obtain ⟨pA,pC,wA,wC,uA,uC,sA,sC,cA,cC⟩:=s
 have HP:=Lib.hid hp
 have OK:=Lib.hid ok
 have c8:=ok.subs
 have c9:=ok.codes
 go_enter Try.func20,Try.ntmps20
 go_upto_region 1 with fail
 refine rr1_main (RRT.ops ⟨by kernel_rfl,by kernel_rfl,by kernel_rfl,by kernel_rfl,by kernel_rfl,by kernel_rfl,by kernel_rfl,by kernel_rfl,by kernel_rfl,by kernel_rfl,by kernel_rfl,by kernel_rfl,by kernel_rfl,by kernel_rfl,by kernel_rfl,by kernel_rfl,by kernel_rfl,by kernel_rfl,by kernel_rfl,by kernel_rfl,by kernel_rfl,by kernel_rfl,by kernel_rfl,by kernel_rfl,by kernel_rfl,by kernel_rfl,by kernel_rfl,by kernel_rfl,by kernel_rfl,by kernel_rfl,by kernel_rfl,by kernel_rfl,by kernel_rfl,by kernel_rfl,by kernel_rfl,by kernel_rfl,by kernel_rfl,by kernel_rfl,by kernel_rfl,by kernel_rfl,by kernel_rfl,by kernel_rfl,by kernel_rfl,by kernel_rfl,by kernel_rfl,by kernel_rfl,by kernel_rfl,by kernel_rfl,by kernel_rfl,by kernel_rfl,by kernel_rfl,by kernel_rfl,by kernel_rfl,by kernel_rfl,by kernel_rfl,by kernel_rfl,by kernel_rfl,by kernel_rfl,by kernel_rfl,by kernel_rfl,by kernel_rfl,by kernel_rfl,by kernel_rfl,by kernel_rfl,by kernel_rfl,by kernel_rfl,by kernel_rfl,by kernel_rfl,by kernel_rfl,by kernel_rfl,by kernel_rfl,by kernel_rfl⟩) (by kernel_rfl) (rd_all (by kernel_rfl)) (by kernel_rfl) ⟨by kernel_rfl,by kernel_rfl,by kernel_rfl⟩ p ⟨pA,pC,wA,wC,uA,uC,sA,sC,cA,cC⟩ B w hp hB ok (fun c a a' w h1 h2=>⟨h1.trans h2.1,h2.2⟩) _ _ ⟨⟨by rfl,fun x hx=>?_⟩,by rfl⟩ ⟨heap_alloc_last _ _,alB (Below.refl _ _) _⟩ ?_
 ·simp only [List.mem_cons,List.not_mem_nil,or_false] at hx
  rcases hx with rfl | rfl | rfl <;> rfl
 clear hp ok
 intro a W F hS
 generalize z1:(!rc1 p)=b1 at F
 obtain ⟨g,hg⟩:=frame_r a p ⟨pA,pC,wA,wC,uA,uC,sA,sC,cA,cC⟩ w.heap.size _ F
 subst hg
 clear F
 have ROW:=Lib.hid hS.1
 have BW:=hS.2
 have RC:=row_cells hS.1
 clear hS
 rcases b1 with _ | _
 rotate_left 1
 ·exact absurd (hc1.symm.trans (show rc1 p=false by simpa using z1)) (by decide)
 clear z1 hc1
 go_wp2_with (go_at_call 44;refine (rin_any _ _ _ _).mono ?_;rintro e w' ⟨rfl,rfl⟩)
 go_ret
 exact ⟨rfl,BW⟩
end Go.Proofs.Ytnhpacaoobpkhaa
