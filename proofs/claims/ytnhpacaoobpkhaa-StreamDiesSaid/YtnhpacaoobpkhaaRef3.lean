import Derived.Test.YtnhpacaoobpkhaaAdd3
import Derived.Test.YtnhpacaoobpkhaaGStep
import Derived.Test.YtnhpacaoobpkhaaGSame
namespace Go.Proofs.Ytnhpacaoobpkhaa
open Go.RowKit Go.Lib
set_option maxRecDepth 100000
set_option maxHeartbeats 4000000
theorem rin_any (n a b:Int)(w:World) :
  Calls Try.prog 44 #[.int .i64 n,.int .i64 a,.int .i64 b] w fun e w'=>e=.returned (.bool (inI n a b))∧w=w':=by
 go_enter Try.func44,Try.ntmps44
 go_wp2
 all_goals (go_ret;exact ⟨ret_bool (by unfold inI;simp;try omega),rfl⟩)
theorem rbit_any (b:Bool)(f:Int)(w:World) :
  Calls Try.prog 38 #[.bool b,.int .i64 f] w fun e w'=>e=.returned (.int .i64 (flagI b f))∧w=w':=by
 go_enter Try.func38,Try.ntmps38
 cases b <;> (go_wp2;go_ret;exact ⟨rfl,rfl⟩)
def rtxt (s:ByteArray):Bool:=decide (s.size≤65535) && txt s
theorem rtext_any (s:ByteArray)(w:World)(hs:s.size≤1000000) :
  Calls Try.prog 47 #[.string s] w fun e w'=>e=.returned (.bool (rtxt s))∧Below w.heap.size w w':=by
 obtain ⟨C,W,hcv,hB,hb⟩:=conv_str s w hs
 by_cases h:s.size≤65535
 ·go_enter Try.func47,Try.ntmps47
  go_wp2_with (go_at_call 80;refine (rcheck_any _ _ _ _ hB (by rw [size_list];omega)).mono ?_;rintro e w' ⟨rfl,rfl⟩)
  all_goals (go_ret;exact ⟨ret_bool (by unfold rtxt txt;simp [h];try omega),by (repeat (first | assumption | exact Below.refl _ _ | exact (Below.refl _ _).alloc (Nat.le_refl _) _ | (refine thn ?_ (by assumption)) | (refine alB ?_ _) | (refine dwN ?_ _) | (refine Below.drew ?_)))⟩)
 ·go_enter Try.func47,Try.ntmps47
  go_wp2_with fail
  go_ret
  exact ⟨ret_bool (by unfold rtxt;simp [h]),Below.refl _ _⟩
theorem rsameWill_any (p q:Pk)(s t:Sv)(B:Nat)(w:World)(hp:PkAt w B p s)(hq:PkAt w B q t)(hB:B≤w.heap.size) :
  Calls Try.prog 52 #[wlV p s,wlV q t] w fun e w'=>e=.returned (.bool (sameWillP p q))∧Below w.heap.size w w':=by
 have H1:=Lib.hid hp.wpay
 have H2:=Lib.hid hq.wpay
 clear hp hq
 have E:Hid (((⟨p.wpay.toArray⟩:ByteArray).toList==(⟨q.wpay.toArray⟩:ByteArray).toList)=(p.wpay==q.wpay)):=Lib.hid (by rw [ByteArray.toList_eq,ByteArray.toList_eq])
 have c1:∀W,Below w.heap.size w W→(convert 22 9 (.slice s.wA p.wpay.length s.wC)).run Try.prog W=.ok (.string ⟨p.wpay.toArray⟩) W:=fun W hW=>(H1.out.to hB hW).conv
 have c2:∀W,Below w.heap.size w W→(convert 22 9 (.slice t.wA q.wpay.length t.wC)).run Try.prog W=.ok (.string ⟨q.wpay.toArray⟩) W:=fun W hW=>(H2.out.to hB hW).conv
 have d1:=c1 _ (((Below.refl _ _).alloc (Nat.le_refl _) (.cells #[.string p.wtop,.slice s.wA p.wpay.length s.wC,.int .i64 p.wqos,.bool p.wret] 24)).alloc (by simp) (.cells #[.string q.wtop,.slice t.wA q.wpay.length t.wC,.int .i64 q.wqos,.bool q.wret] 24))
 have d2:=c2 _ (((Below.refl _ _).alloc (Nat.le_refl _) (.cells #[.string p.wtop,.slice s.wA p.wpay.length s.wC,.int .i64 p.wqos,.bool p.wret] 24)).alloc (by simp) (.cells #[.string q.wtop,.slice t.wA q.wpay.length t.wC,.int .i64 q.wqos,.bool q.wret] 24))
 clear c1 c2
 go_enter Try.func52,Try.ntmps52
 go_wp2
 all_goals (go_ret;exact ⟨ret_bool (by unfold sameWillP eqS;rw [←E.out];simp [*]),by (repeat (first | assumption | exact Below.refl _ _ | exact (Below.refl _ _).alloc (Nat.le_refl _) _ | (refine thn ?_ (by assumption)) | (refine alB ?_ _) | (refine dwN ?_ _) | (refine Below.drew ?_)))⟩)
theorem two_any (base:Nat)(A:Option Addr)(c n:Nat)(l:List UInt8)(x:Int)(w:World)(hown:w.ownsRow base 5 1 (.slice A n c) n (Lib.byteCells l))(hn:n=l.length)(hl:l.length≤10000000)(hb:base≤w.heap.size)(h0:0≤x)(h1:x≤65535) :
  Calls Try.prog 69 #[.slice A n c,.int .i64 x] w (AppPost base (.slice A n c) w (l++pairL x)):=by
 subst hn
 have e:(l++pairL x).length=l.length+2:=by simp [pairL]
 have E:=Lib.hid e
 clear e
 go_enter Try.func69,Try.ntmps69
 go_wp2_with (at_builtin;go_must (refine ap_bytes base A c l.length l (w.heap.size+1) (some ⟨w.heap.size,0,none⟩) 2 2 (pairL x) (by rfl) (by rfl) (hown.alloc _) (bytesAt_new w (pairL x) _ (0,0) (by simp only [pairL,List.map_cons,List.map_nil];rw [u8c (by omega) (by omega),u8c (by omega) (by omega)]) (by rw [pairL_len];decide)) (by simp) (by omega) (by simp;omega) ?_))
 intro A' c' w' h2 ha
 go_wp2_with fail
 go_ret
 unfold AppPost
 rw [E.out]
 exact ⟨A',c',rfl,h2,ha.pre ((Below.refl _ _).alloc (Nat.le_refl _) _)⟩
theorem rlump_any (base:Nat)(A:Option Addr)(c n:Nat)(l:List UInt8)(s:ByteArray)(w:World)(hown:w.ownsRow base 5 1 (.slice A n c) n (Lib.byteCells l))(hn:n=l.length)(hl:l.length≤10000000)(hb:base≤w.heap.size)(h1:s.size≤65535) :
  Calls Try.prog 68 #[.slice A n c,.string s] w (AppPost base (.slice A n c) w (l++(pairL s.size++s.data.toList))):=by
 subst hn
 have hp:=two_any base A c l.length l s.size w hown rfl hl hb (by omega) (by omega)
 go_enter Try.func68,Try.ntmps68
 go_wp2_with fail
 refine hp.mono ?_
 rintro e w1 ⟨A1,c1,rfl,ho,ha⟩
 have e1:(l++pairL (s.size:Int)).length=l.length+2:=by simp [pairL]
 rw [e1] at ho ha ⊢
 have e2:(l++(pairL (s.size:Int)++s.data.toList)).length=l.length+2+s.size:=by simp [pairL];omega
 have E2:=Lib.hid e2
 clear e1 e2 hp
 have hb1:base≤w1.heap.size:=Nat.le_trans hb ha.grew.size
 go_wp2_with (at_builtin;go_must (refine ap_str base A1 c1 (l.length+2) (l++pairL (s.size:Int)) s (by rfl) (by rfl) ho (by omega) (by omega) hb1 ?_))
 intro A' c' w' h2 h3
 go_wp2_with fail
 go_ret
 unfold AppPost
 rw [E2.out]
 exact ⟨A',c',rfl,by rw [←List.append_assoc];exact h2,ha.trans h3⟩
def numP (p:Pk):Bool:=if p.kind==3 then decide (0<p.qos) else p.kind==4 || p.kind==5 || p.kind==6 || p.kind==7 || p.kind==8 || p.kind==9 || p.kind==10 || p.kind==11
theorem num_any (p:Pk)(s:Sv)(w:World) :
  Calls Try.prog 46 #[pkV p s] w fun e w'=>e=.returned (.bool (numP p))∧Below w.heap.size w w':=by
 rcases kf p.kind with ⟨k1,k2,k3,k4,k5,k6,k7,k8,k9,k10,k11,k12,k13,k14⟩ | ⟨k1,k2,k3,k4,k5,k6,k7,k8,k9,k10,k11,k12,k13,k14⟩ | ⟨k1,k2,k3,k4,k5,k6,k7,k8,k9,k10,k11,k12,k13,k14⟩ | ⟨k1,k2,k3,k4,k5,k6,k7,k8,k9,k10,k11,k12,k13,k14⟩ | ⟨k1,k2,k3,k4,k5,k6,k7,k8,k9,k10,k11,k12,k13,k14⟩ | ⟨k1,k2,k3,k4,k5,k6,k7,k8,k9,k10,k11,k12,k13,k14⟩ | ⟨k1,k2,k3,k4,k5,k6,k7,k8,k9,k10,k11,k12,k13,k14⟩ | ⟨k1,k2,k3,k4,k5,k6,k7,k8,k9,k10,k11,k12,k13,k14⟩ | ⟨k1,k2,k3,k4,k5,k6,k7,k8,k9,k10,k11,k12,k13,k14⟩ | ⟨k1,k2,k3,k4,k5,k6,k7,k8,k9,k10,k11,k12,k13,k14⟩ | ⟨k1,k2,k3,k4,k5,k6,k7,k8,k9,k10,k11,k12,k13,k14⟩ | ⟨k1,k2,k3,k4,k5,k6,k7,k8,k9,k10,k11,k12,k13,k14⟩ | ⟨k1,k2,k3,k4,k5,k6,k7,k8,k9,k10,k11,k12,k13,k14⟩ | ⟨k1,k2,k3,k4,k5,k6,k7,k8,k9,k10,k11,k12,k13,k14⟩ | ⟨k1,k2,k3,k4,k5,k6,k7,k8,k9,k10,k11,k12,k13,k14⟩
 all_goals
  go_enter Try.func46,Try.ntmps46
  go_wp2
  go_ret
  exact ⟨ret_bool (by unfold numP;simp [*]),by (repeat (first | assumption | exact Below.refl _ _ | exact (Below.refl _ _).alloc (Nat.le_refl _) _ | (refine thn ?_ (by assumption)) | (refine alB ?_ _) | (refine dwN ?_ _) | (refine Below.drew ?_)))⟩
end Go.Proofs.Ytnhpacaoobpkhaa
