import Derived.Test.YtnhpacaoobpkhaaGFits
import Derived.Deep.RegionHeld3
namespace Go.Proofs.Ytnhpacaoobpkhaa
open Go.RowKit Go.Lib
set_option maxRecDepth 100000
set_option maxHeartbeats 4000000
def fitsP (p:Pk):Bool :=
 if p.kind==1 then cfitsP p
 else if p.kind==2 then inI p.code 0 5 && (p.code==0 || !p.pres)
 else if p.kind==3 then pfitsP p
 else if p.kind==4 || p.kind==5 || p.kind==6 || p.kind==7 || p.kind==11 then inI p.id 1 65535
 else if p.kind==8 then inI p.id 1 65535 && (sfitsP 2 p.subs && decide (0<p.subs.length))
 else if p.kind==10 then inI p.id 1 65535 && (sfitsP 0 p.subs && decide (0<p.subs.length))
 else if p.kind==9 then inI p.id 1 65535 && (cdfitsP p.codes && decide (0<p.codes.length))
 else p.kind==12 || p.kind==13 || p.kind==14
theorem fits_any (p:Pk)(s:Sv)(B:Nat)(w:World)(hp:PkAt w B p s)(hB:B≤w.heap.size)(ok:PkOk p) :
  Calls Try.prog 43 #[pkV p s] w fun e w'=>e=.returned (.bool (fitsP p))∧Below w.heap.size w w':=by
 obtain ⟨a1,a2,a3,hS,hC⟩:=hp
 obtain ⟨b1,b2,b3,b4,b5,b6,b7,c1,c2,c3,c4,c5,c6,c7,c8,c9,c10,c11⟩:=ok
 have HS:=Lib.hid hS
 have HC:=Lib.hid hC
 have HT:=Lib.hid c10
 clear a1 a2 a3 b1 b2 b3 b4 b5 b6 b7 hS hC c10 c11
 rcases kf p.kind with ⟨k1,k2,k3,k4,k5,k6,k7,k8,k9,k10,k11,k12,k13,k14⟩ | ⟨k1,k2,k3,k4,k5,k6,k7,k8,k9,k10,k11,k12,k13,k14⟩ | ⟨k1,k2,k3,k4,k5,k6,k7,k8,k9,k10,k11,k12,k13,k14⟩ | ⟨k1,k2,k3,k4,k5,k6,k7,k8,k9,k10,k11,k12,k13,k14⟩ | ⟨k1,k2,k3,k4,k5,k6,k7,k8,k9,k10,k11,k12,k13,k14⟩ | ⟨k1,k2,k3,k4,k5,k6,k7,k8,k9,k10,k11,k12,k13,k14⟩ | ⟨k1,k2,k3,k4,k5,k6,k7,k8,k9,k10,k11,k12,k13,k14⟩ | ⟨k1,k2,k3,k4,k5,k6,k7,k8,k9,k10,k11,k12,k13,k14⟩ | ⟨k1,k2,k3,k4,k5,k6,k7,k8,k9,k10,k11,k12,k13,k14⟩ | ⟨k1,k2,k3,k4,k5,k6,k7,k8,k9,k10,k11,k12,k13,k14⟩ | ⟨k1,k2,k3,k4,k5,k6,k7,k8,k9,k10,k11,k12,k13,k14⟩ | ⟨k1,k2,k3,k4,k5,k6,k7,k8,k9,k10,k11,k12,k13,k14⟩ | ⟨k1,k2,k3,k4,k5,k6,k7,k8,k9,k10,k11,k12,k13,k14⟩ | ⟨k1,k2,k3,k4,k5,k6,k7,k8,k9,k10,k11,k12,k13,k14⟩ | ⟨k1,k2,k3,k4,k5,k6,k7,k8,k9,k10,k11,k12,k13,k14⟩
 all_goals
  go_enter Try.func43,Try.ntmps43
  go_wp2_with (first
   | ((with_reducible show wpList _ _ _ (⟨_,.load 28 _,_,_,_,_⟩ :: _) _ _);refine ld_pk (w.heap.size) (by rfl) (by rfl) _ _ _ (by (first | assumption | exact heap_alloc_last _ _ | (repeat (first | assumption | exact heap_alloc_last _ _ | exact heap_last2 _ _ _ | refine heap_keep ?_ | refine heap_below (by assumption) ?_)))) (by rfl) ?_)
   | (go_at_call 75;refine (within_any _ _ _ _).mono ?_;rintro e w' ⟨rfl,rfl⟩)
   | (go_at_call 77;refine (isId_any _ _).mono ?_;rintro e w' ⟨rfl,rfl⟩)
   | (go_at_call 74;refine (cfits_any p s _ c3 c6 c4).mono ?_;rintro e w' ⟨rfl,hb⟩;obtain ⟨hc,hf⟩:=bcell hb;have hz:w.heap.size<w'.heap.size:=(by have:=hb.size;(try simp at this);omega))
   | (go_at_call 76;refine (pfits_any p s _ c1).mono ?_;rintro e w' ⟨rfl,hb⟩;obtain ⟨hc,hf⟩:=bcell hb;have hz:w.heap.size<w'.heap.size:=(by have:=hb.size;(try simp at this);omega))
   | (go_at_call 78;refine (sfits_any _ _ _ p.subs _ B _ (HS.out.to hB (by (repeat (first | assumption | exact Below.refl _ _ | exact (Below.refl _ _).alloc (Nat.le_refl _) _ | (refine thn ?_ (by assumption)) | (refine alB ?_ _) | (refine dwN ?_ _) | (refine Below.drew ?_))))) rfl (by simp;omega) c8 (fun x hx=>(HT.out x hx).1)).mono ?_;rintro e w' ⟨rfl,hb⟩;obtain ⟨hc,hf⟩:=bcell hb;have hz:w.heap.size<w'.heap.size:=(by have:=hb.size;(try simp at this);omega))
   | (go_at_call 79;refine (cdfits_any _ _ _ p.codes B _ (HC.out.to hB (by (repeat (first | assumption | exact Below.refl _ _ | exact (Below.refl _ _).alloc (Nat.le_refl _) _ | (refine thn ?_ (by assumption)) | (refine alB ?_ _) | (refine dwN ?_ _) | (refine Below.drew ?_))))) rfl c9).mono ?_;rintro e w' ⟨rfl,rfl⟩))
  all_goals (go_ret;exact ⟨ret_bool (by (try simp only [Bool.not_eq_true'] at *);(try simp only [Bool.not_eq_false'] at *);(try simp only [bne_eq_false_iff_eq] at *);(try simp only [bne_iff_ne] at *);unfold fitsP;simp [*];try rfl),by (repeat (first | assumption | exact Below.refl _ _ | exact (Below.refl _ _).alloc (Nat.le_refl _) _ | (refine thn ?_ (by assumption)) | (refine alB ?_ _) | (refine dwN ?_ _) | (refine Below.drew ?_)))⟩)
def clenP (p:Pk):Int:=12+p.cli.size+(if p.hw then 4+p.wtop.size+p.wpay.length else 0)+(if p.hu then 2+p.user.size else 0)+(if p.hp then 2+p.pass.length else 0)
def slenP (l:List (ByteArray×Int)):Int:=(l.map fun x=>2+(x.1.size:Int)).sum
theorem clen_any (p:Pk)(s:Sv)(w:World)(c3:p.cli.size≤1000000)(c4:p.wtop.size≤1000000)(c5:p.wpay.length≤1000000)(c6:p.user.size≤1000000)(c7:p.pass.length≤1000000) :
  Calls Try.prog 72 #[pkV p s] w fun e w'=>e=.returned (.int .i64 (clenP p))∧Below w.heap.size w w':=by
 rcases e1:p.hw with _ | _ <;> rcases e2:p.hu with _ | _ <;> rcases e3:p.hp with _ | _
 all_goals
  have E1:=Lib.hid e1
  have E2:=Lib.hid e2
  have E3:=Lib.hid e3
  go_enter Try.func72,Try.ntmps72
  go_wp2
  go_ret
  exact ⟨ret_int (by unfold clenP;rw [E1.out,E2.out,E3.out];simp;try omega),by (repeat (first | assumption | exact Below.refl _ _ | exact (Below.refl _ _).alloc (Nat.le_refl _) _ | (refine thn ?_ (by assumption)) | (refine alB ?_ _) | (refine dwN ?_ _) | (refine Below.drew ?_)))⟩
theorem slen_take (l:List (ByteArray×Int))(k:Nat)(h:k<l.length):slenP (l.take (k+1))=slenP (l.take k)+(2+(l[k].1.size:Int)):=by
 unfold slenP;rw [List.take_succ_eq_append_getElem h,List.map_append,List.sum_append];simp
theorem slen_bound (l:List (ByteArray×Int))(h:∀x ∈ l,x.1.size≤1000000):0≤slenP l∧slenP l≤1000002*l.length:=by
 unfold slenP
 induction l with
 | nil=>simp
 | cons x l ih =>
  have h1:=h x (by simp)
  have h2:=ih (fun y hy=>h y (by simp [hy]))
  simp only [List.map_cons,List.sum_cons,List.length_cons]
  omega
theorem slen_any (A:Option Addr)(c n:Nat)(l:List (ByteArray×Int))(B:Nat)(w:World)(hv:SubsAt w B (.slice A n c) l)(hn:n=l.length)(hB:B≤w.heap.size)(hl:l.length≤1000000)(ht:∀x ∈ l,x.1.size≤1000000) :
  Calls Try.prog 73 #[.slice A n c] w fun e w'=>e=.returned (.int .i64 (slenP l))∧Below w.heap.size w w':=by
 subst hn
 have HT:=Lib.hid ht
 clear ht
 go_enter Try.func73,Try.ntmps73
 go_wp2
 go_loopw [3,8] (fun m i w'=>∃k:Nat,k≤l.length∧i=.int .i64 k∧m=.int .i64 (slenP (l.take k))∧Below w.heap.size w w') (fun _ i _=>l.length - (intOf i).toNat)
 case atStart=>exact ⟨0,Nat.zero_le _,rfl,rfl,Below.refl _ _⟩
 case round =>
  obtain ⟨k,hk,rfl,rfl,hb⟩:=hrel
  obtain ⟨b1,b2⟩:=slen_bound (l.take k) (fun x hx=>HT.out x (List.mem_of_mem_take hx))
  have b3:(l.take k).length≤1000000:=by rw [List.length_take];omega
  by_cases hlt:k<l.length
  ·obtain ⟨ad,rfl,hkc,c1,c2⟩:=(hv.to hB hb).at_ k hlt
   have hts:=HT.out l[k] (List.getElem_mem hlt)
   have hst:=Lib.hid (slen_take l k hlt)
   generalize l[k].1=x1 at *
   generalize l[k].2=x2 at *
   generalize slenP (l.take k)=sk at *
   generalize (l.take k).length=lk at *
   clear hv
   go_wp2
   go_roundw
   case rel=>exact ⟨k+1,hlt,by go_num,by rw [hst.out],by (repeat (first | assumption | exact Below.refl _ _ | exact (Below.refl _ _).alloc (Nat.le_refl _) _ | (refine thn ?_ (by assumption)) | (refine alB ?_ _) | (refine dwN ?_ _) | (refine Below.drew ?_)))⟩
   case measure=>simp [intOf];omega
  ·go_wp2
   go_ret
   exact ⟨ret_int (by rw [List.take_of_length_le (by omega)]),by (repeat (first | assumption | exact Below.refl _ _ | exact (Below.refl _ _).alloc (Nat.le_refl _) _ | (refine thn ?_ (by assumption)) | (refine alB ?_ _) | (refine dwN ?_ _) | (refine Below.drew ?_)))⟩
def lenP (p:Pk):Int :=
 if p.kind==1 then clenP p
 else if p.kind==2 then 2
 else if p.kind==3 then 2+p.top.size+p.pay.length+(if p.qos==0 then 0 else 2)
 else if p.kind==4 || p.kind==5 || p.kind==6 || p.kind==7 || p.kind==11 then 2
 else if p.kind==8 then 2+slenP p.subs+p.subs.length
 else if p.kind==10 then 2+slenP p.subs
 else if p.kind==9 then 2+p.codes.length
 else 0
theorem len_any (p:Pk)(s:Sv)(B:Nat)(w:World)(hp:PkAt w B p s)(hB:B≤w.heap.size)(ok:PkOk p) :
  Calls Try.prog 42 #[pkV p s] w fun e w'=>e=.returned (.int .i64 (lenP p))∧Below w.heap.size w w':=by
 obtain ⟨a1,a2,a3,hS,hC⟩:=hp
 obtain ⟨b1,b2,b3,b4,b5,b6,b7,c1,c2,c3,c4,c5,c6,c7,c8,c9,c10,c11⟩:=ok
 have HS:=Lib.hid hS
 obtain ⟨d1,d2⟩:=slen_bound p.subs (fun x hx=>(c10 x hx).1)
 have HT:=Lib.hid c10
 clear a1 a2 a3 b1 b2 b3 b4 b5 b6 b7 hS hC c10 c11
 rcases kf p.kind with ⟨k1,k2,k3,k4,k5,k6,k7,k8,k9,k10,k11,k12,k13,k14⟩ | ⟨k1,k2,k3,k4,k5,k6,k7,k8,k9,k10,k11,k12,k13,k14⟩ | ⟨k1,k2,k3,k4,k5,k6,k7,k8,k9,k10,k11,k12,k13,k14⟩ | ⟨k1,k2,k3,k4,k5,k6,k7,k8,k9,k10,k11,k12,k13,k14⟩ | ⟨k1,k2,k3,k4,k5,k6,k7,k8,k9,k10,k11,k12,k13,k14⟩ | ⟨k1,k2,k3,k4,k5,k6,k7,k8,k9,k10,k11,k12,k13,k14⟩ | ⟨k1,k2,k3,k4,k5,k6,k7,k8,k9,k10,k11,k12,k13,k14⟩ | ⟨k1,k2,k3,k4,k5,k6,k7,k8,k9,k10,k11,k12,k13,k14⟩ | ⟨k1,k2,k3,k4,k5,k6,k7,k8,k9,k10,k11,k12,k13,k14⟩ | ⟨k1,k2,k3,k4,k5,k6,k7,k8,k9,k10,k11,k12,k13,k14⟩ | ⟨k1,k2,k3,k4,k5,k6,k7,k8,k9,k10,k11,k12,k13,k14⟩ | ⟨k1,k2,k3,k4,k5,k6,k7,k8,k9,k10,k11,k12,k13,k14⟩ | ⟨k1,k2,k3,k4,k5,k6,k7,k8,k9,k10,k11,k12,k13,k14⟩ | ⟨k1,k2,k3,k4,k5,k6,k7,k8,k9,k10,k11,k12,k13,k14⟩ | ⟨k1,k2,k3,k4,k5,k6,k7,k8,k9,k10,k11,k12,k13,k14⟩
 all_goals
  go_enter Try.func42,Try.ntmps42
  go_wp2_with (first
   | ((with_reducible show wpList _ _ _ (⟨_,.load 28 _,_,_,_,_⟩ :: _) _ _);refine ld_pk (w.heap.size) (by rfl) (by rfl) _ _ _ (by (first | assumption | exact heap_alloc_last _ _ | (repeat (first | assumption | exact heap_alloc_last _ _ | exact heap_last2 _ _ _ | refine heap_keep ?_ | refine heap_below (by assumption) ?_)))) (by rfl) ?_)
   | (go_at_call 72;refine (clen_any p s _ c3 c4 c5 c6 c7).mono ?_;rintro e w' ⟨rfl,hb⟩;obtain ⟨hc,hf⟩:=bcell hb;have hz:w.heap.size<w'.heap.size:=(by have:=hb.size;(try simp at this);omega))
   | (go_at_call 73;refine (slen_any _ _ _ p.subs B _ (HS.out.to hB (by (repeat (first | assumption | exact Below.refl _ _ | exact (Below.refl _ _).alloc (Nat.le_refl _) _ | (refine thn ?_ (by assumption)) | (refine alB ?_ _) | (refine dwN ?_ _) | (refine Below.drew ?_))))) rfl (by simp;omega) c8 (fun x hx=>(HT.out x hx).1)).mono ?_;rintro e w' ⟨rfl,hb⟩;obtain ⟨hc,hf⟩:=bcell hb;have hz:w.heap.size<w'.heap.size:=(by have:=hb.size;(try simp at this);omega)))
  all_goals first
   | (go_ret;exact ⟨ret_int (by (try simp only [Bool.not_eq_true'] at *);(try simp only [Bool.not_eq_false'] at *);(try simp only [bne_eq_false_iff_eq] at *);(try simp only [bne_iff_ne] at *);unfold lenP;simp [*]),by (repeat (first | assumption | exact Below.refl _ _ | exact (Below.refl _ _).alloc (Nat.le_refl _) _ | (refine thn ?_ (by assumption)) | (refine alB ?_ _) | (refine dwN ?_ _) | (refine Below.drew ?_)))⟩)
   | skip
 go_region_held3 (fun w'=>w'.cell? ⟨w.heap.size,22,none⟩=some (.slice s.sA p.subs.length s.sC)) (go_keep) (first | (go_at_call 73;refine (slen_any _ _ _ p.subs B _ (HS.out.to hB (by (repeat (first | assumption | exact Below.refl _ _ | exact (Below.refl _ _).alloc (Nat.le_refl _) _ | (refine thn ?_ (by assumption)) | (refine alB ?_ _) | (refine dwN ?_ _) | (refine Below.drew ?_))))) rfl (by simp;omega) c8 (fun x hx=>(HT.out x hx).1)).mono ?_;rintro e w' ⟨rfl,hb⟩;obtain ⟨hc,hf⟩:=bcell hb;have hz:w.heap.size<w'.heap.size:=(by have:=hb.size;(try simp at this);omega)))
 go_wp2
 go_ret
 have e1:IntKind.i64.wrap (2+slenP p.subs)=2+slenP p.subs:=IntWalk.i64_in _ (by omega)
 have e2:IntKind.i64.wrap (2+slenP p.subs+(p.subs.length:Int))=2+slenP p.subs+(p.subs.length:Int):=IntWalk.i64_in _ (by omega)
 exact ⟨ret_int (by rw [e1,e2];unfold lenP;simp [*]),by (repeat (first | assumption | exact Below.refl _ _ | exact (Below.refl _ _).alloc (Nat.le_refl _) _ | (refine thn ?_ (by assumption)) | (refine alB ?_ _) | (refine dwN ?_ _) | (refine Below.drew ?_)))⟩
end Go.Proofs.Ytnhpacaoobpkhaa
