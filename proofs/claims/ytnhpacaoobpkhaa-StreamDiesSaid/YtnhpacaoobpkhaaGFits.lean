import Derived.Test.YtnhpacaoobpkhaaGPkt
import Derived.Maps.AppendAt
import Derived.Laws.AppendOwnNone
import Derived.Lib.AppendStr
import Derived.Deep.RegionHeld3
namespace Go.Proofs.Ytnhpacaoobpkhaa
open Go.RowKit Go.Lib
set_option maxRecDepth 100000
set_option maxHeartbeats 4000000
theorem kf (k:Int):((k==1)=true∧(k==2)=false∧(k==3)=false∧(k==4)=false∧(k==5)=false∧(k==6)=false∧(k==7)=false∧(k==8)=false∧(k==9)=false∧(k==10)=false∧(k==11)=false∧(k==12)=false∧(k==13)=false∧(k==14)=false)∨((k==1)=false∧(k==2)=true∧(k==3)=false∧(k==4)=false∧(k==5)=false∧(k==6)=false∧(k==7)=false∧(k==8)=false∧(k==9)=false∧(k==10)=false∧(k==11)=false∧(k==12)=false∧(k==13)=false∧(k==14)=false)∨((k==1)=false∧(k==2)=false∧(k==3)=true∧(k==4)=false∧(k==5)=false∧(k==6)=false∧(k==7)=false∧(k==8)=false∧(k==9)=false∧(k==10)=false∧(k==11)=false∧(k==12)=false∧(k==13)=false∧(k==14)=false)∨((k==1)=false∧(k==2)=false∧(k==3)=false∧(k==4)=true∧(k==5)=false∧(k==6)=false∧(k==7)=false∧(k==8)=false∧(k==9)=false∧(k==10)=false∧(k==11)=false∧(k==12)=false∧(k==13)=false∧(k==14)=false)∨((k==1)=false∧(k==2)=false∧(k==3)=false∧(k==4)=false∧(k==5)=true∧(k==6)=false∧(k==7)=false∧(k==8)=false∧(k==9)=false∧(k==10)=false∧(k==11)=false∧(k==12)=false∧(k==13)=false∧(k==14)=false)∨((k==1)=false∧(k==2)=false∧(k==3)=false∧(k==4)=false∧(k==5)=false∧(k==6)=true∧(k==7)=false∧(k==8)=false∧(k==9)=false∧(k==10)=false∧(k==11)=false∧(k==12)=false∧(k==13)=false∧(k==14)=false)∨((k==1)=false∧(k==2)=false∧(k==3)=false∧(k==4)=false∧(k==5)=false∧(k==6)=false∧(k==7)=true∧(k==8)=false∧(k==9)=false∧(k==10)=false∧(k==11)=false∧(k==12)=false∧(k==13)=false∧(k==14)=false)∨((k==1)=false∧(k==2)=false∧(k==3)=false∧(k==4)=false∧(k==5)=false∧(k==6)=false∧(k==7)=false∧(k==8)=true∧(k==9)=false∧(k==10)=false∧(k==11)=false∧(k==12)=false∧(k==13)=false∧(k==14)=false)∨((k==1)=false∧(k==2)=false∧(k==3)=false∧(k==4)=false∧(k==5)=false∧(k==6)=false∧(k==7)=false∧(k==8)=false∧(k==9)=true∧(k==10)=false∧(k==11)=false∧(k==12)=false∧(k==13)=false∧(k==14)=false)∨((k==1)=false∧(k==2)=false∧(k==3)=false∧(k==4)=false∧(k==5)=false∧(k==6)=false∧(k==7)=false∧(k==8)=false∧(k==9)=false∧(k==10)=true∧(k==11)=false∧(k==12)=false∧(k==13)=false∧(k==14)=false)∨((k==1)=false∧(k==2)=false∧(k==3)=false∧(k==4)=false∧(k==5)=false∧(k==6)=false∧(k==7)=false∧(k==8)=false∧(k==9)=false∧(k==10)=false∧(k==11)=true∧(k==12)=false∧(k==13)=false∧(k==14)=false)∨((k==1)=false∧(k==2)=false∧(k==3)=false∧(k==4)=false∧(k==5)=false∧(k==6)=false∧(k==7)=false∧(k==8)=false∧(k==9)=false∧(k==10)=false∧(k==11)=false∧(k==12)=true∧(k==13)=false∧(k==14)=false)∨((k==1)=false∧(k==2)=false∧(k==3)=false∧(k==4)=false∧(k==5)=false∧(k==6)=false∧(k==7)=false∧(k==8)=false∧(k==9)=false∧(k==10)=false∧(k==11)=false∧(k==12)=false∧(k==13)=true∧(k==14)=false)∨((k==1)=false∧(k==2)=false∧(k==3)=false∧(k==4)=false∧(k==5)=false∧(k==6)=false∧(k==7)=false∧(k==8)=false∧(k==9)=false∧(k==10)=false∧(k==11)=false∧(k==12)=false∧(k==13)=false∧(k==14)=true)∨((k==1)=false∧(k==2)=false∧(k==3)=false∧(k==4)=false∧(k==5)=false∧(k==6)=false∧(k==7)=false∧(k==8)=false∧(k==9)=false∧(k==10)=false∧(k==11)=false∧(k==12)=false∧(k==13)=false∧(k==14)=false):=by
 by_cases h1:1≤k∧k≤14
 ·have:k=1∨k=2∨k=3∨k=4∨k=5∨k=6∨k=7∨k=8∨k=9∨k=10∨k=11∨k=12∨k=13∨k=14:=by omega
  rcases this with rfl | rfl | rfl | rfl | rfl | rfl | rfl | rfl | rfl | rfl | rfl | rfl | rfl | rfl <;> simp
 ·have e:∀i:Int,1≤i→i≤14→(k==i)=false:=fun i a b=>beq_eq_false_iff_ne.2 (by omega)
  iterate 14 apply Or.inr
  refine ⟨?_,?_,?_,?_,?_,?_,?_,?_,?_,?_,?_,?_,?_,?_⟩ <;> exact e _ (by omega) (by omega)
def cfitsP (p:Pk):Bool:=inI p.level 0 255 && inI p.keep 0 65535 && txt p.cli && txt p.user && txt p.wtop && inI p.wqos 0 2 && (p.hu || !p.hp)
def pfitsP (p:Pk):Bool:=txt p.top && inI p.qos 0 2 && (if p.qos==0 then !p.dup else inI p.id 1 65535)
def sfitsP (m:Int) (l:List (ByteArray×Int)):Bool:=l.all fun x=>txt x.1 && inI x.2 0 m
def cdfitsP (l:List Int):Bool:=l.all fun c=>inI c 0 2 || c==128
theorem cfits_any (p:Pk)(s:Sv)(w:World)(h1:p.cli.size≤1000000)(h2:p.user.size≤1000000)(h3:p.wtop.size≤1000000) :
  Calls Try.prog 74 #[pkV p s] w fun e w'=>e=.returned (.bool (cfitsP p))∧Below w.heap.size w w':=by
 go_enter Try.func74,Try.ntmps74
 go_wp2_with (first
  | (go_at_call 75;refine (within_any _ _ _ _).mono ?_;rintro e w' ⟨rfl,rfl⟩)
  | (go_at_call 98;refine (isQos_any _ _).mono ?_;rintro e w' ⟨rfl,rfl⟩)
  | (go_at_call 97;refine (isText_any _ _ (by assumption)).mono ?_;rintro e w' ⟨rfl,hb⟩;obtain ⟨hc,hf⟩:=bcell hb;have hz:w.heap.size<w'.heap.size:=(by have:=hb.size;(try simp at this);omega)))
 all_goals (go_ret;exact ⟨ret_bool (by unfold cfitsP;simp [*]),by (repeat (first | assumption | exact Below.refl _ _ | exact (Below.refl _ _).alloc (Nat.le_refl _) _ | (refine thn ?_ (by assumption)) | (refine alB ?_ _) | (refine dwN ?_ _) | (refine Below.drew ?_)))⟩)
theorem pfits_any (p:Pk)(s:Sv)(w:World)(h1:p.top.size≤1000000) :
  Calls Try.prog 76 #[pkV p s] w fun e w'=>e=.returned (.bool (pfitsP p))∧Below w.heap.size w w':=by
 go_enter Try.func76,Try.ntmps76
 go_wp2_with (first
  | (go_at_call 77;refine (isId_any _ _).mono ?_;rintro e w' ⟨rfl,rfl⟩)
  | (go_at_call 98;refine (isQos_any _ _).mono ?_;rintro e w' ⟨rfl,rfl⟩)
  | (go_at_call 97;refine (isText_any _ _ (by assumption)).mono ?_;rintro e w' ⟨rfl,hb⟩;obtain ⟨hc,hf⟩:=bcell hb;have hz:w.heap.size<w'.heap.size:=(by have:=hb.size;(try simp at this);omega)))
 all_goals
  go_ret
  exact ⟨ret_bool (by (try simp only [Bool.not_eq_true'] at *);(try simp only [Bool.not_eq_false'] at *);(try simp only [bne_eq_false_iff_eq] at *);(try simp only [bne_iff_ne] at *);unfold pfitsP;simp [*]),by (repeat (first | assumption | exact Below.refl _ _ | exact (Below.refl _ _).alloc (Nat.le_refl _) _ | (refine thn ?_ (by assumption)) | (refine alB ?_ _) | (refine dwN ?_ _) | (refine Below.drew ?_)))⟩
theorem all_take {α:Type}(f:α→Bool)(l:List α)(k:Nat)(h:k<l.length):(l.take (k+1)).all f=((l.take k).all f && f l[k]):=by
 rw [List.take_succ_eq_append_getElem h,List.all_append];simp
theorem all_false {α:Type}(f:α→Bool)(l:List α)(k:Nat)(h:k<l.length)(hf:f l[k]=false):l.all f=false:=by
 rw [List.all_eq_false];exact ⟨l[k],List.getElem_mem h,by simp [hf]⟩
theorem sfits_step (m:Int)(l:List (ByteArray×Int))(k:Nat)(h:k<l.length)(ha:sfitsP m (l.take k)=true):sfitsP m (l.take (k+1))=(txt l[k].1 && inI l[k].2 0 m):=by
 unfold sfitsP at *;rw [all_take _ _ _ h,ha];rfl
theorem sfits_false (m:Int)(l:List (ByteArray×Int))(k:Nat)(h:k<l.length)(hf:(txt l[k].1 && inI l[k].2 0 m)=false):sfitsP m l=false:=all_false _ l k h hf
theorem cdfits_step (l:List Int)(k:Nat)(h:k<l.length)(ha:cdfitsP (l.take k)=true):cdfitsP (l.take (k+1))=(inI l[k] 0 2 || l[k]==128):=by
 unfold cdfitsP at *;rw [all_take _ _ _ h,ha];rfl
theorem cdfits_false (l:List Int)(k:Nat)(h:k<l.length)(hf:(inI l[k] 0 2 || l[k]==128)=false):cdfitsP l=false:=all_false _ l k h hf
theorem sfits_any (A:Option Addr)(c n:Nat)(l:List (ByteArray×Int))(m:Int)(B:Nat)(w:World)(hv:SubsAt w B (.slice A n c) l)(hn:n=l.length)(hB:B≤w.heap.size)(hl:l.length≤1000000)(ht:∀x ∈ l,x.1.size≤1000000) :
  Calls Try.prog 78 #[.slice A n c,.int .i64 m] w fun e w'=>e=.returned (.bool (sfitsP m l && decide (0<l.length)))∧Below w.heap.size w w':=by
 subst hn
 have HT:=Lib.hid ht
 clear ht
 go_enter Try.func78,Try.ntmps78
 go_wp2
 go_loopw [9] (fun i w'=>∃k:Nat,k≤l.length∧i=.int .i64 k∧Below w.heap.size w w'∧Hid (sfitsP m (l.take k)=true)) (fun i _=>l.length - (intOf i).toNat)
 case atStart=>exact ⟨0,Nat.zero_le _,rfl,Below.refl _ _,Lib.hid (by simp [sfitsP])⟩
 case round =>
  obtain ⟨k,hk,rfl,hb,hal⟩:=hrel
  by_cases hlt:k<l.length
  ·obtain ⟨ad,rfl,hkc,c1,c2⟩:=(hv.below (hb.mono hB)).at_ k hlt
   have hts:=HT.out l[k] (List.getElem_mem hlt)
   have hst:=Lib.hid (sfits_step m l k hlt hal.out)
   have hfl:=Lib.hid (sfits_false m l k hlt)
   generalize l[k].1=x1 at *
   generalize l[k].2=x2 at *
   clear hv
   go_wp2_with (first
    | (go_at_call 75;refine (within_any _ _ _ _).mono ?_;rintro e w' ⟨rfl,rfl⟩)
    | (go_at_call 97;refine (isText_any _ _ hts).mono ?_;rintro e w' ⟨rfl,hb⟩;obtain ⟨hc,hf⟩:=bcell hb;have hz:wr.heap.size<w'.heap.size:=(by have:=hb.size;(try simp at this);omega)))
   all_goals first
    | (go_roundw
       case rel=>exact ⟨k+1,hlt,by go_num,by (repeat (first | assumption | exact Below.refl _ _ | exact (Below.refl _ _).alloc (Nat.le_refl _) _ | (refine thn ?_ (by assumption)) | (refine alB ?_ _) | (refine dwN ?_ _) | (refine Below.drew ?_))),Lib.hid (by rw [hst.out];(try simp only [Bool.not_eq_true'] at *);(try simp only [Bool.not_eq_false'] at *);(try simp only [bne_eq_false_iff_eq] at *);(try simp only [bne_iff_ne] at *);simp [*])⟩
       case measure=>simp [intOf];omega)
    | (go_ret
       exact ⟨ret_bool (by rw [hfl.out (by (try simp only [Bool.not_eq_true'] at *);(try simp only [Bool.not_eq_false'] at *);(try simp only [bne_eq_false_iff_eq] at *);(try simp only [bne_iff_ne] at *);simp [*])];rfl),by (repeat (first | assumption | exact Below.refl _ _ | exact (Below.refl _ _).alloc (Nat.le_refl _) _ | (refine thn ?_ (by assumption)) | (refine alB ?_ _) | (refine dwN ?_ _) | (refine Below.drew ?_)))⟩)
  ·go_wp2
   all_goals (go_ret;exact ⟨ret_bool (by have e:=hal.out;rw [List.take_of_length_le (by omega)] at e;rw [e];rfl),by (repeat (first | assumption | exact Below.refl _ _ | exact (Below.refl _ _).alloc (Nat.le_refl _) _ | (refine thn ?_ (by assumption)) | (refine alB ?_ _) | (refine dwN ?_ _) | (refine Below.drew ?_)))⟩)
theorem cdfits_any (A:Option Addr)(c n:Nat)(l:List Int)(B:Nat)(w:World)(hv:IntsAt w B (.slice A n c) l)(hn:n=l.length)(hl:l.length≤1000000) :
  Calls Try.prog 79 #[.slice A n c] w fun e w'=>e=.returned (.bool (cdfitsP l && decide (0<l.length)))∧w=w':=by
 subst hn
 go_enter Try.func79,Try.ntmps79
 go_wp2
 go_loop [7] (fun i=>∃k:Nat,k≤l.length∧i=.int .i64 k∧Hid (cdfitsP (l.take k)=true)) (fun i=>l.length - (intOf i).toNat)
 case atStart=>exact ⟨0,Nat.zero_le _,rfl,Lib.hid (by simp [cdfitsP])⟩
 case round =>
  obtain ⟨k,hk,rfl,hal⟩:=hrel
  by_cases hlt:k<l.length
  ·obtain ⟨ad,rfl,hkc,c1⟩:=hv.at_ k hlt
   have hst:=Lib.hid (cdfits_step l k hlt hal.out)
   have hfl:=Lib.hid (cdfits_false l k hlt)
   generalize l[k]=x1 at *
   clear hv
   go_wp2_with (go_at_call 98;refine (isQos_any _ _).mono ?_;rintro e w' ⟨rfl,rfl⟩)
   all_goals first
    | (go_round
       case rel=>exact ⟨k+1,hlt,by go_num,Lib.hid (by rw [hst.out];(try simp only [Bool.not_eq_true'] at *);(try simp only [Bool.not_eq_false'] at *);(try simp only [bne_eq_false_iff_eq] at *);(try simp only [bne_iff_ne] at *);simp [*])⟩
       case measure=>simp [intOf];omega)
    | (go_ret
       exact ⟨ret_bool (by rw [hfl.out (by (try simp only [Bool.not_eq_true'] at *);(try simp only [Bool.not_eq_false'] at *);(try simp only [bne_eq_false_iff_eq] at *);(try simp only [bne_iff_ne] at *);simp [*])];rfl),rfl⟩)
  ·go_wp2
   all_goals (go_ret;exact ⟨ret_bool (by have e:=hal.out;rw [List.take_of_length_le (by omega)] at e;rw [e];rfl),rfl⟩)
structure App (w w':World) (v v':Value):Prop where
 grew:w.grownBy w' v.ownBlock
 own:v'.ownBlock=v.ownBlock∨∃g,v'.ownBlock=some g∧w.heap.size≤g
theorem App.refl (w:World)(v:Value):App w w v v:=⟨World.grownBy.refl _ _,.inl rfl⟩
theorem App.trans {w w1 w2:World}{v v1 v2:Value}(h:App w w1 v v1)(k:App w1 w2 v1 v2):App w w2 v v2:=by
 refine ⟨⟨k.grew.os.trans h.grew.os,k.grew.tape.trans h.grew.tape,k.grew.output.trans h.grew.output,Nat.le_trans h.grew.size k.grew.size,fun j hj hne=>?_⟩,?_⟩
 ·rw [k.grew.block j (Nat.lt_of_lt_of_le hj h.grew.size) ?_,h.grew.block j hj hne]
  rcases h.own with e | ⟨g,e,hg⟩
  ·rw [e];exact hne
  ·rw [e];intro q;injection q with q;omega
 ·rcases k.own with e | ⟨g,e,hg⟩
  ·rw [e];exact h.own
  ·exact .inr ⟨g,e,Nat.le_trans h.grew.size hg⟩
theorem App.pre {w w1 w2:World}{v v2:Value}(h:Below w.heap.size w w1)(k:App w1 w2 v v2):App w w2 v v2:=by
 refine ⟨⟨k.grew.os.trans h.os,k.grew.tape.trans h.tape,k.grew.output.trans h.output,Nat.le_trans h.size k.grew.size,fun j hj hne=>?_⟩,?_⟩
 ·rw [k.grew.block j (Nat.lt_of_lt_of_le hj h.size) hne,h.block j hj]
 ·rcases k.own with e | ⟨g,e,hg⟩
  ·exact .inl e
  ·exact .inr ⟨g,e,Nat.le_trans h.size hg⟩
theorem App.below {w w':World}{v v':Value}(h:App w w' v v')(B:Nat)(hB:B≤w.heap.size)(ho:∀k,v.ownBlock=some k→B≤k):Below B w w' :=
 (Below.refl B w).grown h.grew hB ho
theorem own_string {w w':World} {v':Value} {g n cap:Nat} {cur:Array Value} (ty:TypeId) (hg:w.heap[g]? = some (.cells cur 5 (0,0))) (hn:n≤cap) (hcur:cur.size=cap)
  (s:ByteArray) (hs:n+s.size≤100000000) (hr:(Builtin.append_ #[22,9] ty #[.slice (some ⟨g,0,none⟩) n cap,.string s]).run Try.prog w=.ok v' w') :
  v'.ownBlock=some g∨v'.ownBlock=some w.heap.size:=by
 obtain ⟨i0,hi,hz0,hz1,hz2⟩:=info_parts Try.info5
 by_cases hroom:n+s.size≤cap
 ·rw [run_append_room_string (P:=Try.prog) w 22 9 ty 5 i0 Try.underlying22 Try.underlying9 hi hz1 g n cap cur hg s hroom (by omega)] at hr
  injection hr with e1 e2
  exact .inl (by rw [←e1];rfl)
 ·have holds:∀j u,(cur.toList.take n)[j]? = some u→w.cell? ((⟨g,0,none⟩:Addr).add j)=some u:=fun j u hj=>by
   have hadd:(⟨g,0,none⟩:Addr).add j=⟨g,j,none⟩:=by unfold Addr.add;split <;> simp_all
   rw [hadd,cell_of_row w g j cur _ _ hg]
   have hjl:j<n:=by have:=(List.getElem?_eq_some_iff.1 hj).1;simp at this;omega
   rw [List.getElem?_take_of_lt hjl] at hj
   simpa using hj
  rw [run_append_grow_string (P:=Try.prog) w 22 9 ty 5 i0 _ Try.underlying22 Try.underlying9 hi hz0 ⟨g,0,none⟩ n cap (cur.toList.take n) (by rw [hz1];simp;omega) holds s (by omega) (by omega) (by rw [hz2];exact growslice_fits (by omega) (by omega))] at hr
  injection hr with e1 e2
  exact .inr (by rw [←e1];rfl)
theorem ap_str {ops:Array Oper} {rest:List Oper} {a:Act} {w:World} {Q:Exit→Act→World→Prop} {d:Tmp} {x y:Operand} {ty:TypeId} {ps:String} {af:Array Edge}
  (base:Nat) (A:Option Addr) (c n:Nat) (l:List UInt8) (s:ByteArray) (hx:a.eval x=.slice A n c) (hy:a.eval y=.string s) (hown:w.ownsRow base 5 1 (.slice A n c) n (Lib.byteCells l)) (h0:0<n)
  (hs:n+s.size≤100000000) (hb:base≤w.heap.size)
  (h:∀(A':Option Addr) (c':Nat) (w':World),w'.ownsRow base 5 1 (.slice A' (n+s.size) c') (n+s.size) (Lib.byteCells (l++s.data.toList))→App w w' (.slice A n c) (.slice A' (n+s.size) c')→wpList Try.prog ops Q rest (a.put (some d) (.slice A' (n+s.size) c')) w') :
  wpList Try.prog ops Q (⟨some d,.call ⟨.builtin .append,#[x,y],#[22,9]⟩,ty,ps,af,none⟩ :: rest) a w:=by
 obtain ⟨i0,hi,hz0,hz1,hz2⟩:=info_parts Try.info5
 refine wpList_plain rfl fun K hK=>?_
 obtain ⟨v',w',hr,h2,h3,h4⟩:=run_append_own_string (P:=Try.prog) w base 22 9 ty 5 i0 Try.underlying22 Try.underlying9 hi hz0 hz1 hz2 _ n _ hown s (by unfold maxLen;omega) (by omega) hb
 unfold Oper.wp execOp
 simp only [resolve,invoke,builtin,Sem.run_bind,Sem.run_pure,Result.andThen_ok,List.map_toArray,List.map_cons,List.map_nil,hx,hy,hr]
 rcases hown.2 with ⟨_,q⟩ | ⟨g,cap,cur,hv,hbg,hg,hnc,hcm,hcs,_⟩
 ·omega
 injection hv with e1 e2 e3
 subst e1;subst e3
 have ho:=own_string ty hg hnc (by simpa using hcs) s hs hr
 rcases h2.2 with ⟨_,q⟩ | ⟨g',cap',cur',hv',_⟩
 ·omega
 subst hv'
 refine hK _ _ (h _ _ _ ?_ ⟨h3,?_⟩)
 ·have e:Lib.byteCells (l++s.data.toList)=Lib.byteCells l++strCells s:=by rw [Lib.byteCells_append];rfl
  rw [e];exact h2
 ·rcases ho with e | e
  ·exact .inl e
  ·exact .inr ⟨_,e,Nat.le_refl _⟩
theorem ap_bytes {ops:Array Oper} {rest:List Oper} {a:Act} {w:World} {Q:Exit→Act→World→Prop} {d:Tmp} {x y:Operand} {ty:TypeId} {ps:String} {af:Array Edge}
  (base:Nat) (A:Option Addr) (c n:Nat) (l:List UInt8) (B:Nat) (A2:Option Addr) (c2 m:Nat) (l2:List UInt8) (hx:a.eval x=.slice A n c) (hy:a.eval y=.slice A2 m c2) (hown:w.ownsRow base 5 1 (.slice A n c) n (Lib.byteCells l))
  (hv:BytesAt w B (.slice A2 m c2) l2) (hz:A2=none→c2=0) (hs:n+m≤100000000) (hb:base≤w.heap.size)
  (h:∀(A':Option Addr) (c':Nat) (w':World),w'.ownsRow base 5 1 (.slice A' (n+m) c') (n+m) (Lib.byteCells (l++l2))→App w w' (.slice A n c) (.slice A' (n+m) c')→wpList Try.prog ops Q rest (a.put (some d) (.slice A' (n+m) c')) w') :
  wpList Try.prog ops Q (⟨some d,.call ⟨.builtin .append,#[x,y],#[22,22]⟩,ty,ps,af,none⟩ :: rest) a w:=by
 obtain ⟨i0,hi,hz0,hz1,hz2⟩:=info_parts Try.info5
 obtain ⟨A3,c3,hv3,_,_,hn3,_,hx3⟩:=hv
 injection hv3 with e1 e2 e3
 subst e1;subst e2;subst e3
 cases A2 with
 | none =>
  have e:=hn3 rfl
  subst e
  have e:=hz rfl
  subst e
  refine wpList_append_own_none rfl x y 22 rfl base 5 i0 1 Try.underlying22 hi _ n _ hx hown hy ?_
  have hw:=h A c w
  simp only [List.length_nil,Nat.add_zero,List.append_nil] at hw
  exact hw hown (App.refl _ _)
 | some ad =>
  refine wpList_append_own_at w rfl x y 22 rfl base 5 i0 _ 1 1 Try.underlying22 hi hz0 hz1 hz2 rfl (by decide) _ n _ hx hown ad l2.length c2 (Lib.byteCells l2) hy (by rw [Lib.byteCells_length];omega) (fun j u hj=>?_) (fun u hu=>?_) (by unfold maxLen;omega) (by omega) hb (fun v' w' h2 h3 _ ho=>?_)
  ·rw [Lib.byteCells,List.getElem?_map] at hj
   obtain ⟨q,hq,rfl⟩:=Option.map_eq_some_iff.1 hj
   exact hx3 ad rfl j q hq
  ·rw [Lib.byteCells,List.mem_map] at hu
   obtain ⟨q,_,rfl⟩:=hu
   rfl
  ·have e:Lib.byteCells (l++l2)=Lib.byteCells l++Lib.byteCells l2:=Lib.byteCells_append _ _
   have own':v'.ownBlock=(Value.slice A n c).ownBlock∨∃g,v'.ownBlock=some g∧w.heap.size≤g:=by
    rcases ho with q | q
    ·exact .inl q
    ·exact .inr ⟨_,q,Nat.le_refl _⟩
   rcases h2.2 with ⟨rfl,q⟩ | ⟨g',cap',cur',hv',_⟩
   ·have hw:=h none 0 w'
    rw [q] at hw h2
    exact hw (by rw [e];exact h2) ⟨h3,own'⟩
   ·subst hv'
    exact h _ _ _ (by rw [e];exact h2) ⟨h3,own'⟩
def pairL (n:Int):List UInt8:=[UInt8.ofNat (n / 256).toNat,UInt8.ofNat (n%256).toNat]
theorem pairL_len (n:Int):(pairL n).length=2:=rfl
theorem u8c {x:Int}(h0:0≤x)(h1:x≤255):Value.int .u8 ((UInt8.ofNat x.toNat).toNat:Int)=.int .u8 x:=by
 rw [show (UInt8.ofNat x.toNat).toNat=x.toNat by rw [UInt8.toNat_ofNat'];omega];congr 1;omega
def AppPost (base:Nat) (v:Value) (w:World) (l:List UInt8) (e:Ending) (w':World):Prop :=
 ∃(A:Option Addr) (c:Nat),e=.returned (.slice A l.length c)∧w'.ownsRow base 5 1 (.slice A l.length c) l.length (Lib.byteCells l)∧App w w' v (.slice A l.length c)
theorem addPair_any (base:Nat)(A:Option Addr)(c n:Nat)(l:List UInt8)(x:Int)(w:World)(hown:w.ownsRow base 5 1 (.slice A n c) n (Lib.byteCells l))(hn:n=l.length)(hl:l.length≤10000000)(hb:base≤w.heap.size)(h0:0≤x)(h1:x≤65535) :
  Calls Try.prog 65 #[.slice A n c,.int .i64 x] w (AppPost base (.slice A n c) w (l++pairL x)):=by
 subst hn
 have e:(l++pairL x).length=l.length+2:=by simp [pairL]
 have E:=Lib.hid e
 clear e
 go_enter Try.func65,Try.ntmps65
 go_wp2_with (at_builtin;go_must (refine ap_bytes base A c l.length l (w.heap.size+1) (some ⟨w.heap.size,0,none⟩) 2 2 (pairL x) (by rfl) (by rfl) (hown.alloc _) (bytesAt_new w (pairL x) _ (0,0) (by simp only [pairL,List.map_cons,List.map_nil];rw [u8c (by omega) (by omega),u8c (by omega) (by omega)]) (by rw [pairL_len];decide)) (by simp) (by omega) (by simp;omega) ?_))
 intro A' c' w' h2 ha
 go_wp2_with fail
 go_ret
 unfold AppPost
 rw [E.out]
 exact ⟨A',c',rfl,h2,ha.pre ((Below.refl _ _).alloc (Nat.le_refl _) _)⟩
theorem addText_any (base:Nat)(A:Option Addr)(c n:Nat)(l:List UInt8)(s:ByteArray)(w:World)(hown:w.ownsRow base 5 1 (.slice A n c) n (Lib.byteCells l))(hn:n=l.length)(hl:l.length≤10000000)(hb:base≤w.heap.size)(h1:s.size≤65535) :
  Calls Try.prog 94 #[.slice A n c,.string s] w (AppPost base (.slice A n c) w (l++(pairL s.size++s.data.toList))):=by
 subst hn
 have hp:=addPair_any base A c l.length l s.size w hown rfl hl hb (by omega) (by omega)
 go_enter Try.func94,Try.ntmps94
 go_wp2_with fail
 refine hp.mono ?_
 rintro e w1 ⟨A1,c1,rfl,ho,ha⟩
 have e1:(l++pairL (s.size:Int)).length=l.length+2:=by simp [pairL]
 rw [e1] at ho ha ⊢
 have e2:(l++(pairL (s.size:Int)++s.data.toList)).length=l.length+2+s.size:=by simp [pairL];omega
 have E1:=Lib.hid e1
 have E2:=Lib.hid e2
 clear e1 e2 hp
 have hb1:base≤w1.heap.size:=Nat.le_trans hb ha.grew.size
 go_wp2_with (at_builtin;go_must (refine ap_str base A1 c1 (l.length+2) (l++pairL (s.size:Int)) s (by rfl) (by rfl) ho (by omega) (by omega) hb1 ?_))
 intro A' c' w' h2 h3
 go_wp2_with fail
 go_ret
 unfold AppPost
 rw [E2.out]
 exact ⟨A',c',rfl,by rw [←List.append_assoc];exact h2,ha.trans h3⟩
theorem addLump_any (base:Nat) (A:Option Addr) (c n:Nat) (l:List UInt8) (B:Nat) (A2:Option Addr) (c2 m:Nat) (l2:List UInt8) (w:World) (hown:w.ownsRow base 5 1 (.slice A n c) n (Lib.byteCells l)) (hn:n=l.length) (hv:BytesAt w B (.slice A2 m c2) l2) (hm:m=l2.length) (hz:A2=none→c2=0) (hB:B≤base)
  (hl:l.length≤10000000) (hb:base≤w.heap.size) (h1:l2.length≤65535) :
  Calls Try.prog 96 #[.slice A n c,.slice A2 m c2] w (AppPost base (.slice A n c) w (l++(pairL l2.length++l2))):=by
 subst hn;subst hm
 have hp:=addPair_any base A c l.length l l2.length w hown rfl hl hb (by omega) (by omega)
 have hlt:=fun k hk=>(hown.lt k hk).1
 have HV:=Lib.hid hv
 clear hv
 go_enter Try.func96,Try.ntmps96
 go_wp2_with fail
 refine hp.mono ?_
 rintro e w1 ⟨A1,c1,rfl,ho,ha⟩
 have hbl:=ha.below base hb hlt
 have e1:(l++pairL (l2.length:Int)).length=l.length+2:=by simp [pairL]
 rw [e1] at ho ha ⊢
 have e2:(l++(pairL (l2.length:Int)++l2)).length=l.length+2+l2.length:=by simp [pairL];omega
 have E2:=Lib.hid e2
 clear e1 e2 hp
 have hb1:base≤w1.heap.size:=Nat.le_trans hb ha.grew.size
 go_wp2_with (at_builtin;go_must (refine ap_bytes base A1 c1 (l.length+2) (l++pairL (l2.length:Int)) B A2 c2 l2.length l2 (by rfl) (by rfl) ho (HV.out.below (hbl.mono hB)) hz (by omega) hb1 ?_))
 intro A' c' w' h2 h3
 go_wp2_with fail
 go_ret
 unfold AppPost
 rw [E2.out]
 exact ⟨A',c',rfl,by rw [←List.append_assoc];exact h2,ha.trans h3⟩
def flagI (b:Bool) (f:Int):Int:=if b then f else 0
theorem flagI_in (b:Bool)(f:Int)(h:0≤f):0≤flagI b f∧flagI b f≤f:=by unfold flagI;split <;> omega
theorem flag_any (b:Bool)(f:Int)(w:World) :
  Calls Try.prog 63 #[.bool b,.int .i64 f] w fun e w'=>e=.returned (.int .i64 (flagI b f))∧w=w':=by
 go_enter Try.func63,Try.ntmps63
 cases b <;> (go_wp2;go_ret;exact ⟨rfl,rfl⟩)
theorem flag_q (b:Bool)(f:Int)(w:World) :
  Calls Try.prog 63 #[.bool b,.int .i64 f] w fun e w'=>e=.returned (.int .i64 (flagI b f))∧w'=w:=(flag_any b f w).mono fun _ _ ⟨h,k⟩=>⟨h,k.symm⟩
def cflagsP (p:Pk):Int:=flagI p.clean 2+flagI p.hw 4+p.wqos*8+flagI p.wret 32+flagI p.hp 64+flagI p.hu 128
def headP (p:Pk):Int:=p.kind*16+(if p.kind==3 then flagI p.dup 8+p.qos*2+flagI p.ret 1 else if p.kind==6 || p.kind==8 || p.kind==10 then 2 else 0)
theorem cflags_any (p:Pk)(s:Sv)(w:World)(h0:0≤p.wqos)(h1:p.wqos≤2) :
  Calls Try.prog 95 #[pkV p s] w fun e w'=>e=.returned (.int .i64 (cflagsP p))∧Below w.heap.size w w':=by
 obtain ⟨a1,b1⟩:=flagI_in p.clean 2 (by omega)
 obtain ⟨a2,b2⟩:=flagI_in p.hw 4 (by omega)
 obtain ⟨a3,b3⟩:=flagI_in p.wret 32 (by omega)
 obtain ⟨a4,b4⟩:=flagI_in p.hp 64 (by omega)
 obtain ⟨a5,b5⟩:=flagI_in p.hu 128 (by omega)
 go_enter Try.func95,Try.ntmps95
 go_wp2_with fail
 go_quiet ((go_at_call 63;exact Calls.quiet_of_same (flag_q _ _ _)))
 go_wp2_with fail
 go_ret
 exact ⟨rfl,by (repeat (first | assumption | exact Below.refl _ _ | exact (Below.refl _ _).alloc (Nat.le_refl _) _ | (refine thn ?_ (by assumption)) | (refine alB ?_ _) | (refine dwN ?_ _) | (refine Below.drew ?_)))⟩
theorem head_any (p:Pk)(s:Sv)(w:World)(k0:0≤p.kind)(k15:p.kind≤15)(h0:0≤p.qos)(h1:p.qos≤3) :
  Calls Try.prog 61 #[pkV p s] w fun e w'=>e=.returned (.int .u8 (headP p))∧Below w.heap.size w w':=by
 obtain ⟨a1,b1⟩:=flagI_in p.dup 8 (by omega)
 obtain ⟨a2,b2⟩:=flagI_in p.ret 1 (by omega)
 rcases e3:(p.kind==3) with _ | _
 ·rcases e6:(p.kind==6) with _ | _ <;> rcases e8:(p.kind==8) with _ | _ <;> rcases e10:(p.kind==10) with _ | _
  all_goals
   go_enter Try.func61,Try.ntmps61
   go_wp2
   go_ret
   exact ⟨by unfold headP;simp [*],by (repeat (first | assumption | exact Below.refl _ _ | exact (Below.refl _ _).alloc (Nat.le_refl _) _ | (refine thn ?_ (by assumption)) | (refine alB ?_ _) | (refine dwN ?_ _) | (refine Below.drew ?_)))⟩
 ·go_enter Try.func61,Try.ntmps61
  go_wp2_with fail
  go_quiet ((go_at_call 63;exact Calls.quiet_of_same (flag_q _ _ _)))
  go_wp2_with fail
  go_ret
  exact ⟨by unfold headP;simp [*],by (repeat (first | assumption | exact Below.refl _ _ | exact (Below.refl _ _).alloc (Nat.le_refl _) _ | (refine thn ?_ (by assumption)) | (refine alB ?_ _) | (refine dwN ?_ _) | (refine Below.drew ?_)))⟩
theorem App.row {w w':World}{v v':Value}{g:Nat}{o:Obj}(h:App w w' v v')(hg:w.heap[g]? = some o)(hne:v.ownBlock≠some g):w'.heap[g]? = some o∧v'.ownBlock≠some g:=by
 have hl:g<w.heap.size:=(Array.getElem?_eq_some_iff.1 hg).1
 refine ⟨by rw [h.grew.block g hl (fun e=>hne e.symm),hg],?_⟩
 rcases h.own with e | ⟨k,e,hk⟩
 ·rw [e];exact hne
 ·rw [e];intro q;injection q with q;omega
theorem row_cells {w:World}{g:Nat}{cs:Array Value}{t:TypeId}{fr:Nat×Nat}(h:w.heap[g]? = some (.cells cs t fr)):∀k,w.cell? ⟨g,k,none⟩=cs[k]? := fun k=>cell_of_row w g k cs t fr h
theorem own_ne {w:World}{base n:Nat}{v:Value}{xs:List Value}(h:w.ownsRow base 5 1 v n xs):v.ownBlock≠some w.heap.size:=fun e=>by have:=(h.lt _ e).2;omega
def textL (s:ByteArray):List UInt8:=pairL s.size++s.data.toList
def lumpL (l:List UInt8):List UInt8:=pairL l.length++l
def pubL (p:Pk):List UInt8:=textL p.top++((if p.qos==0 then [] else pairL p.id)++p.pay)
theorem addPublish_any (p:Pk) (s:Sv) (base:Nat) (A:Option Addr) (c n:Nat) (l:List UInt8) (B:Nat) (w:World) (hown:w.ownsRow base 5 1 (.slice A n c) n (Lib.byteCells l)) (hn:n=l.length) (hl:l.length≤1000) (hb:base≤w.heap.size)
  (hv:BytesAt w B (.slice s.pA p.pay.length s.pC) p.pay) (hz:s.pA=none→s.pC=0) (hB:B≤base) (h1:p.top.size≤65535) (h2:p.pay.length≤65535) (h3:0≤p.id) (h4:p.id≤65535) :
  Calls Try.prog 64 #[.slice A n c,pkV p s] w (AppPost base (.slice A n c) w (l++pubL p)):=by
 subst hn
 have hbw:Below w.heap.size w (w.alloc (.cells (pkC p s) 28)):=(Below.refl _ _).alloc (Nat.le_refl _) _
 have hne:=own_ne hown
 have hp:=addText_any base A c l.length l p.top (w.alloc (.cells (pkC p s) 28)) (hown.alloc _) rfl (by omega) (by simp;omega) h1
 have hlt:=fun k hk=>(hown.lt k hk).1
 have HV:=Lib.hid hv
 have HNE:=Lib.hid hne
 clear hv hne
 have hkk:(l++(pairL (p.top.size:Int)++p.top.data.toList)).length≤70000:=by simp [pairL];omega
 rcases eq:(p.qos==0) with _ | _
 ·have EQ:=Lib.hid eq
  have eq2:(p.qos != 0)=true:=by show (!(p.qos==0))=true;rw [eq];rfl
  go_enter Try.func64,Try.ntmps64
  go_wp2_with fail
  refine hp.mono ?_
  rintro e w1 ⟨A1,c1,rfl,ho,ha⟩
  obtain ⟨r1,n1⟩:=ha.row (heap_alloc_last _ _) HNE.out
  have q1:=row_cells r1
  have a1:=ha.pre hbw
  have hb1:base≤w1.heap.size:=Nat.le_trans hb a1.grew.size
  generalize hL1:l++(pairL (p.top.size:Int)++p.top.data.toList)=L1 at *
  have HL1:=Lib.hid hL1
  clear hL1 hp ha
  go_wp2_with fail
  refine (addPair_any base A1 c1 L1.length L1 p.id w1 ho rfl (by omega) hb1 h3 h4).mono ?_
  rintro e w2 ⟨A2,c2,rfl,ho2,ha2⟩
  obtain ⟨r2,n2⟩:=ha2.row r1 n1
  have q2:=row_cells r2
  have a2:=a1.trans ha2
  have hb2:base≤w2.heap.size:=Nat.le_trans hb a2.grew.size
  have hk2:(L1++pairL p.id).length≤70002:=by simp [pairL];omega
  generalize hL2:L1++pairL p.id=L2 at *
  have HL2:=Lib.hid hL2
  clear hL2 q1 r1 ha2
  have hbl:=a2.below base hb hlt
  go_wp2_with (at_builtin;go_must (refine ap_bytes base A2 c2 L2.length L2 B s.pA s.pC p.pay.length p.pay (by rfl) (by rfl) ho2 (HV.out.below (hbl.mono hB)) hz (by omega) hb2 ?_))
  intro A' c' w' h2 h3
  have e:l++pubL p=L2++p.pay:=by rw [←HL2.out,←HL1.out];unfold pubL textL;rw [EQ.out];simp
  have E:=Lib.hid e
  clear e
  go_wp2_with fail
  go_ret
  unfold AppPost
  rw [E.out,List.length_append]
  exact ⟨A',c',rfl,h2,a2.trans h3⟩
 ·have EQ:=Lib.hid eq
  have eq2:(p.qos != 0)=false:=by show (!(p.qos==0))=false;rw [eq];rfl
  go_enter Try.func64,Try.ntmps64
  go_wp2_with fail
  refine hp.mono ?_
  rintro e w1 ⟨A1,c1,rfl,ho,ha⟩
  obtain ⟨r1,n1⟩:=ha.row (heap_alloc_last _ _) HNE.out
  have q1:=row_cells r1
  have a1:=ha.pre hbw
  have hb1:base≤w1.heap.size:=Nat.le_trans hb a1.grew.size
  generalize hL1:l++(pairL (p.top.size:Int)++p.top.data.toList)=L1 at *
  have HL1:=Lib.hid hL1
  clear hL1 hp ha
  have hbl:=a1.below base hb hlt
  go_wp2_with (at_builtin;go_must (refine ap_bytes base A1 c1 L1.length L1 B s.pA s.pC p.pay.length p.pay (by rfl) (by rfl) ho (HV.out.below (hbl.mono hB)) hz (by omega) hb1 ?_))
  intro A' c' w' h2 h3
  have e:l++pubL p=L1++p.pay:=by rw [←HL1.out];unfold pubL textL;rw [EQ.out];simp
  have E:=Lib.hid e
  clear e
  go_wp2_with fail
  go_ret
  unfold AppPost
  rw [E.out,List.length_append]
  exact ⟨A',c',rfl,h2,a1.trans h3⟩
def codesL (l:List Int):List UInt8:=l.map fun c=>UInt8.ofNat c.toNat
theorem codes_take (l:List Int)(k:Nat)(h:k<l.length):codesL (l.take (k+1))=codesL (l.take k)++[UInt8.ofNat l[k].toNat]:=by
 unfold codesL;rw [List.take_succ_eq_append_getElem h,List.map_append];rfl
theorem one_cell {x:Int}(h0:0≤x)(h1:x≤255):(#[Value.int .u8 x]:Array Value)=(([UInt8.ofNat x.toNat]:List UInt8).map fun b=>Value.int .u8 (b.toNat:Int)).toArray:=by
 simp only [List.map_cons,List.map_nil];rw [u8c h0 h1]
theorem addCodes_any (base:Nat) (A:Option Addr) (c n:Nat) (l:List UInt8) (B:Nat) (A2:Option Addr) (c2 m:Nat) (cs:List Int) (w:World) (hown:w.ownsRow base 5 1 (.slice A n c) n (Lib.byteCells l)) (hn:n=l.length) (hl:l.length≤1000) (hb:base≤w.heap.size)
  (hv:IntsAt w B (.slice A2 m c2) cs) (hm:m=cs.length) (hB:B≤base) (h1:cs.length≤65535) (h2:∀x ∈ cs,0≤x∧x≤255) :
  Calls Try.prog 67 #[.slice A n c,.slice A2 m c2] w (AppPost base (.slice A n c) w (l++codesL cs)):=by
 subst hn;subst hm
 have hlt:=fun k hk=>(hown.lt k hk).1
 have HV:=Lib.hid hv
 have H2:=Lib.hid h2
 clear hv h2
 go_enter Try.func67,Try.ntmps67
 go_wp2
 go_loopw [0,9] (fun b i wr=>∃(k:Nat) (A':Option Addr) (c':Nat),k≤cs.length∧i=.int .i64 k∧b=.slice A' (l.length+k) c'∧wr.ownsRow base 5 1 (.slice A' (l.length+k) c') (l.length+k) (Lib.byteCells (l++codesL (cs.take k)))∧App w wr (.slice A l.length c) (.slice A' (l.length+k) c')) (fun _ i _=>cs.length - (intOf i).toNat)
 case atStart=>exact ⟨0,A,c,Nat.zero_le _,rfl,rfl,by simpa [codesL] using hown,App.refl _ _⟩
 case round =>
  obtain ⟨k,A',c',hk,rfl,rfl,ho,ha⟩:=hrel
  have hb1:base≤wr.heap.size:=Nat.le_trans hb ha.grew.size
  by_cases hlt2:k<cs.length
  ·obtain ⟨ad,rfl,hkc,q1⟩:=(HV.out.below ((ha.below base hb hlt).mono hB)).at_ k hlt2
   obtain ⟨x0,x1⟩:=H2.out cs[k] (List.getElem_mem hlt2)
   have hst:=Lib.hid (codes_take cs k hlt2)
   generalize cs[k]=x at *
   go_wp2_with (at_builtin;go_must (refine ap_bytes base A' c' (l.length+k) (l++codesL (cs.take k)) (wr.heap.size+1) (some ⟨wr.heap.size,0,none⟩) 1 1 [UInt8.ofNat x.toNat] (by rfl) (by rfl) (ho.alloc _) (bytesAt_new wr [UInt8.ofNat x.toNat] _ (0,0) (one_cell x0 x1) (by simp [maxLen])) (by simp) (by omega) (by simp;omega) ?_))
   intro A3 c3 w3 h3 h4
   go_wp2_with fail
   go_roundw
   case rel =>
    refine ⟨k+1,A3,c3,hlt2,by go_num,rfl,?_,ha.trans (h4.pre ((Below.refl _ _).alloc (Nat.le_refl _) _))⟩
    rw [hst.out,←List.append_assoc];exact h3
   case measure=>simp [intOf];omega
  ·obtain rfl:k=cs.length:=by omega
   have e:(l++codesL cs).length=l.length+cs.length:=by simp [codesL]
   have E:=Lib.hid e
   clear e
   rw [List.take_length] at ho
   go_wp2
   go_ret
   unfold AppPost
   rw [E.out]
   exact ⟨A',c',rfl,ho,ha⟩
def subL (q:Bool) (x:ByteArray×Int):List UInt8:=textL x.1++(if q then [UInt8.ofNat x.2.toNat] else [])
def subsL (q:Bool) (l:List (ByteArray×Int)):List UInt8:=l.flatMap (subL q)
theorem subs_take (q:Bool)(l:List (ByteArray×Int))(k:Nat)(h:k<l.length):subsL q (l.take (k+1))=subsL q (l.take k)++(pairL (l[k].1.size:Int)++l[k].1.data.toList++(if q then [UInt8.ofNat l[k].2.toNat] else [])):=by
 unfold subsL;rw [List.take_succ_eq_append_getElem h,List.flatMap_append];simp [subL,textL]
theorem subs_le (q:Bool)(l:List (ByteArray×Int))(k:Nat):(subsL q (l.take k)).length≤(subsL q l).length:=by
 have e:subsL q l=subsL q (l.take k)++subsL q (l.drop k):=by unfold subsL;rw [←List.flatMap_append,List.take_append_drop]
 rw [e,List.length_append];omega
theorem addSubs_any (p:Pk) (s:Sv) (q:Bool) (base:Nat) (A:Option Addr) (c n:Nat) (l:List UInt8) (B:Nat) (w:World) (hown:w.ownsRow base 5 1 (.slice A n c) n (Lib.byteCells l)) (hn:n=l.length) (hl:l.length≤1000) (hb:base≤w.heap.size)
  (hv:SubsAt w B (.slice s.sA p.subs.length s.sC) p.subs) (hB:B≤base) (h1:p.subs.length≤65535) (h2:∀x ∈ p.subs,x.1.size≤65535∧0≤x.2∧x.2≤255) (hk:(p.kind==8)=q) (hL:(subsL q p.subs).length≤100000) :
  Calls Try.prog 66 #[.slice A n c,pkV p s] w (AppPost base (.slice A n c) w (l++subsL q p.subs)):=by
 subst hn
 have hlt:=fun k hk=>(hown.lt k hk).1
 have hbw:Below w.heap.size w (w.alloc (.cells (pkC p s) 28)):=(Below.refl _ _).alloc (Nat.le_refl _) _
 have HNE:=Lib.hid (own_ne hown)
 have HV:=Lib.hid hv
 have H2:=Lib.hid h2
 have HL:=Lib.hid hL
 clear hv h2 hL
 rcases hA:s.sA with _ | ad
 ·have e0:p.subs=[]:=by
   obtain ⟨A3,c3,hv3,_,_,hn3,_⟩:=HV.out
   injection hv3 with q1 q2 q3
   exact hn3 (by rw [←q1];exact hA)
  have e1:p.subs.length=0:=by rw [e0];rfl
  have E0:Hid (l++subsL q p.subs=l):=Lib.hid (by rw [e0];simp [subsL])
  clear e0
  go_enter Try.func66,Try.ntmps66
  go_wp2
  go_loopw [0,10] (fun b i wr=>i=.int .i64 0∧b=.slice A l.length c∧wr=w.alloc (.cells (pkC p s) 28)) (fun _ _ _=>0)
  case atStart=>exact ⟨rfl,rfl,rfl⟩
  case round =>
   obtain ⟨rfl,rfl,rfl⟩:=hrel
   go_wp2
   go_ret
   unfold AppPost
   rw [E0.out]
   exact ⟨A,c,rfl,hown.alloc _,(App.refl _ _).pre hbw⟩
 ·go_enter Try.func66,Try.ntmps66
  go_wp2
  go_loopw [0,10] (fun b i wr=>∃(k:Nat) (A':Option Addr) (c':Nat) (L:List UInt8),k≤p.subs.length∧i=.int .i64 k∧b=.slice A' L.length c'∧Hid (l++subsL q (p.subs.take k)=L)∧wr.ownsRow base 5 1 (.slice A' L.length c') L.length (Lib.byteCells L)∧App w wr (.slice A l.length c) (.slice A' L.length c')∧wr.heap[w.heap.size]? = some (.cells (pkC p s) 28 (0,0))∧(Value.slice A' L.length c').ownBlock≠some w.heap.size) (fun _ i _=>p.subs.length - (intOf i).toNat)
  case atStart=>exact ⟨0,A,c,l,Nat.zero_le _,rfl,rfl,Lib.hid (by simp [subsL]),hown.alloc _,(App.refl _ _).pre hbw,heap_alloc_last _ _,HNE.out⟩
  case round =>
   obtain ⟨k,A',c',L,hk2,rfl,rfl,hLL,ho,ha,hr,hne⟩:=hrel
   have hb1:base≤wr.heap.size:=Nat.le_trans hb ha.grew.size
   have hlen:L.length≤101000:=by rw [←hLL.out,List.length_append];have:=subs_le q p.subs k;have:=HL.out;omega
   by_cases hlt2:k<p.subs.length
   ·obtain ⟨ad',hAd,hkc,q1,q2⟩:=(HV.out.below ((ha.below base hb hlt).mono hB)).at_ k hlt2
    obtain ⟨x0,x1,x2⟩:=H2.out p.subs[k] (List.getElem_mem hlt2)
    have hst:=Lib.hid (subs_take q p.subs k hlt2)
    rw [hA] at hAd
    obtain rfl:ad=ad':=by injection hAd
    have hrc:=row_cells hr
    have hgw:w.heap.size<wr.heap.size:=(Array.getElem?_eq_some_iff.1 hr).1
    generalize p.subs[k].1=x at *
    generalize p.subs[k].2=y at *
    have hp:=addText_any base A' c' L.length L x (wr.alloc (.cells #[.string x,.int .i64 y] 70)) (ho.alloc _) rfl (by omega) (by simp;omega) x0
    go_wp2_with fail
    refine hp.mono ?_
    rintro e w1 ⟨A1,c1,rfl,ho1,ha1⟩
    have n0:=own_ne ho
    obtain ⟨r1,n1⟩:=ha1.row (heap_alloc_last _ _) n0
    obtain ⟨r2,n2⟩:=ha1.row (heap_keep hr) hne
    have t1:=row_cells r1
    have t2:=row_cells r2
    have a1:=ha.trans (ha1.pre ((Below.refl _ _).alloc (Nat.le_refl _) _))
    have hb2:base≤w1.heap.size:=Nat.le_trans hb a1.grew.size
    have hl1:(L++(pairL (x.size:Int)++x.data.toList)).length≤170000:=by simp [pairL];omega
    generalize hL1:L++(pairL (x.size:Int)++x.data.toList)=L1 at *
    have HL1:=Lib.hid hL1
    clear hL1 hp ha1 r1
    cases q with
    | false =>
     go_wp2_with fail
     go_roundw
     case rel =>
      refine ⟨k+1,A1,c1,L1,hlt2,by go_num,rfl,Lib.hid ?_,ho1,a1,r2,n2⟩
      rw [hst.out,←HL1.out,←hLL.out];simp
     case measure=>simp [intOf];omega
    | true =>
     go_wp2_with (at_builtin;go_must (refine ap_bytes base A1 c1 L1.length L1 (w1.heap.size+1) (some ⟨w1.heap.size,0,none⟩) 1 1 [UInt8.ofNat y.toNat] (by rfl) (by rfl) (ho1.alloc _) (bytesAt_new w1 [UInt8.ofNat y.toNat] _ (0,0) (one_cell x1 x2) (by simp [maxLen])) (by simp) (by omega) (by simp;omega) ?_))
     intro A3 c3 w3 h3 h4
     obtain ⟨r3,n3⟩:=h4.row (heap_keep r2) n2
     have hl3:(L1++[UInt8.ofNat y.toNat]).length=L1.length+1:=by simp
     go_wp2_with fail
     go_roundw
     case rel =>
      refine ⟨k+1,A3,c3,L1++[UInt8.ofNat y.toNat],hlt2,by go_num,by rw [hl3],Lib.hid ?_,by rw [hl3];exact h3,by rw [hl3];exact a1.trans (h4.pre ((Below.refl _ _).alloc (Nat.le_refl _) _)),r3,by rw [hl3];exact n3⟩
      rw [hst.out,←HL1.out,←hLL.out];simp
     case measure=>simp [intOf];omega
   ·obtain rfl:k=p.subs.length:=by omega
    rw [List.take_length] at hLL
    go_wp2
    go_ret
    unfold AppPost
    rw [hLL.out]
    exact ⟨A',c',rfl,ho,ha⟩
end Go.Proofs.Ytnhpacaoobpkhaa
