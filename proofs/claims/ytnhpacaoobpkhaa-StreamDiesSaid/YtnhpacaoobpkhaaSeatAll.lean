import Derived.Test.YtnhpacaoobpkhaaSeatC000
import Derived.Test.YtnhpacaoobpkhaaSeatC010
import Derived.Test.YtnhpacaoobpkhaaSeatC100
import Derived.Test.YtnhpacaoobpkhaaSeatC101
import Derived.Test.YtnhpacaoobpkhaaSeatC110
import Derived.Test.YtnhpacaoobpkhaaSeatC111a
import Derived.Test.YtnhpacaoobpkhaaSeatC111c
import Derived.Test.YtnhpacaoobpkhaaSeatC111e
import Derived.Test.YtnhpacaoobpkhaaSeatP1
import Derived.Test.YtnhpacaoobpkhaaSeatS1
import Derived.Test.YtnhpacaoobpkhaaSeatS0
import Derived.Test.YtnhpacaoobpkhaaTwoLaw
namespace Go.Proofs.Ytnhpacaoobpkhaa
open Go.RowKit Go.Lib
set_option linter.unusedVariables false
set_option maxRecDepth 100000
set_option maxHeartbeats 2000000
theorem seatCon_any (a b c:Int)(A:Option Addr)(n cx:Nat)(l:List UInt8)(w:World)(a0:0≤a)(a1:a≤255)(b0:0≤b)(b1:b≤255)(c0:0≤c)(c1:c≤255)(hx:BytesAt w w.heap.size (.slice A n cx) l)(hn:n=l.length)(hl:l.length≤60)(hnil:A=none→cx=0):Calls Try.prog 36 #[.int .u8 a,.int .u8 b,.int .u8 c,.slice A n cx] w (SConPost w A cx l):=by
 rcases hb1:(c%3==0) with _ | _ <;> rcases hb2:(a%8==7) with _ | _ <;> rcases hb3:(b%10==9) with _ | _ <;>
 rcases (show a%5=0∨a%5=1∨a%5=2∨a%5=3∨a%5=4 by omega) with h | h | h | h | h
 ·exact seatCon_0000 a b c A n cx l w a0 a1 b0 b1 c0 c1 hx hn hl hnil h hb1 hb2 hb3
 ·exact seatCon_1000 a b c A n cx l w a0 a1 b0 b1 c0 c1 hx hn hl hnil h hb1 hb2 hb3
 ·exact seatCon_2000 a b c A n cx l w a0 a1 b0 b1 c0 c1 hx hn hl hnil h hb1 hb2 hb3
 ·exact seatCon_3000 a b c A n cx l w a0 a1 b0 b1 c0 c1 hx hn hl hnil h hb1 hb2 hb3
 ·exact seatCon_4000 a b c A n cx l w a0 a1 b0 b1 c0 c1 hx hn hl hnil h hb1 hb2 hb3
 ·exact seatCon_0001 a b c A n cx l w a0 a1 b0 b1 c0 c1 hx hn hl hnil h hb1 hb2 hb3
 ·exact seatCon_1001 a b c A n cx l w a0 a1 b0 b1 c0 c1 hx hn hl hnil h hb1 hb2 hb3
 ·exact seatCon_2001 a b c A n cx l w a0 a1 b0 b1 c0 c1 hx hn hl hnil h hb1 hb2 hb3
 ·exact seatCon_3001 a b c A n cx l w a0 a1 b0 b1 c0 c1 hx hn hl hnil h hb1 hb2 hb3
 ·exact seatCon_4001 a b c A n cx l w a0 a1 b0 b1 c0 c1 hx hn hl hnil h hb1 hb2 hb3
 ·exact seatCon_0010 a b c A n cx l w a0 a1 b0 b1 c0 c1 hx hn hl hnil h hb1 hb2 hb3
 ·exact seatCon_1010 a b c A n cx l w a0 a1 b0 b1 c0 c1 hx hn hl hnil h hb1 hb2 hb3
 ·exact seatCon_2010 a b c A n cx l w a0 a1 b0 b1 c0 c1 hx hn hl hnil h hb1 hb2 hb3
 ·exact seatCon_3010 a b c A n cx l w a0 a1 b0 b1 c0 c1 hx hn hl hnil h hb1 hb2 hb3
 ·exact seatCon_4010 a b c A n cx l w a0 a1 b0 b1 c0 c1 hx hn hl hnil h hb1 hb2 hb3
 ·exact seatCon_0011 a b c A n cx l w a0 a1 b0 b1 c0 c1 hx hn hl hnil h hb1 hb2 hb3
 ·exact seatCon_1011 a b c A n cx l w a0 a1 b0 b1 c0 c1 hx hn hl hnil h hb1 hb2 hb3
 ·exact seatCon_2011 a b c A n cx l w a0 a1 b0 b1 c0 c1 hx hn hl hnil h hb1 hb2 hb3
 ·exact seatCon_3011 a b c A n cx l w a0 a1 b0 b1 c0 c1 hx hn hl hnil h hb1 hb2 hb3
 ·exact seatCon_4011 a b c A n cx l w a0 a1 b0 b1 c0 c1 hx hn hl hnil h hb1 hb2 hb3
 ·exact seatCon_0100 a b c A n cx l w a0 a1 b0 b1 c0 c1 hx hn hl hnil h hb1 hb2 hb3
 ·exact seatCon_1100 a b c A n cx l w a0 a1 b0 b1 c0 c1 hx hn hl hnil h hb1 hb2 hb3
 ·exact seatCon_2100 a b c A n cx l w a0 a1 b0 b1 c0 c1 hx hn hl hnil h hb1 hb2 hb3
 ·exact seatCon_3100 a b c A n cx l w a0 a1 b0 b1 c0 c1 hx hn hl hnil h hb1 hb2 hb3
 ·exact seatCon_4100 a b c A n cx l w a0 a1 b0 b1 c0 c1 hx hn hl hnil h hb1 hb2 hb3
 ·exact seatCon_0101 a b c A n cx l w a0 a1 b0 b1 c0 c1 hx hn hl hnil h hb1 hb2 hb3
 ·exact seatCon_1101 a b c A n cx l w a0 a1 b0 b1 c0 c1 hx hn hl hnil h hb1 hb2 hb3
 ·exact seatCon_2101 a b c A n cx l w a0 a1 b0 b1 c0 c1 hx hn hl hnil h hb1 hb2 hb3
 ·exact seatCon_3101 a b c A n cx l w a0 a1 b0 b1 c0 c1 hx hn hl hnil h hb1 hb2 hb3
 ·exact seatCon_4101 a b c A n cx l w a0 a1 b0 b1 c0 c1 hx hn hl hnil h hb1 hb2 hb3
 ·exact seatCon_0110 a b c A n cx l w a0 a1 b0 b1 c0 c1 hx hn hl hnil h hb1 hb2 hb3
 ·exact seatCon_1110 a b c A n cx l w a0 a1 b0 b1 c0 c1 hx hn hl hnil h hb1 hb2 hb3
 ·exact seatCon_2110 a b c A n cx l w a0 a1 b0 b1 c0 c1 hx hn hl hnil h hb1 hb2 hb3
 ·exact seatCon_3110 a b c A n cx l w a0 a1 b0 b1 c0 c1 hx hn hl hnil h hb1 hb2 hb3
 ·exact seatCon_4110 a b c A n cx l w a0 a1 b0 b1 c0 c1 hx hn hl hnil h hb1 hb2 hb3
 ·exact seatCon_0111 a b c A n cx l w a0 a1 b0 b1 c0 c1 hx hn hl hnil h hb1 hb2 hb3
 ·exact seatCon_1111 a b c A n cx l w a0 a1 b0 b1 c0 c1 hx hn hl hnil h hb1 hb2 hb3
 ·exact seatCon_2111 a b c A n cx l w a0 a1 b0 b1 c0 c1 hx hn hl hnil h hb1 hb2 hb3
 ·exact seatCon_3111 a b c A n cx l w a0 a1 b0 b1 c0 c1 hx hn hl hnil h hb1 hb2 hb3
 ·exact seatCon_4111 a b c A n cx l w a0 a1 b0 b1 c0 c1 hx hn hl hnil h hb1 hb2 hb3
theorem seatP_con (k a b c:Int)(A:Option Addr)(n cx:Nat)(l:List UInt8)(w:World)(k0:0≤k)(k1:k≤255)(a0:0≤a)(a1:a≤255)(b0:0≤b)(b1:b≤255)(c0:0≤c)(c1:c≤255)(hx:BytesAt w w.heap.size (.slice A n cx) l)(hn:n=l.length)(hl:l.length≤60)(hnil:A=none→cx=0)(h:k%15=13) :
  Calls Try.prog 15 #[.int .u8 k,.int .u8 a,.int .u8 b,.int .u8 c,.slice A n cx] w (SeatPost w):=by
 have HX:=Lib.hid hx
 have HN:=Lib.hid hnil
 have HE:=Lib.hid hn
 clear hx hnil hn
 go_enter Try.func15,Try.ntmps15
 go_wp2_with fail
 refine (seatCon_any a b c A n cx l _ a0 a1 b0 b1 c0 c1 (HX.out.on ((Below.refl _ _).alloc (Nat.le_refl _) _)) HE.out hl HN.out).mono ?_
 rintro e w1 ⟨p,s,rfl,hat,hnl,hok,hbt⟩
 have r0:=heap_below hbt (heap_alloc_new w _)
 have b1':Below w.heap.size w w1:=by (repeat (first | assumption | exact Below.refl _ _ | exact (Below.refl _ _).alloc (Nat.le_refl _) _ | (refine thn ?_ (by assumption)) | (refine alB ?_ _) | (refine dwN ?_ _) | (refine Below.drew ?_)))
 have R0:=Lib.hid r0
 have HH:=Lib.hid (And.intro hat (And.intro hnl hok))
 clear hbt r0 hat hnl hok
 go_wp2_with ((with_reducible show wpList _ _ _ (⟨_,.store 28 (.tmp 10) _,_,_,_,_⟩ :: _) _ _);refine stRs w.heap.size _ (pkC p s) (by rfl) (by rfl) R0.out (by rfl) (by rfl) pk_sz (pk_one _ _) ?_)
 have hb:Below w.heap.size w (w1.setRow w.heap.size (pkC p s)):=below_setRow b1' (Nat.le_refl _) _
 have HX2:BytesAt w w.heap.size (.slice A l.length cx) l:=by rw [←HE.out];exact HX.out
 exact bodyPost_ret (v:=.agg (pkC p s)) (results_cell_row (by rfl) _ _ w.heap.size 28 _ (0,0) _ (by rfl) (setRow_heap _ _ _ _ _ _ R0.out) Try.underlying28 (by rfl) (by exact pk_sz)) (by rfl) ⟨p,s,rfl,HH.out.1 _ _ (HX2.on hb),HH.out.2.1,HH.out.2.2,hb⟩
theorem seatP_any (k a b c:Int)(A:Option Addr)(n cx:Nat)(l:List UInt8)(w:World)(k0:0≤k)(k1:k≤255)(a0:0≤a)(a1:a≤255)(b0:0≤b)(b1:b≤255)(c0:0≤c)(c1:c≤255)(hx:BytesAt w w.heap.size (.slice A n cx) l)(hn:n=l.length)(hl:l.length≤60)(hnil:A=none→cx=0) :
  Calls Try.prog 15 #[.int .u8 k,.int .u8 a,.int .u8 b,.int .u8 c,.slice A n cx] w (SeatPost w):=by
 rcases (show k%15=0∨k%15=1∨k%15=2∨k%15=3∨k%15=4∨k%15=5∨k%15=6∨k%15=7∨k%15=8∨k%15=9∨k%15=10∨k%15=11∨k%15=12∨k%15=13∨k%15=14 by omega) with h | h | h | h | h | h | h | h | h | h | h | h | h | h | h
 ·by_cases hq:b%3=0
  ·exact seatP_pub00 k a b c A n cx l w k0 k1 a0 a1 b0 b1 c0 c1 hx hn hl hnil h hq
  ·exact seatP_pub01 k a b c A n cx l w k0 k1 a0 a1 b0 b1 c0 c1 hx hn hl hnil h (by omega)
 ·by_cases hq:b%3=0
  ·exact seatP_pub10 k a b c A n cx l w k0 k1 a0 a1 b0 b1 c0 c1 hx hn hl hnil h hq
  ·exact seatP_pub11 k a b c A n cx l w k0 k1 a0 a1 b0 b1 c0 c1 hx hn hl hnil h (by omega)
 ·by_cases hq:b%3=0
  ·exact seatP_pub20 k a b c A n cx l w k0 k1 a0 a1 b0 b1 c0 c1 hx hn hl hnil h hq
  ·exact seatP_pub21 k a b c A n cx l w k0 k1 a0 a1 b0 b1 c0 c1 hx hn hl hnil h (by omega)
 ·by_cases hq:b%3=0
  ·exact seatP_pub30 k a b c A n cx l w k0 k1 a0 a1 b0 b1 c0 c1 hx hn hl hnil h hq
  ·exact seatP_pub31 k a b c A n cx l w k0 k1 a0 a1 b0 b1 c0 c1 hx hn hl hnil h (by omega)
 ·rcases h3:(c%3==0) with _ | _ <;> rcases h11:(c%11==0) with _ | _
  ·exact seatP_sub400 k a b c A n cx l w k0 k1 a0 a1 b0 b1 c0 c1 hx hn hl hnil (.inl h) h3 h11
  ·exact seatP_sub401 k a b c A n cx l w k0 k1 a0 a1 b0 b1 c0 c1 hx hn hl hnil (.inl h) h3 h11
  ·exact seatP_sub410 k a b c A n cx l w k0 k1 a0 a1 b0 b1 c0 c1 hx hn hl hnil (.inl h) h3 h11
  ·exact seatP_sub411 k a b c A n cx l w k0 k1 a0 a1 b0 b1 c0 c1 hx hn hl hnil (.inl h) h3 h11
 ·rcases h3:(c%3==0) with _ | _ <;> rcases h11:(c%11==0) with _ | _
  ·exact seatP_sub400 k a b c A n cx l w k0 k1 a0 a1 b0 b1 c0 c1 hx hn hl hnil (.inr (.inl h)) h3 h11
  ·exact seatP_sub401 k a b c A n cx l w k0 k1 a0 a1 b0 b1 c0 c1 hx hn hl hnil (.inr (.inl h)) h3 h11
  ·exact seatP_sub410 k a b c A n cx l w k0 k1 a0 a1 b0 b1 c0 c1 hx hn hl hnil (.inr (.inl h)) h3 h11
  ·exact seatP_sub411 k a b c A n cx l w k0 k1 a0 a1 b0 b1 c0 c1 hx hn hl hnil (.inr (.inl h)) h3 h11
 ·rcases h3:(c%3==0) with _ | _ <;> rcases h11:(c%11==0) with _ | _
  ·exact seatP_sub400 k a b c A n cx l w k0 k1 a0 a1 b0 b1 c0 c1 hx hn hl hnil (.inr (.inr h)) h3 h11
  ·exact seatP_sub401 k a b c A n cx l w k0 k1 a0 a1 b0 b1 c0 c1 hx hn hl hnil (.inr (.inr h)) h3 h11
  ·exact seatP_sub410 k a b c A n cx l w k0 k1 a0 a1 b0 b1 c0 c1 hx hn hl hnil (.inr (.inr h)) h3 h11
  ·exact seatP_sub411 k a b c A n cx l w k0 k1 a0 a1 b0 b1 c0 c1 hx hn hl hnil (.inr (.inr h)) h3 h11
 ·rcases (show c%2=0∨c%2=1 by omega) with h2 | h2
  ·exact seatP_uns0 k a b c A n cx l w k0 k1 a0 a1 b0 b1 c0 c1 hx hn hl hnil h h2
  ·exact seatP_uns1 k a b c A n cx l w k0 k1 a0 a1 b0 b1 c0 c1 hx hn hl hnil h h2
 ·exact seatP_8 k a b c A n cx l w k0 k1 a0 a1 b0 b1 c0 c1 hx hn hl hnil h
 ·exact seatP_9 k a b c A n cx l w k0 k1 a0 a1 b0 b1 c0 c1 hx hn hl hnil h
 ·exact seatP_10 k a b c A n cx l w k0 k1 a0 a1 b0 b1 c0 c1 hx hn hl hnil h
 ·exact seatP_11 k a b c A n cx l w k0 k1 a0 a1 b0 b1 c0 c1 hx hn hl hnil h
 ·exact seatP_12 k a b c A n cx l w k0 k1 a0 a1 b0 b1 c0 c1 hx hn hl hnil h
 ·exact seatP_con k a b c A n cx l w k0 k1 a0 a1 b0 b1 c0 c1 hx hn hl hnil h
 ·exact seatP_14 k a b c A n cx l w k0 k1 a0 a1 b0 b1 c0 c1 hx hn hl hnil h
theorem seat_all:SeatAny:=fun k a b c A n cx l w k0 k1 a0 a1 b0 b1 c0 c1 hx hn hl hnil=>seatP_any k a b c A n cx l w k0 k1 a0 a1 b0 b1 c0 c1 hx hn hl hnil
theorem two_all (k a b c j:Int)(A:Option Addr)(cx:Nat)(x:List UInt8)(w:World)(hk:0≤k∧k≤255)(ha:0≤a∧a≤255)(hb:0≤b∧b≤255)(hc:0≤c∧c≤255)(hj:0≤j∧j≤255)(hv:BytesAt w w.heap.size (.slice A x.length cx) x)(hn:A=none→cx=0) :
  Calls Try.prog 7 #[.int .u8 k,.int .u8 a,.int .u8 b,.int .u8 c,.int .u8 j,.slice A x.length cx] w fun e w'=>e=.returned (.bool true)∧Below w.heap.size w w' :=
 twoLaw_any seat_all k a b c j A cx x w hk ha hb hc hj hv hn
end Go.Proofs.Ytnhpacaoobpkhaa
