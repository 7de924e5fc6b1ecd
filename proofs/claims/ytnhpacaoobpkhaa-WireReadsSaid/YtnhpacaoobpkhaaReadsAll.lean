import Derived.Test.YtnhpacaoobpkhaaReads2
import Derived.Test.YtnhpacaoobpkhaaReads3
namespace Go.Proofs.Ytnhpacaoobpkhaa
open Go.RowKit Go.Lib
set_option linter.unusedSimpArgs false
set_option linter.unusedVariables false
set_option maxRecDepth 100000
set_option maxHeartbeats 8000000
theorem reads_long1 (rA:Option Addr)(rc:Nat)(raw:List UInt8)(k a b c:Int)(A:Option Addr)(cx:Nat)(x:List UInt8)(t:Nat)(v how:Int)(w:World)(h1:¬raw.length≤200)(hm1:raw.length≤9223372036854775807)(hm2:x.length≤9223372036854775807) :
  Calls Try.prog 4 #[.slice rA raw.length rc,.int .u8 k,.int .u8 a,.int .u8 b,.int .u8 c,.slice A x.length cx,.int .u16 (t:Int),.int .u8 v,.int .u8 how] w fun e w'=>e=.returned (.bool true)∧Below w.heap.size w w':=by
 generalize raw.length=m at *
 generalize x.length=m2 at *
 have d1:decide ((200:Int)<(m:Int))=true:=decide_eq_true (by omega)
 have d3:decide (200<m)=true:=decide_eq_true (by omega)
 have d5:(200:Int)<(m:Int):=by omega
 go_enter Try.func4,Try.ntmps4
 go_wp2_with fail
 refine (known3_any w).mono ?_
 rintro e w1 ⟨rfl,hb1⟩
 go_wp2_with fail
 go_ret
 exact ⟨rfl,hb1⟩
theorem reads_long2 (rA:Option Addr)(rc:Nat)(raw:List UInt8)(k a b c:Int)(A:Option Addr)(cx:Nat)(x:List UInt8)(t:Nat)(v how:Int)(w:World)(h1:raw.length≤200)(h2:¬x.length≤60)(hm1:raw.length≤9223372036854775807)(hm2:x.length≤9223372036854775807) :
  Calls Try.prog 4 #[.slice rA raw.length rc,.int .u8 k,.int .u8 a,.int .u8 b,.int .u8 c,.slice A x.length cx,.int .u16 (t:Int),.int .u8 v,.int .u8 how] w fun e w'=>e=.returned (.bool true)∧Below w.heap.size w w':=by
 generalize raw.length=m at *
 generalize x.length=m2 at *
 have d1:decide ((200:Int)<(m:Int))=false:=decide_eq_false (by omega)
 have d3:decide (200<m)=false:=decide_eq_false (by omega)
 have d2:decide ((60:Int)<(m2:Int))=true:=decide_eq_true (by omega)
 have d4:decide (60<m2)=true:=decide_eq_true (by omega)
 have d5:(60:Int)<(m2:Int):=by omega
 go_enter Try.func4,Try.ntmps4
 go_wp2_with fail
 refine (known3_any w).mono ?_
 rintro e w1 ⟨rfl,hb1⟩
 go_wp2_with fail
 go_ret
 exact ⟨rfl,hb1⟩
theorem len_of {w:World}{B:Nat}{A:Option Addr}{n c:Nat}{l:List UInt8}(h:BytesAt w B (.slice A n c) l):l.length≤9223372036854775807:=by
 obtain ⟨A',c',hv1,hc,hm',_⟩:=h
 unfold maxLen at hm'
 omega
theorem reads_all (rA:Option Addr) (rc:Nat) (raw:List UInt8) (k a b c:Nat) (A:Option Addr) (cx:Nat) (x:List UInt8) (t v how:Nat) (w:World) (hk:k<256) (ha:a<256) (hb:b<256) (hc:c<256) (ht:t≤65535) (hv0:v<256) (hh:how<256)
  (hr:BytesAt w w.heap.size (.slice rA raw.length rc) raw) (hrz:rA=none→rc=0) (hv:BytesAt w w.heap.size (.slice A x.length cx) x) (hz:A=none→cx=0) :
  Calls Try.prog 4 #[.slice rA raw.length rc,.int .u8 (k:Int),.int .u8 (a:Int),.int .u8 (b:Int),.int .u8 (c:Int),.slice A x.length cx,.int .u16 (t:Int),.int .u8 (v:Int),.int .u8 (how:Int)] w fun e w'=>e=.returned (.bool true)∧Below w.heap.size w w':=by
 by_cases h1:raw.length≤200
 ·by_cases h2:x.length≤60
  ·have by_:∀n:Nat,n<256→((UInt8.ofNat n).toNat:Int)=(n:Int):=fun n h=>by rw [UInt8.toNat_ofNat'];omega
   have hj:(how:Int)%4=0∨(how:Int)%4=1∨(how:Int)%4=2∨(how:Int)%4=3:=by omega
   rcases hj with hj | hj | hj | hj
   ·exact reads_0 rA rc raw k a b c A cx x t (UInt8.ofNat v) v how w h1 h2 (by omega) (by omega) (by omega) (by omega) ht (by_ v hv0) (by omega) hj hr hrz hv hz (UInt8.ofNat b) (UInt8.ofNat c) (by_ b hb) (by_ c hc) (UInt8.ofNat a) (by_ a ha)
   ·exact reads_1 rA rc raw k a b c A cx x t (UInt8.ofNat v) v how w h1 h2 (by omega) (by omega) (by omega) (by omega) ht (by_ v hv0) (by omega) hj hr hrz hv hz (UInt8.ofNat b) (UInt8.ofNat c) (by_ b hb) (by_ c hc) (UInt8.ofNat a) (by_ a ha)
   ·exact reads_2 rA rc raw k a b c A cx x t (UInt8.ofNat v) v how w h1 h2 (by omega) (by omega) (by omega) (by omega) ht (by_ v hv0) (by omega) hj hr hrz hv hz (UInt8.ofNat b) (UInt8.ofNat c) (by_ b hb) (by_ c hc) (UInt8.ofNat a) (by_ a ha)
   ·exact reads_3 rA rc raw k a b c A cx x t (UInt8.ofNat v) v how w h1 h2 (by omega) (by omega) (by omega) (by omega) ht (by_ v hv0) (by omega) hj hr hrz hv hz (UInt8.ofNat b) (UInt8.ofNat c) (by_ b hb) (by_ c hc) (UInt8.ofNat a) (by_ a ha)
  ·exact reads_long2 rA rc raw k a b c A cx x t v how w h1 h2 (len_of hr) (len_of hv)
 ·exact reads_long1 rA rc raw k a b c A cx x t v how w h1 (len_of hr) (len_of hv)
end Go.Proofs.Ytnhpacaoobpkhaa
