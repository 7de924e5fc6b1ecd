/- hubbublaw3.WireHeads, walked. Written by gen_heads.py. -/
import Derived.Test.YtghcgdjpmgmaaaaRows3
namespace Go.Proofs.Ytghcgdjpmgmaaaa
open Go.RowKit Go.Lib
set_option linter.unusedVariables false
set_option linter.unusedSimpArgs false

set_option maxRecDepth 100000 in
set_option maxHeartbeats 8000000 in
theorem heads_walk (cb nb mb qb : UInt8) (c n : Int) (A : Option Addr) (cx : Nat) (x : List UInt8) (w : World) (ec : (cb.toNat : Int) = c) (en : (nb.toNat : Int) = n) (em : (mb.toNat : Int) = (x.length : Int)) (eq : (qb.toNat : Int) = n % 128) (h2 : x.length ≤ 40) (hv : BytesAt w w.heap.size (.slice A x.length cx) x) (hz : A = none → cx = 0) :
    Calls Try.prog 6 #[.int .u8 c, .int .u8 n, .slice A x.length cx] w fun e w' => e = .returned (.bool true) ∧ Below w.heap.size w w' := by
  have HV := Lib.hid hv
  have HZ := Lib.hid hz
  have c0 : 0 ≤ c := by omega
  have c1 : c ≤ 255 := by have := cb.toNat_lt; omega
  have n0 : 0 ≤ n := by omega
  have n1 : n ≤ 255 := by have := nb.toNat_lt; omega
  clear hv hz
  generalize hX : x.length = m at *
  have HX := Lib.hid hX
  have EC := Lib.hid ec
  have EN := Lib.hid en
  have EM := Lib.hid em
  have EQ := Lib.hid eq
  clear hX ec en em eq
  go_enter Try.func6, Try.ntmps6
  go_wp2_with fail
  refine (known3_any w).mono ?_
  rintro e w1 ⟨rfl, hb1⟩
  have o4 : ((((w1.alloc (.cells #[.int .u8 c] 5)).alloc (.cells #[.int .u8 c, .int .u8 0] 5)).alloc (.cells #[.int .u8 c, .int .u8 (n % 128)] 5)).alloc (.cells #[.int .u8 c, .int .u8 (m : Int)] 5)).ownsRow w1.heap.size 5 1 (.slice (some ⟨w1.heap.size + 1 + 1 + 1, 0, none⟩) 2 2) 2 (Lib.byteCells [cb, mb]) := by
    have q := own_new w1.heap.size (((w1.alloc (.cells #[.int .u8 c] 5)).alloc (.cells #[.int .u8 c, .int .u8 0] 5)).alloc (.cells #[.int .u8 c, .int .u8 (n % 128)] 5)) [cb, mb] #[.int .u8 c, .int .u8 (m : Int)] (by simp [Lib.byteCells, EC.out, EM.out]) (by simp; omega) (by unfold maxLen; simp)
    rw [show (((w1.alloc (.cells #[.int .u8 c] 5)).alloc (.cells #[.int .u8 c, .int .u8 0] 5)).alloc (.cells #[.int .u8 c, .int .u8 (n % 128)] 5)).heap.size = w1.heap.size + 1 + 1 + 1 by simp] at q
    exact q
  have hb4 : Below w1.heap.size w1 ((((w1.alloc (.cells #[.int .u8 c] 5)).alloc (.cells #[.int .u8 c, .int .u8 0] 5)).alloc (.cells #[.int .u8 c, .int .u8 (n % 128)] 5)).alloc (.cells #[.int .u8 c, .int .u8 (m : Int)] 5)) := ((((Below.refl _ w1).alloc (Nat.le_refl _) _).alloc (by simp) _).alloc (by simp; omega) _).alloc (by simp; omega) _
  have r0 : RowAt (((w1.alloc (.cells #[.int .u8 c] 5)).alloc (.cells #[.int .u8 c, .int .u8 0] 5)).alloc (.cells #[.int .u8 c, .int .u8 (n % 128)] 5)) (((w1.alloc (.cells #[.int .u8 c] 5)).alloc (.cells #[.int .u8 c, .int .u8 0] 5)).alloc (.cells #[.int .u8 c, .int .u8 (n % 128)] 5)).heap.size (.slice (some ⟨w1.heap.size, 0, none⟩) 1 1) := ((RowAt.new w1 _ (by simp) [cb] _ _ rfl (by simp [EC.out]) (by simp)).alc _).alc _
  have r1 : RowAt (((w1.alloc (.cells #[.int .u8 c] 5)).alloc (.cells #[.int .u8 c, .int .u8 0] 5)).alloc (.cells #[.int .u8 c, .int .u8 (n % 128)] 5)) (((w1.alloc (.cells #[.int .u8 c] 5)).alloc (.cells #[.int .u8 c, .int .u8 0] 5)).alloc (.cells #[.int .u8 c, .int .u8 (n % 128)] 5)).heap.size (.slice (some ⟨w1.heap.size + 1, 0, none⟩) 2 2) := (RowAt.new (w1.alloc (.cells #[.int .u8 c] 5)) _ (by simp) [cb, 0] _ _ rfl (by simp [EC.out]) (by simp)).alc _
  have r2 : RowAt (((w1.alloc (.cells #[.int .u8 c] 5)).alloc (.cells #[.int .u8 c, .int .u8 0] 5)).alloc (.cells #[.int .u8 c, .int .u8 (n % 128)] 5)) (((w1.alloc (.cells #[.int .u8 c] 5)).alloc (.cells #[.int .u8 c, .int .u8 0] 5)).alloc (.cells #[.int .u8 c, .int .u8 (n % 128)] 5)).heap.size (.slice (some ⟨w1.heap.size + 1 + 1, 0, none⟩) 2 2) := RowAt.new ((w1.alloc (.cells #[.int .u8 c] 5)).alloc (.cells #[.int .u8 c, .int .u8 0] 5)) _ (by simp) [cb, qb] _ _ rfl (by simp [EC.out, EQ.out]) (by simp)
  have O4 := Lib.hid o4
  have R4 := Lib.hid (And.intro r0 (And.intro r1 r2))
  have B4 := Lib.hid (thn hb1 hb4)
  have hv1 := Lib.hid (HV.out.on hb1)
  have V4 := Lib.hid (hv1.out.on hb4)
  clear o4 r0 r1 r2 hb4
  go_wp2_with (at_builtin; go_must (refine ap_bytes w1.heap.size (some ⟨w1.heap.size + 1 + 1 + 1, 0, none⟩) 2 2 [cb, mb] _ A cx m x (by rfl) (by rfl) O4.out V4.out HZ.out (by omega) (by simp; omega) ?_))
  intro A5 c5 w5 o5 a5
  have hb5 : Below (w1.heap.size + 1 + 1 + 1) ((((w1.alloc (.cells #[.int .u8 c] 5)).alloc (.cells #[.int .u8 c, .int .u8 0] 5)).alloc (.cells #[.int .u8 c, .int .u8 (n % 128)] 5)).alloc (.cells #[.int .u8 c, .int .u8 (m : Int)] 5)) w5 := a5.below _ (by simp) (fun k hk => by injection hk with hk; rw [← hk]; exact Nat.le_refl _)
  have BB : Below w.heap.size w w5 := B4.out.trans (hb5.mono (by have := hb1.size; omega))
  have hz5 : w1.heap.size + 1 + 1 + 1 ≤ w5.heap.size := by have := hb5.size; simp at this; omega
  have up : ∀ v, RowAt (((w1.alloc (.cells #[.int .u8 c] 5)).alloc (.cells #[.int .u8 c, .int .u8 0] 5)).alloc (.cells #[.int .u8 c, .int .u8 (n % 128)] 5)) (((w1.alloc (.cells #[.int .u8 c] 5)).alloc (.cells #[.int .u8 c, .int .u8 0] 5)).alloc (.cells #[.int .u8 c, .int .u8 (n % 128)] 5)).heap.size v → RowAt w5 w5.heap.size v := fun v h => by
    obtain ⟨A', cap', l', h1, h3, h4⟩ := h
    have e3 : (((w1.alloc (.cells #[.int .u8 c] 5)).alloc (.cells #[.int .u8 c, .int .u8 0] 5)).alloc (.cells #[.int .u8 c, .int .u8 (n % 128)] 5)).heap.size = w1.heap.size + 1 + 1 + 1 := by simp
    rw [e3] at h4
    have q := (h4.below ((Below.refl _ _).alloc (by simp) (.cells #[.int .u8 c, .int .u8 (m : Int)] 5))).below hb5
    exact ⟨A', cap', l', h1, h3, q.more hz5⟩
  have R5 := Lib.hid (And.intro (up _ R4.out.1) (And.intro (up _ R4.out.2.1) (And.intro (up _ R4.out.2.2) (RowAt.own o5 (by simp [HX.out]; omega) (by simp; have := HX.out; omega)))))
  have HBB := Lib.hid BB
  clear o5 a5 hb5 BB hz5 up R4 O4 B4 hv1 V4
  have q0 : RowAt ((((((w5.alloc (.cells #[.int .u8 c, .int .u8 2, .int .u8 0, .int .u8 n] 5)).alloc (.cells #[.int .u8 c, .int .u8 3, .int .u8 0, .int .u8 1, .int .u8 n] 5)).alloc (.cells #[.int .u8 c, .int .u8 4, .int .u8 0, .int .u8 1, .int .u8 0, .int .u8 n] 5)).alloc (.cells #[.int .u8 c, .int .u8 5, .int .u8 0, .int .u8 1, .int .u8 97, .int .u8 0, .int .u8 n] 5)).alloc (.cells #[.int .u8 c, .int .u8 128] 5)).alloc (.cells #[.int .u8 c, .int .u8 255, .int .u8 255, .int .u8 255, .int .u8 255] 5)) ((((((w5.alloc (.cells #[.int .u8 c, .int .u8 2, .int .u8 0, .int .u8 n] 5)).alloc (.cells #[.int .u8 c, .int .u8 3, .int .u8 0, .int .u8 1, .int .u8 n] 5)).alloc (.cells #[.int .u8 c, .int .u8 4, .int .u8 0, .int .u8 1, .int .u8 0, .int .u8 n] 5)).alloc (.cells #[.int .u8 c, .int .u8 5, .int .u8 0, .int .u8 1, .int .u8 97, .int .u8 0, .int .u8 n] 5)).alloc (.cells #[.int .u8 c, .int .u8 128] 5)).alloc (.cells #[.int .u8 c, .int .u8 255, .int .u8 255, .int .u8 255, .int .u8 255] 5)).heap.size (.slice (some ⟨w5.heap.size, 0, none⟩) 4 4) := (((((RowAt.new w5 _ (by simp) [cb, 2, 0, nb] _ _ rfl (by simp [EC.out, EN.out]) (by simp)).alc _).alc _).alc _).alc _).alc _
  have q1 : RowAt ((((((w5.alloc (.cells #[.int .u8 c, .int .u8 2, .int .u8 0, .int .u8 n] 5)).alloc (.cells #[.int .u8 c, .int .u8 3, .int .u8 0, .int .u8 1, .int .u8 n] 5)).alloc (.cells #[.int .u8 c, .int .u8 4, .int .u8 0, .int .u8 1, .int .u8 0, .int .u8 n] 5)).alloc (.cells #[.int .u8 c, .int .u8 5, .int .u8 0, .int .u8 1, .int .u8 97, .int .u8 0, .int .u8 n] 5)).alloc (.cells #[.int .u8 c, .int .u8 128] 5)).alloc (.cells #[.int .u8 c, .int .u8 255, .int .u8 255, .int .u8 255, .int .u8 255] 5)) ((((((w5.alloc (.cells #[.int .u8 c, .int .u8 2, .int .u8 0, .int .u8 n] 5)).alloc (.cells #[.int .u8 c, .int .u8 3, .int .u8 0, .int .u8 1, .int .u8 n] 5)).alloc (.cells #[.int .u8 c, .int .u8 4, .int .u8 0, .int .u8 1, .int .u8 0, .int .u8 n] 5)).alloc (.cells #[.int .u8 c, .int .u8 5, .int .u8 0, .int .u8 1, .int .u8 97, .int .u8 0, .int .u8 n] 5)).alloc (.cells #[.int .u8 c, .int .u8 128] 5)).alloc (.cells #[.int .u8 c, .int .u8 255, .int .u8 255, .int .u8 255, .int .u8 255] 5)).heap.size (.slice (some ⟨w5.heap.size + 1, 0, none⟩) 5 5) := ((((RowAt.new (w5.alloc (.cells #[.int .u8 c, .int .u8 2, .int .u8 0, .int .u8 n] 5)) _ (by simp) [cb, 3, 0, 1, nb] _ _ rfl (by simp [EC.out, EN.out]) (by simp)).alc _).alc _).alc _).alc _
  have q2 : RowAt ((((((w5.alloc (.cells #[.int .u8 c, .int .u8 2, .int .u8 0, .int .u8 n] 5)).alloc (.cells #[.int .u8 c, .int .u8 3, .int .u8 0, .int .u8 1, .int .u8 n] 5)).alloc (.cells #[.int .u8 c, .int .u8 4, .int .u8 0, .int .u8 1, .int .u8 0, .int .u8 n] 5)).alloc (.cells #[.int .u8 c, .int .u8 5, .int .u8 0, .int .u8 1, .int .u8 97, .int .u8 0, .int .u8 n] 5)).alloc (.cells #[.int .u8 c, .int .u8 128] 5)).alloc (.cells #[.int .u8 c, .int .u8 255, .int .u8 255, .int .u8 255, .int .u8 255] 5)) ((((((w5.alloc (.cells #[.int .u8 c, .int .u8 2, .int .u8 0, .int .u8 n] 5)).alloc (.cells #[.int .u8 c, .int .u8 3, .int .u8 0, .int .u8 1, .int .u8 n] 5)).alloc (.cells #[.int .u8 c, .int .u8 4, .int .u8 0, .int .u8 1, .int .u8 0, .int .u8 n] 5)).alloc (.cells #[.int .u8 c, .int .u8 5, .int .u8 0, .int .u8 1, .int .u8 97, .int .u8 0, .int .u8 n] 5)).alloc (.cells #[.int .u8 c, .int .u8 128] 5)).alloc (.cells #[.int .u8 c, .int .u8 255, .int .u8 255, .int .u8 255, .int .u8 255] 5)).heap.size (.slice (some ⟨w5.heap.size + 1 + 1, 0, none⟩) 6 6) := (((RowAt.new ((w5.alloc (.cells #[.int .u8 c, .int .u8 2, .int .u8 0, .int .u8 n] 5)).alloc (.cells #[.int .u8 c, .int .u8 3, .int .u8 0, .int .u8 1, .int .u8 n] 5)) _ (by simp) [cb, 4, 0, 1, 0, nb] _ _ rfl (by simp [EC.out, EN.out]) (by simp)).alc _).alc _).alc _
  have q3 : RowAt ((((((w5.alloc (.cells #[.int .u8 c, .int .u8 2, .int .u8 0, .int .u8 n] 5)).alloc (.cells #[.int .u8 c, .int .u8 3, .int .u8 0, .int .u8 1, .int .u8 n] 5)).alloc (.cells #[.int .u8 c, .int .u8 4, .int .u8 0, .int .u8 1, .int .u8 0, .int .u8 n] 5)).alloc (.cells #[.int .u8 c, .int .u8 5, .int .u8 0, .int .u8 1, .int .u8 97, .int .u8 0, .int .u8 n] 5)).alloc (.cells #[.int .u8 c, .int .u8 128] 5)).alloc (.cells #[.int .u8 c, .int .u8 255, .int .u8 255, .int .u8 255, .int .u8 255] 5)) ((((((w5.alloc (.cells #[.int .u8 c, .int .u8 2, .int .u8 0, .int .u8 n] 5)).alloc (.cells #[.int .u8 c, .int .u8 3, .int .u8 0, .int .u8 1, .int .u8 n] 5)).alloc (.cells #[.int .u8 c, .int .u8 4, .int .u8 0, .int .u8 1, .int .u8 0, .int .u8 n] 5)).alloc (.cells #[.int .u8 c, .int .u8 5, .int .u8 0, .int .u8 1, .int .u8 97, .int .u8 0, .int .u8 n] 5)).alloc (.cells #[.int .u8 c, .int .u8 128] 5)).alloc (.cells #[.int .u8 c, .int .u8 255, .int .u8 255, .int .u8 255, .int .u8 255] 5)).heap.size (.slice (some ⟨w5.heap.size + 1 + 1 + 1, 0, none⟩) 7 7) := ((RowAt.new (((w5.alloc (.cells #[.int .u8 c, .int .u8 2, .int .u8 0, .int .u8 n] 5)).alloc (.cells #[.int .u8 c, .int .u8 3, .int .u8 0, .int .u8 1, .int .u8 n] 5)).alloc (.cells #[.int .u8 c, .int .u8 4, .int .u8 0, .int .u8 1, .int .u8 0, .int .u8 n] 5)) _ (by simp) [cb, 5, 0, 1, 97, 0, nb] _ _ rfl (by simp [EC.out, EN.out]) (by simp)).alc _).alc _
  have q4 : RowAt ((((((w5.alloc (.cells #[.int .u8 c, .int .u8 2, .int .u8 0, .int .u8 n] 5)).alloc (.cells #[.int .u8 c, .int .u8 3, .int .u8 0, .int .u8 1, .int .u8 n] 5)).alloc (.cells #[.int .u8 c, .int .u8 4, .int .u8 0, .int .u8 1, .int .u8 0, .int .u8 n] 5)).alloc (.cells #[.int .u8 c, .int .u8 5, .int .u8 0, .int .u8 1, .int .u8 97, .int .u8 0, .int .u8 n] 5)).alloc (.cells #[.int .u8 c, .int .u8 128] 5)).alloc (.cells #[.int .u8 c, .int .u8 255, .int .u8 255, .int .u8 255, .int .u8 255] 5)) ((((((w5.alloc (.cells #[.int .u8 c, .int .u8 2, .int .u8 0, .int .u8 n] 5)).alloc (.cells #[.int .u8 c, .int .u8 3, .int .u8 0, .int .u8 1, .int .u8 n] 5)).alloc (.cells #[.int .u8 c, .int .u8 4, .int .u8 0, .int .u8 1, .int .u8 0, .int .u8 n] 5)).alloc (.cells #[.int .u8 c, .int .u8 5, .int .u8 0, .int .u8 1, .int .u8 97, .int .u8 0, .int .u8 n] 5)).alloc (.cells #[.int .u8 c, .int .u8 128] 5)).alloc (.cells #[.int .u8 c, .int .u8 255, .int .u8 255, .int .u8 255, .int .u8 255] 5)).heap.size (.slice (some ⟨w5.heap.size + 1 + 1 + 1 + 1, 0, none⟩) 2 2) := (RowAt.new ((((w5.alloc (.cells #[.int .u8 c, .int .u8 2, .int .u8 0, .int .u8 n] 5)).alloc (.cells #[.int .u8 c, .int .u8 3, .int .u8 0, .int .u8 1, .int .u8 n] 5)).alloc (.cells #[.int .u8 c, .int .u8 4, .int .u8 0, .int .u8 1, .int .u8 0, .int .u8 n] 5)).alloc (.cells #[.int .u8 c, .int .u8 5, .int .u8 0, .int .u8 1, .int .u8 97, .int .u8 0, .int .u8 n] 5)) _ (by simp) [cb, 128] _ _ rfl (by simp [EC.out]) (by simp)).alc _
  have q5 : RowAt ((((((w5.alloc (.cells #[.int .u8 c, .int .u8 2, .int .u8 0, .int .u8 n] 5)).alloc (.cells #[.int .u8 c, .int .u8 3, .int .u8 0, .int .u8 1, .int .u8 n] 5)).alloc (.cells #[.int .u8 c, .int .u8 4, .int .u8 0, .int .u8 1, .int .u8 0, .int .u8 n] 5)).alloc (.cells #[.int .u8 c, .int .u8 5, .int .u8 0, .int .u8 1, .int .u8 97, .int .u8 0, .int .u8 n] 5)).alloc (.cells #[.int .u8 c, .int .u8 128] 5)).alloc (.cells #[.int .u8 c, .int .u8 255, .int .u8 255, .int .u8 255, .int .u8 255] 5)) ((((((w5.alloc (.cells #[.int .u8 c, .int .u8 2, .int .u8 0, .int .u8 n] 5)).alloc (.cells #[.int .u8 c, .int .u8 3, .int .u8 0, .int .u8 1, .int .u8 n] 5)).alloc (.cells #[.int .u8 c, .int .u8 4, .int .u8 0, .int .u8 1, .int .u8 0, .int .u8 n] 5)).alloc (.cells #[.int .u8 c, .int .u8 5, .int .u8 0, .int .u8 1, .int .u8 97, .int .u8 0, .int .u8 n] 5)).alloc (.cells #[.int .u8 c, .int .u8 128] 5)).alloc (.cells #[.int .u8 c, .int .u8 255, .int .u8 255, .int .u8 255, .int .u8 255] 5)).heap.size (.slice (some ⟨w5.heap.size + 1 + 1 + 1 + 1 + 1, 0, none⟩) 5 5) := RowAt.new (((((w5.alloc (.cells #[.int .u8 c, .int .u8 2, .int .u8 0, .int .u8 n] 5)).alloc (.cells #[.int .u8 c, .int .u8 3, .int .u8 0, .int .u8 1, .int .u8 n] 5)).alloc (.cells #[.int .u8 c, .int .u8 4, .int .u8 0, .int .u8 1, .int .u8 0, .int .u8 n] 5)).alloc (.cells #[.int .u8 c, .int .u8 5, .int .u8 0, .int .u8 1, .int .u8 97, .int .u8 0, .int .u8 n] 5)).alloc (.cells #[.int .u8 c, .int .u8 128] 5)) _ (by simp) [cb, 255, 255, 255, 255] _ _ rfl (by simp [EC.out]) (by simp)
  have six : ∀ v, RowAt w5 w5.heap.size v → RowAt ((((((w5.alloc (.cells #[.int .u8 c, .int .u8 2, .int .u8 0, .int .u8 n] 5)).alloc (.cells #[.int .u8 c, .int .u8 3, .int .u8 0, .int .u8 1, .int .u8 n] 5)).alloc (.cells #[.int .u8 c, .int .u8 4, .int .u8 0, .int .u8 1, .int .u8 0, .int .u8 n] 5)).alloc (.cells #[.int .u8 c, .int .u8 5, .int .u8 0, .int .u8 1, .int .u8 97, .int .u8 0, .int .u8 n] 5)).alloc (.cells #[.int .u8 c, .int .u8 128] 5)).alloc (.cells #[.int .u8 c, .int .u8 255, .int .u8 255, .int .u8 255, .int .u8 255] 5)) ((((((w5.alloc (.cells #[.int .u8 c, .int .u8 2, .int .u8 0, .int .u8 n] 5)).alloc (.cells #[.int .u8 c, .int .u8 3, .int .u8 0, .int .u8 1, .int .u8 n] 5)).alloc (.cells #[.int .u8 c, .int .u8 4, .int .u8 0, .int .u8 1, .int .u8 0, .int .u8 n] 5)).alloc (.cells #[.int .u8 c, .int .u8 5, .int .u8 0, .int .u8 1, .int .u8 97, .int .u8 0, .int .u8 n] 5)).alloc (.cells #[.int .u8 c, .int .u8 128] 5)).alloc (.cells #[.int .u8 c, .int .u8 255, .int .u8 255, .int .u8 255, .int .u8 255] 5)).heap.size v := fun v h => (((((h.alc _).alc _).alc _).alc _).alc _).alc _
  have ROWS := RowsAt.new ((((((w5.alloc (.cells #[.int .u8 c, .int .u8 2, .int .u8 0, .int .u8 n] 5)).alloc (.cells #[.int .u8 c, .int .u8 3, .int .u8 0, .int .u8 1, .int .u8 n] 5)).alloc (.cells #[.int .u8 c, .int .u8 4, .int .u8 0, .int .u8 1, .int .u8 0, .int .u8 n] 5)).alloc (.cells #[.int .u8 c, .int .u8 5, .int .u8 0, .int .u8 1, .int .u8 97, .int .u8 0, .int .u8 n] 5)).alloc (.cells #[.int .u8 c, .int .u8 128] 5)).alloc (.cells #[.int .u8 c, .int .u8 255, .int .u8 255, .int .u8 255, .int .u8 255] 5)) [.slice (some ⟨w1.heap.size, 0, none⟩) 1 1, .slice (some ⟨w1.heap.size + 1, 0, none⟩) 2 2, .slice (some ⟨w1.heap.size + 1 + 1, 0, none⟩) 2 2, .slice A5 (2 + m) c5, .slice (some ⟨w5.heap.size, 0, none⟩) 4 4, .slice (some ⟨w5.heap.size + 1, 0, none⟩) 5 5, .slice (some ⟨w5.heap.size + 1 + 1, 0, none⟩) 6 6, .slice (some ⟨w5.heap.size + 1 + 1 + 1, 0, none⟩) 7 7, .slice (some ⟨w5.heap.size + 1 + 1 + 1 + 1, 0, none⟩) 2 2, .slice (some ⟨w5.heap.size + 1 + 1 + 1 + 1 + 1, 0, none⟩) 5 5] 22 (by
    intro v hv
    simp only [List.mem_cons, List.not_mem_nil, or_false] at hv
    rcases hv with rfl | rfl | rfl | rfl | rfl | rfl | rfl | rfl | rfl | rfl
    · exact six _ R5.out.1
    · exact six _ R5.out.2.1
    · exact six _ R5.out.2.2.1
    · exact six _ R5.out.2.2.2
    · exact q0
    · exact q1
    · exact q2
    · exact q3
    · exact q4
    · exact q5)
  have hbF : Below w5.heap.size w5 (((((((w5.alloc (.cells #[.int .u8 c, .int .u8 2, .int .u8 0, .int .u8 n] 5)).alloc (.cells #[.int .u8 c, .int .u8 3, .int .u8 0, .int .u8 1, .int .u8 n] 5)).alloc (.cells #[.int .u8 c, .int .u8 4, .int .u8 0, .int .u8 1, .int .u8 0, .int .u8 n] 5)).alloc (.cells #[.int .u8 c, .int .u8 5, .int .u8 0, .int .u8 1, .int .u8 97, .int .u8 0, .int .u8 n] 5)).alloc (.cells #[.int .u8 c, .int .u8 128] 5)).alloc (.cells #[.int .u8 c, .int .u8 255, .int .u8 255, .int .u8 255, .int .u8 255] 5)).alloc (.cells #[.slice (some ⟨w1.heap.size, 0, none⟩) 1 1, .slice (some ⟨w1.heap.size + 1, 0, none⟩) 2 2, .slice (some ⟨w1.heap.size + 1 + 1, 0, none⟩) 2 2, .slice A5 (2 + m) c5, .slice (some ⟨w5.heap.size, 0, none⟩) 4 4, .slice (some ⟨w5.heap.size + 1, 0, none⟩) 5 5, .slice (some ⟨w5.heap.size + 1 + 1, 0, none⟩) 6 6, .slice (some ⟨w5.heap.size + 1 + 1 + 1, 0, none⟩) 7 7, .slice (some ⟨w5.heap.size + 1 + 1 + 1 + 1, 0, none⟩) 2 2, .slice (some ⟨w5.heap.size + 1 + 1 + 1 + 1 + 1, 0, none⟩) 5 5] 22)) := (((((((Below.refl _ w5).alloc (Nat.le_refl _) _).alloc (by simp; try omega) _).alloc (by simp; try omega) _).alloc (by simp; try omega) _).alloc (by simp; try omega) _).alloc (by simp; try omega) _).alloc (by simp; try omega) _
  have hbW := thn HBB.out hbF
  have esz : ((((((w5.alloc (.cells #[.int .u8 c, .int .u8 2, .int .u8 0, .int .u8 n] 5)).alloc (.cells #[.int .u8 c, .int .u8 3, .int .u8 0, .int .u8 1, .int .u8 n] 5)).alloc (.cells #[.int .u8 c, .int .u8 4, .int .u8 0, .int .u8 1, .int .u8 0, .int .u8 n] 5)).alloc (.cells #[.int .u8 c, .int .u8 5, .int .u8 0, .int .u8 1, .int .u8 97, .int .u8 0, .int .u8 n] 5)).alloc (.cells #[.int .u8 c, .int .u8 128] 5)).alloc (.cells #[.int .u8 c, .int .u8 255, .int .u8 255, .int .u8 255, .int .u8 255] 5)).heap.size = w5.heap.size + 1 + 1 + 1 + 1 + 1 + 1 := by simp
  rw [esz] at ROWS
  have ROWS2 : RowsAt (((((((w5.alloc (.cells #[.int .u8 c, .int .u8 2, .int .u8 0, .int .u8 n] 5)).alloc (.cells #[.int .u8 c, .int .u8 3, .int .u8 0, .int .u8 1, .int .u8 n] 5)).alloc (.cells #[.int .u8 c, .int .u8 4, .int .u8 0, .int .u8 1, .int .u8 0, .int .u8 n] 5)).alloc (.cells #[.int .u8 c, .int .u8 5, .int .u8 0, .int .u8 1, .int .u8 97, .int .u8 0, .int .u8 n] 5)).alloc (.cells #[.int .u8 c, .int .u8 128] 5)).alloc (.cells #[.int .u8 c, .int .u8 255, .int .u8 255, .int .u8 255, .int .u8 255] 5)).alloc (.cells #[.slice (some ⟨w1.heap.size, 0, none⟩) 1 1, .slice (some ⟨w1.heap.size + 1, 0, none⟩) 2 2, .slice (some ⟨w1.heap.size + 1 + 1, 0, none⟩) 2 2, .slice A5 (2 + m) c5, .slice (some ⟨w5.heap.size, 0, none⟩) 4 4, .slice (some ⟨w5.heap.size + 1, 0, none⟩) 5 5, .slice (some ⟨w5.heap.size + 1 + 1, 0, none⟩) 6 6, .slice (some ⟨w5.heap.size + 1 + 1 + 1, 0, none⟩) 7 7, .slice (some ⟨w5.heap.size + 1 + 1 + 1 + 1, 0, none⟩) 2 2, .slice (some ⟨w5.heap.size + 1 + 1 + 1 + 1 + 1, 0, none⟩) 5 5] 22)) (((((((w5.alloc (.cells #[.int .u8 c, .int .u8 2, .int .u8 0, .int .u8 n] 5)).alloc (.cells #[.int .u8 c, .int .u8 3, .int .u8 0, .int .u8 1, .int .u8 n] 5)).alloc (.cells #[.int .u8 c, .int .u8 4, .int .u8 0, .int .u8 1, .int .u8 0, .int .u8 n] 5)).alloc (.cells #[.int .u8 c, .int .u8 5, .int .u8 0, .int .u8 1, .int .u8 97, .int .u8 0, .int .u8 n] 5)).alloc (.cells #[.int .u8 c, .int .u8 128] 5)).alloc (.cells #[.int .u8 c, .int .u8 255, .int .u8 255, .int .u8 255, .int .u8 255] 5)).alloc (.cells #[.slice (some ⟨w1.heap.size, 0, none⟩) 1 1, .slice (some ⟨w1.heap.size + 1, 0, none⟩) 2 2, .slice (some ⟨w1.heap.size + 1 + 1, 0, none⟩) 2 2, .slice A5 (2 + m) c5, .slice (some ⟨w5.heap.size, 0, none⟩) 4 4, .slice (some ⟨w5.heap.size + 1, 0, none⟩) 5 5, .slice (some ⟨w5.heap.size + 1 + 1, 0, none⟩) 6 6, .slice (some ⟨w5.heap.size + 1 + 1 + 1, 0, none⟩) 7 7, .slice (some ⟨w5.heap.size + 1 + 1 + 1 + 1, 0, none⟩) 2 2, .slice (some ⟨w5.heap.size + 1 + 1 + 1 + 1 + 1, 0, none⟩) 5 5] 22)).heap.size (w5.heap.size + 1 + 1 + 1 + 1 + 1 + 1) 10 := ROWS
  have HROWS := Lib.hid (And.intro ROWS2 hbW)
  clear ROWS2
  clear ROWS q0 q1 q2 q3 q4 q5 six R5 hbF hbW esz HBB
  go_wp2_with fail
  obtain ⟨WF, hWF⟩ : ∃ WF, WF = (((((((w5.alloc (.cells #[.int .u8 c, .int .u8 2, .int .u8 0, .int .u8 n] 5)).alloc (.cells #[.int .u8 c, .int .u8 3, .int .u8 0, .int .u8 1, .int .u8 n] 5)).alloc (.cells #[.int .u8 c, .int .u8 4, .int .u8 0, .int .u8 1, .int .u8 0, .int .u8 n] 5)).alloc (.cells #[.int .u8 c, .int .u8 5, .int .u8 0, .int .u8 1, .int .u8 97, .int .u8 0, .int .u8 n] 5)).alloc (.cells #[.int .u8 c, .int .u8 128] 5)).alloc (.cells #[.int .u8 c, .int .u8 255, .int .u8 255, .int .u8 255, .int .u8 255] 5)).alloc (.cells #[.slice (some ⟨w1.heap.size, 0, none⟩) 1 1, .slice (some ⟨w1.heap.size + 1, 0, none⟩) 2 2, .slice (some ⟨w1.heap.size + 1 + 1, 0, none⟩) 2 2, .slice A5 (2 + m) c5, .slice (some ⟨w5.heap.size, 0, none⟩) 4 4, .slice (some ⟨w5.heap.size + 1, 0, none⟩) 5 5, .slice (some ⟨w5.heap.size + 1 + 1, 0, none⟩) 6 6, .slice (some ⟨w5.heap.size + 1 + 1 + 1, 0, none⟩) 7 7, .slice (some ⟨w5.heap.size + 1 + 1 + 1 + 1, 0, none⟩) 2 2, .slice (some ⟨w5.heap.size + 1 + 1 + 1 + 1 + 1, 0, none⟩) 5 5] 22)) := ⟨_, rfl⟩
  rw [← hWF] at HROWS ⊢
  go_loopw [53] (fun i wr => ∃ k : Nat, k ≤ 10 ∧ i = .int .i64 k ∧ Hid (RowsAt wr WF.heap.size (w5.heap.size + 1 + 1 + 1 + 1 + 1 + 1) 10 ∧ Below w.heap.size w wr)) (fun i _ => 10 - (intOf i).toNat)
  case atStart => exact ⟨0, by omega, rfl, HROWS⟩
  case round =>
    obtain ⟨k, hk, rfl, hR⟩ := hrel
    clear HROWS hWF HX EC EN EM EQ HV HZ hb1 c0 c1 n0 n1
    by_cases hlt : k < 10
    · obtain ⟨v, hcell, A1, cap1, l, rfl, hl, hby⟩ := hR.out.1.2.2 k hlt
      have hG := hR.out.1.2.1
      have OK := Lib.hid (rdP_ok l hl)
      have HW1 := Lib.hid (wread_any A1 cap1 l wr (hby.more hG) hl)
      have HD := Lib.hid (fun W (h : Below wr.heap.size wr W) => dread_any A1 cap1 l WF.heap.size W (Nat.le_trans hG h.size) (hby.below (h.mono hG)) hl)
      generalize rdP l = t at *
      obtain ⟨p, z, ee⟩ := t
      simp only at OK
      unfold RdPost at HW1
      unfold DRdPost at HD
      simp only at HW1 HD
      clear hby hG
      generalize l.length = m2 at *
      go_wp2_with fail
      refine HW1.out.mono ?_
      rintro e w2 ⟨s, rfl, hp, hb2⟩
      have P2 := Lib.hid hp.at_
      have B2 := Lib.hid hb2
      have g2 := heap_alloc_last w2 (.cells (pkC p s) 28)
      have b3 : Below wr.heap.size wr (w2.alloc (.cells (pkC p s) 28)) := B2.out.alloc B2.out.size _
      clear hp hb2 HW1 hcell
      go_wp2_with ((with_reducible show wpList _ _ _ ({ dst := _, op := Op.store 28 (Operand.tmp 9) _, type := _, pos := _, after := _, guard := _ } :: _) _ _); refine stLst (w2.heap.size) (by rfl) _ (pkC p s) (by rfl) (by rfl) (by rfl) (by rfl) (pkc_one _ _) ?_)
      refine (HD.out _ b3).mono ?_
      rintro e w4 ⟨s4, rfl, hp4, hn4, hb4⟩
      have G4 := Lib.hid (heap_below hb4 g2)
      have P4 := Lib.hid (P2.out.on (((Below.refl _ w2).alloc (Nat.le_refl _) _).trans (hb4.mono (by simp))))
      have Q4 := Lib.hid hp4
      have B4 := Lib.hid (thn b3 hb4)
      have hz4 : w2.heap.size < w4.heap.size := by have := hb4.size; simp at this; omega
      clear hp4 hn4 hb4 g2 b3 P2 B2 HD
      have hbl : Below w4.heap.size w4 (w4.alloc (.cells (pkC p s4) 28)) := (Below.refl _ _).alloc (Nat.le_refl _) _
      have G5 := Lib.hid (heap_below hbl G4.out)
      have P5 := Lib.hid (P4.out.on hbl)
      have Q5 := Lib.hid (Q4.out.on hbl)
      have B5 := Lib.hid (thn B4.out hbl)
      clear hbl G4 P4 Q4 B4
      go_wp2_with (first
        | ((with_reducible show wpList _ _ _ ({ dst := _, op := Op.store 28 (Operand.tmp 12) _, type := _, pos := _, after := _, guard := _ } :: _) _ _); refine stLst (w4.heap.size) (by rfl) _ (pkC p s4) (by rfl) (by rfl) (by rfl) (by rfl) (pkc_one _ _) ?_)
        | ((with_reducible show wpList _ _ _ ({ dst := _, op := Op.load 28 (Operand.tmp 9), type := _, pos := _, after := _, guard := _ } :: _) _ _); refine ld_pk (w2.heap.size) (by rfl) (by rfl) (pkC p s) _ _ (by exact G5.out) (by rfl) ?_)
        | ((with_reducible show wpList _ _ _ ({ dst := _, op := Op.load 28 (Operand.tmp 12), type := _, pos := _, after := _, guard := _ } :: _) _ _); refine ld_pk (w4.heap.size) (by rfl) (by rfl) (pkC p s4) _ _ (by exact heap_alloc_last _ _) (by rfl) ?_))
      refine (rsame_any p p s s4 _ _ P5.out Q5.out (Nat.le_refl _) OK.out.subs OK.out.codes).mono (fun e w' h => (⟨h.1.trans (by simp), h.2⟩ : e = .returned (.bool true) ∧ Below _ _ w')) |>.mono ?_
      rintro e w6 ⟨rfl, hb6⟩
      have B6 := thn B5.out hb6
      have HE := Lib.hid (And.intro (hR.out.1.below B6) (thn hR.out.2 B6))
      clear hb6 B6 G5 P5 Q5 B5
      go_wp2_with fail
      go_roundw
      case rel => exact ⟨k + 1, by omega, by go_num, HE⟩
      case measure => simp [intOf]; omega
    · obtain rfl : k = 10 := by omega
      go_wp2_with fail
      go_ret
      exact ⟨rfl, hR.out.2⟩

set_option maxRecDepth 100000 in
set_option maxHeartbeats 8000000 in
theorem heads_long (c n : Int) (A : Option Addr) (cx : Nat) (x : List UInt8) (w : World) (h2 : ¬ x.length ≤ 40) (hv : BytesAt w w.heap.size (.slice A x.length cx) x) :
    Calls Try.prog 6 #[.int .u8 c, .int .u8 n, .slice A x.length cx] w fun e w' => e = .returned (.bool true) ∧ Below w.heap.size w w' := by
  have hm : x.length ≤ 9223372036854775807 := by
    obtain ⟨A', c', hv1, hc, hm', _⟩ := hv
    unfold maxLen at hm'
    omega
  clear hv
  generalize x.length = m at *
  have h3 : (40 : Int) < (m : Int) := by omega
  clear h2
  go_enter Try.func6, Try.ntmps6
  go_wp2_with fail
  refine (known3_any w).mono ?_
  rintro e w1 ⟨rfl, hb1⟩
  go_wp2_with fail
  go_ret
  exact ⟨rfl, hb1⟩
theorem heads_all (c n : Nat) (A : Option Addr) (cx : Nat) (x : List UInt8) (w : World) (hc : c < 256) (hn : n < 256) (hv : BytesAt w w.heap.size (.slice A x.length cx) x) (hz : A = none → cx = 0) :
    Calls Try.prog 6 #[.int .u8 (c : Int), .int .u8 (n : Int), .slice A x.length cx] w fun e w' => e = .returned (.bool true) ∧ Below w.heap.size w w' := by
  by_cases h : x.length ≤ 40
  · refine heads_walk (UInt8.ofNat c) (UInt8.ofNat n) (UInt8.ofNat x.length) (UInt8.ofNat (n % 128)) c n A cx x w ?_ ?_ ?_ ?_ h hv hz <;> rw [UInt8.toNat_ofNat'] <;> omega
  · exact heads_long c n A cx x w h hv
end Go.Proofs.Ytghcgdjpmgmaaaa
