/- Reading: wire.Read comes to rdP, whatever the bytes are. -/
import Derived.Test.YtkeocnobninaaaaZWRead2
import Derived.Test.YtkeocnobninaaaaZWPut
import Derived.Test.YtkeocnobninaaaaZConR
namespace Go.Proofs.Ytkeocnobninaaaa
open Go.RowKit Go.Lib

theorem wread_any (A : Option Addr) (cap : Nat) (b : List UInt8) (w : World) (hv : BytesAt w w.heap.size (.slice A b.length cap) b) (hm : b.length ≤ 1000000) :
    Calls Try.prog 23 #[.slice A b.length cap] w (RdPost w (rdP b)) := by
  rcases b with _ | ⟨c, r⟩
  · exact wread_bad A cap [] w.heap.size w (Nat.le_refl _) hv hm 0 0 20 rfl (by decide)
  · by_cases hz : (bndP (c :: r)).2.2 ≠ 0
    · have e : rdP (c :: r) = (pk0, 0, (bndP (c :: r)).2.2) := by simp only [rdP]; rw [if_pos hz]
      rw [e]
      exact wread_bad A cap (c :: r) w.heap.size w (Nat.le_refl _) hv hm _ _ _ rfl hz
    · have e := fun h => (show rdP (c :: r) = _ from if_neg (c := (bndP (c :: r)).2.2 ≠ 0) h) 
      rw [e hz]
      simp only [ne_eq, Decidable.not_not] at hz
      obtain ⟨h1, h2, h3, h4, h5, h6, _⟩ := bnd_ok c r hz
      rcases A with _ | ad
      · obtain ⟨A', c', hv1, hc, hm', hn, _⟩ := hv
        injection hv1 with v1 v2 v3
        have := hn v1.symm
        cases this
      have z0 : w.cell? ad = some (.int .u8 (c.toNat : Int)) := cell_zero hv
      have hc := c.toNat_lt
      obtain ⟨k0, k1⟩ := beg_head (c.toNat : Int) (by omega) (by omega) h1
      generalize hx : (bndP (c :: r)).1 = x at *
      generalize hy : (bndP (c :: r)).2.1 = y at *
      have hT : bndP (c :: r) = (((x.toNat : Nat) : Int), ((y.toNat : Nat) : Int), 0) := by
        rw [Int.toNat_of_nonneg (by omega), Int.toNat_of_nonneg (by omega), ← hx, ← hy, ← hz]
      refine wread_in ad cap (c :: r) c.toNat w hv hm z0 (by omega) (by omega) k0 k1 x.toNat y.toNat (by omega) (by omega) (by simp) hT _ rfl _ ?_
      rw [Int.toNat_of_nonneg (by omega : 0 ≤ y)]
end Go.Proofs.Ytkeocnobninaaaa

/- Plain facts on lengths' bytes: they come back, what is cut is short, longer is not less. -/
namespace Go.Proofs.Ytkeocnobninaaaa
open Go.RowKit Go.Lib

theorem byte_of (b : Int) (h : 0 ≤ b) (h1 : b ≤ 255) : (((UInt8.ofNat b.toNat).toNat : Nat) : Int) = b := by
  rw [UInt8.toNat_ofNat']
  omega
theorem putL_1 {n : Int} (h : 0 ≤ n) (h1 : n ≤ 127) : putL n = [UInt8.ofNat n.toNat] := by unfold putL; rw [put_1 h h1]; rfl
theorem putL_2 {n : Int} (h : 128 ≤ n) (h1 : n ≤ 16383) : putL n = [UInt8.ofNat (n % 128 + 128).toNat, UInt8.ofNat (n / 128).toNat] := by unfold putL; rw [put_2 h h1]; rfl
theorem putL_3 {n : Int} (h : 16384 ≤ n) (h1 : n ≤ 2097151) : putL n = [UInt8.ofNat (n % 128 + 128).toNat, UInt8.ofNat (n / 128 % 128 + 128).toNat, UInt8.ofNat (n / 16384).toNat] := by unfold putL; rw [put_3 h h1]; rfl
theorem putL_4 {n : Int} (h : 2097152 ≤ n) (h1 : n ≤ 268435455) : putL n = [UInt8.ofNat (n % 128 + 128).toNat, UInt8.ofNat (n / 128 % 128 + 128).toNat, UInt8.ofNat (n / 16384 % 128 + 128).toNat, UInt8.ofNat (n / 2097152).toNat] := by unfold putL; rw [put_4 h h1]; rfl

theorem read_last (i : Nat) (n v x : Int) (m : List UInt8) (h : 0 ≤ v) (h1 : v ≤ 127) (hx : n + v * 128 ^ i = x) (hs : sizeI x = (i : Int) + 1) : readAt i n (UInt8.ofNat v.toNat :: m) = (x, (i : Int) + 1, 0) := by
  have e := byte_of v h (by omega)
  rw [readAt_end (by omega), e, hx]
  exact if_pos hs
theorem read_next (i : Nat) (n v : Int) (m : List UInt8) (h : 128 ≤ v) (h1 : v ≤ 255) (hi : i ≠ 3) : readAt i n (UInt8.ofNat v.toNat :: m) = readAt (i + 1) (n + (v - 128) * 128 ^ i) m := by
  have e := byte_of v (by omega) h1
  rw [readAt_more (by omega) hi, e]
  congr 3
  omega

theorem back_T (x : Int) (h : 0 ≤ x) (h1 : x ≤ 268435455) (m : List UInt8) : readT (putL x ++ m) = (x, ((putL x).length : Int), 0) := by
  by_cases q1 : x ≤ 127
  · rw [putL_1 h q1]
    exact read_last 0 0 x x m h q1 (by omega) (size_1 h q1)
  by_cases q2 : x ≤ 16383
  · rw [putL_2 (by omega) q2]
    refine (read_next 0 0 _ _ (by omega) (by omega) (by decide)).trans ?_
    exact read_last 1 _ _ x m (by omega) (by omega) (by omega) (size_2 (by omega) q2)
  by_cases q3 : x ≤ 2097151
  · rw [putL_3 (by omega) q3]
    refine (read_next 0 0 _ _ (by omega) (by omega) (by decide)).trans ?_
    refine (read_next 1 _ _ _ (by omega) (by omega) (by decide)).trans ?_
    exact read_last 2 _ _ x m (by omega) (by omega) (by omega) (size_3 (by omega) q3)
  · rw [putL_4 (by omega) h1]
    refine (read_next 0 0 _ _ (by omega) (by omega) (by decide)).trans ?_
    refine (read_next 1 _ _ _ (by omega) (by omega) (by decide)).trans ?_
    refine (read_next 2 _ _ _ (by omega) (by omega) (by decide)).trans ?_
    exact read_last 3 _ _ x m (by omega) (by omega) (by omega) (size_4 (by omega) h1)

theorem short_all : ∀ (l : List UInt8) (i : Nat) (n : Int), (∀ c ∈ l, ¬ c.toNat ≤ 127) → i + l.length ≤ 3 → readAt i n l = (0, 0, 20)
  | [], _, _, _, _ => by unfold readAt; rfl
  | c :: r, i, n, h, hi => by
    rw [List.length_cons] at hi
    rw [readAt_more (h c (by simp)) (by omega)]
    exact short_all r (i + 1) _ (fun d hd => h d (by simp [hd])) (by omega)

theorem more_not (v : Int) (h : 128 ≤ v) (h1 : v ≤ 255) : ¬ (UInt8.ofNat v.toNat).toNat ≤ 127 := by
  have := byte_of v (by omega) h1
  omega
theorem short_T (x : Int) (h : 0 ≤ x) (h1 : x ≤ 268435455) (i : Nat) (hi : i < (putL x).length) : readT ((putL x).take i) = (0, 0, 20) := by
  have hle := putL_len x
  refine short_all _ 0 0 (fun c hc => ?_) (by rw [List.length_take]; omega)
  have hsub : c ∈ (putL x).take ((putL x).length - 1) := List.mem_of_mem_take (i := i) (by rw [List.take_take, Nat.min_eq_left (by omega)]; exact hc)
  clear hc hi
  by_cases q1 : x ≤ 127
  · rw [putL_1 h q1] at hsub
    simp at hsub
  by_cases q2 : x ≤ 16383
  · rw [putL_2 (by omega) q2] at hsub
    simp at hsub
    rw [hsub]
    exact more_not _ (by omega) (by omega)
  by_cases q3 : x ≤ 2097151
  · rw [putL_3 (by omega) q3] at hsub
    simp at hsub
    rcases hsub with e | e <;> rw [e] <;> exact more_not _ (by omega) (by omega)
  · rw [putL_4 (by omega) h1] at hsub
    simp at hsub
    rcases hsub with e | e | e <;> rw [e] <;> exact more_not _ (by omega) (by omega)

theorem putL_size (x : Int) (h : 0 ≤ x) (h1 : x ≤ 268435455) : ((putL x).length : Int) = sizeI x := by
  by_cases q1 : x ≤ 127
  · rw [putL_1 h q1, size_1 h q1]; rfl
  by_cases q2 : x ≤ 16383
  · rw [putL_2 (by omega) q2, size_2 (by omega) q2]; rfl
  by_cases q3 : x ≤ 2097151
  · rw [putL_3 (by omega) q3, size_3 (by omega) q3]; rfl
  · rw [putL_4 (by omega) h1, size_4 (by omega) h1]; rfl
theorem size_pos (x : Int) (h : 0 ≤ x) (h1 : x ≤ 268435455) : 1 ≤ sizeI x ∧ sizeI x ≤ 4 := by
  unfold sizeI
  repeat' split
  all_goals omega
theorem size_mono (x y : Int) (h : 0 ≤ x) (hxy : x ≤ y) (h1 : y ≤ 268435455) : sizeI x ≤ sizeI y := by
  unfold sizeI
  repeat' split
  all_goals omega
theorem putL_inj (x y : Int) (h : 0 ≤ x) (h1 : x ≤ 268435455) (k : 0 ≤ y) (k1 : y ≤ 268435455) (e : putL x = putL y) : x = y := by
  have a := back_T x h h1 []
  have b := back_T y k k1 []
  rw [e, b] at a
  exact (Prod.mk.inj a).1.symm
end Go.Proofs.Ytkeocnobninaaaa

/- Reading, plainly: a right packet's bytes, with whatever behind them, are read as that packet. -/
namespace Go.Proofs.Ytkeocnobninaaaa
open Go.RowKit Go.Lib
set_option linter.unusedVariables false

theorem beg_right (p : Pk) (f : RF p) (hd : p.qos = 0 → p.dup = false) (h3 : (p.kind == 3) = true) : begP (headP p) = true := by
  have hk : p.kind = 3 := by simpa using h3
  have e : headP p = 48 + (flagI p.dup 8 + p.qos * 2 + flagI p.ret 1) := by unfold headP; rw [if_pos h3, hk]; omega
  obtain ⟨q0, q1⟩ := f.qos
  have e1 : headP p / 16 = 3 := by
    rw [e]
    obtain ⟨a1, b1⟩ := flagI_in p.dup 8 (by omega)
    obtain ⟨a2, b2⟩ := flagI_in p.ret 1 (by omega)
    omega
  have e2 : headP p / 2 % 4 = p.qos := by rw [e]; cases p.dup <;> cases p.ret <;> simp [flagI] <;> omega
  have e3 : headP p / 8 % 2 = if p.dup then 1 else 0 := by rw [e]; cases p.dup <;> cases p.ret <;> simp [flagI] <;> omega
  unfold begP
  rw [e1, e2, e3]
  simp only [beq_self_eq_true, if_true, Bool.and_eq_true, inI_iff]
  refine ⟨⟨q0, q1⟩, ?_⟩
  by_cases q : p.qos = 0
  · rw [hd q]; simp
  · simp; left; omega
theorem beg_other (p : Pk) (f : RF p) (h3 : (p.kind == 3) = false) : begP (headP p) = true := by
  have e1 := hd_kind p f
  unfold begP
  rw [e1, h3]
  simp only [Bool.false_eq_true, if_false, Bool.and_eq_true, inI_iff]
  refine ⟨f.kind, ?_⟩
  unfold headP
  simp only [h3, Bool.false_eq_true, if_false, beq_self_eq_true]
theorem right_dup (p : Pk) (h : rightP p = true) (h3 : (p.kind == 3) = true) (hq : p.qos = 0) : p.dup = false := by
  have hk : p.kind = 3 := by simpa using h3
  simp only [rightP, Bool.and_eq_true, decide_eq_true_iff] at h
  obtain ⟨_, h⟩ := h
  have k1 : (p.kind == 1) = false := by simp [hk]
  have k2 : (p.kind == 2) = false := by simp [hk]
  simp [fitsP, k1, k2, h3, pfitsP, hq] at h
  exact h.2
theorem beg_of (p : Pk) (h : rightP p = true) : begP (headP p) = true := by
  have f := right_f p h
  rcases h3 : (p.kind == 3) with _ | _
  · exact beg_other p f h3
  · exact beg_right p f (right_dup p h h3) h3
theorem par_right (p : Pk) (h : rightP p = true) : parR (headP p) (bodyL p) = p := by
  rcases k1 : (p.kind == 1) with _ | _
  · exact par_enc p h k1
  · exact par_enc1 p h k1

theorem bnd_enc (p : Pk) (h : rightP p = true) (r : List UInt8) : bndP (encP p ++ r) = (1 + ((putL (lenP p)).length : Int), 1 + ((putL (lenP p)).length : Int) + lenP p, 0) := by
  have f := right_f p h
  obtain ⟨g1, g2⟩ := f.len
  obtain ⟨g3, g4⟩ := head_in p f
  have e : encP p ++ r = UInt8.ofNat (headP p).toNat :: (putL (lenP p) ++ (bodyL p ++ r)) := by unfold encP; simp [List.append_assoc]
  have hc : ((UInt8.ofNat (headP p).toNat).toNat : Int) = headP p := byte_of _ g3 g4
  have hb := body_len p
  rw [e]
  simp only [bndP]
  rw [hc, beg_of p h, back_T (lenP p) g1 (by omega)]
  simp only [Bool.true_eq_false, if_false, ne_eq, not_true_eq_false]
  rw [if_neg (by omega), if_neg]
  simp only [List.length_cons, List.length_append]
  omega
theorem enc_len (p : Pk) : ((encP p).length : Int) = 1 + (putL (lenP p)).length + lenP p := by
  have hb := body_len p
  unfold encP
  simp only [List.length_append, List.length_cons, List.length_nil]
  omega
theorem rd_enc (p : Pk) (h : rightP p = true) (r : List UInt8) : rdP (encP p ++ r) = (p, ((encP p).length : Int), 0) := by
  have f := right_f p h
  obtain ⟨g1, g2⟩ := f.len
  obtain ⟨g3, g4⟩ := head_in p f
  have hbn := bnd_enc p h r
  have hl := enc_len p
  have e : encP p ++ r = UInt8.ofNat (headP p).toNat :: (putL (lenP p) ++ (bodyL p ++ r)) := by unfold encP; simp [List.append_assoc]
  have hc : ((UInt8.ofNat (headP p).toNat).toNat : Int) = headP p := byte_of _ g3 g4
  have ht : (encP p ++ r).take (1 + ((putL (lenP p)).length : Int) + lenP p).toNat = encP p := by
    rw [← hl, Int.toNat_natCast]; exact List.take_left
  have hd : (encP p).drop (1 + ((putL (lenP p)).length : Int)).toNat = bodyL p := by
    have e1 : encP p = (UInt8.ofNat (headP p).toNat :: putL (lenP p)) ++ bodyL p := by unfold encP; simp
    rw [e1]
    have e2 : (1 + ((putL (lenP p)).length : Int)).toNat = (UInt8.ofNat (headP p).toNat :: putL (lenP p)).length := by simp only [List.length_cons]; omega
    rw [e2]; exact List.drop_left
  rw [e] at hbn ht ⊢
  simp only [rdP]
  rw [hbn, ht, hd, hc, par_right p h, h]
  simp only [ne_eq, not_true_eq_false, if_false, decide_true, Bool.and_self, if_true, ← hl]
theorem enc_inj (p q : Pk) (hp : rightP p = true) (hq : rightP q = true) (h : encP p = encP q) : p = q := by
  have h1 := rd_enc p hp []
  have h2 := rd_enc q hq []
  rw [h] at h1
  rw [h1] at h2
  injection h2
end Go.Proofs.Ytkeocnobninaaaa

/- The laws' first test: hubbublaw3.known says yes. -/
namespace Go.Proofs.Ytkeocnobninaaaa
open Go.RowKit Go.Lib
set_option linter.unusedVariables false

theorem plain_right (k : Int) (h : k = 12 ∨ k = 13 ∨ k = 14) : rightP { pk0 with kind := k } = true := by
  rcases h with rfl | rfl | rfl <;> decide +kernel
theorem ping_enc : encP { pk0 with kind := 12 } = [192, 0] := by decide +kernel
theorem rd_a : rdP [208, 0, 7] = ({ pk0 with kind := 13 }, 2, 0) := by
  have h := rd_enc { pk0 with kind := 13 } (plain_right 13 (by omega)) [7]
  have e : encP { pk0 with kind := 13 } = [208, 0] := by decide +kernel
  rw [e] at h
  exact h
theorem rd_b : rdP [192, 1, 7] = (pk0, 0, 21) := by decide +kernel
theorem rd_c : rdP [48, 5] = (pk0, 0, 20) := by decide +kernel
theorem right_0 : rightP pk0 = false := by decide +kernel

theorem plain_okk (k : Int) (h0 : 0 ≤ k) (h1 : k ≤ 15) : PkOk { pk0 with kind := k } := by
  have z : i64In 0 := ⟨by decide, by decide⟩
  have e0 : ByteArray.empty.size ≤ 1000000 := by decide
  exact ⟨⟨by simp only; omega, by simp only; omega⟩, z, z, z, z, z, z, e0, Nat.zero_le _, e0, e0, Nat.zero_le _, e0, Nat.zero_le _, Nat.zero_le _, Nat.zero_le _, fun x hx => by simp [pk0] at hx, fun x hx => by simp [pk0] at hx⟩
theorem plain_att (k : Int) (w : World) (B : Nat) : PkAt w B { pk0 with kind := k } sv0 := ⟨bytes_nil _ _, bytes_nil _ _, bytes_nil _ _, subs_nil _ _, ints_nil _ _⟩
theorem new_bytes (w : World) (g : Nat) (hg : w.heap.size = g) (l : List UInt8) (C : Array Value) (n : Nat) (hn : n = l.length) (hC : C = (l.map fun b => Value.int .u8 (b.toNat : Int)).toArray) (hm : l.length ≤ 1000) :
    BytesAt (w.alloc (.cells C 5)) (w.alloc (.cells C 5)).heap.size (.slice (some ⟨g, 0, none⟩) l.length n) l := by
  subst hn hg
  have h := bytesAt_new w l C (0, 0) hC (by unfold maxLen; omega)
  have e : (w.alloc (.cells C 5)).heap.size = w.heap.size + 1 := by simp
  rw [e]; exact h

set_option maxRecDepth 100000 in
set_option maxHeartbeats 8000000 in
theorem known3_any (w : World) : Calls Try.prog 13 #[] w fun e w' => e = .returned (.bool true) ∧ Below w.heap.size w w' := by
  go_enter Try.func13, Try.ntmps13
  go_wp2_with fail
  refine (wput_yes { pk0 with kind := 12 } sv0 w.heap.size w (plain_att 12 _ _) (Nat.le_refl _) (plain_okk 12 (by omega) (by omega)) ⟨fun _ => rfl, fun _ => rfl, fun _ => rfl⟩ (plain_right 12 (by omega))).mono ?_
  rw [ping_enc]
  unfold PutPost
  rintro e w1 ⟨A1, c1, rfl, o1, hb1⟩
  have B1 := ownsBytes o1
  go_wp2_with fail
  refine (wread_any (some ⟨w1.heap.size, 0, none⟩) 3 [208, 0, 7] _ (new_bytes _ (w1.heap.size) (by simp) [208, 0, 7] _ 3 rfl (by rfl) (by decide)) (by decide)).mono ?_
  rw [rd_a]
  rintro e w2 ⟨s2, rfl, o2, hb2⟩
  clear o2
  have bl2 : Below w1.heap.size w1 w2 := thn ((Below.refl _ _).alloc (Nat.le_refl _) _) hb2
  have H2 := Lib.hid bl2
  clear hb2 bl2
  go_wp2_with ((with_reducible show wpList _ _ _ ({ dst := _, op := Op.store 28 (Operand.tmp 3) _, type := _, pos := _, after := _, guard := _ } :: _) _ _); refine stLst (w2.heap.size) (by rfl) _ (pkC { pk0 with kind := 13 } s2) (by rfl) (by rfl) (by rfl) (by rfl) (pkc_one _ _) ?_)
  refine (wread_any (some ⟨w2.heap.size + 1, 0, none⟩) 3 [192, 1, 7] _ (new_bytes _ (w2.heap.size + 1) (by simp) [192, 1, 7] _ 3 rfl (by rfl) (by decide)) (by decide)).mono ?_
  rw [rd_b]
  rintro e w3 ⟨s3, rfl, o3, hb3⟩
  clear o3
  have bl3 : Below (w2.alloc (.cells (pkC { pk0 with kind := 13 } s2) 28)).heap.size (w2.alloc (.cells (pkC { pk0 with kind := 13 } s2) 28)) w3 := thn ((Below.refl _ _).alloc (Nat.le_refl _) _) hb3
  have r3 := heap_below bl3 (heap_alloc_last _ _)
  have H3 := Lib.hid bl3
  clear hb3 bl3
  go_wp2_with ((with_reducible show wpList _ _ _ ({ dst := _, op := Op.store 28 (Operand.tmp 6) _, type := _, pos := _, after := _, guard := _ } :: _) _ _); refine stLst (w3.heap.size) (by rfl) _ (pkC pk0 s3) (by rfl) (by rfl) (by rfl) (by rfl) (pkc_one _ _) ?_)
  refine (wread_any (some ⟨w3.heap.size + 1, 0, none⟩) 2 [48, 5] _ (new_bytes _ (w3.heap.size + 1) (by simp) [48, 5] _ 2 rfl (by rfl) (by decide)) (by decide)).mono ?_
  rw [rd_c]
  rintro e w4 ⟨s4, rfl, o4, hb4⟩
  clear o4
  have bl4 : Below (w3.alloc (.cells (pkC pk0 s3) 28)).heap.size (w3.alloc (.cells (pkC pk0 s3) 28)) w4 := thn ((Below.refl _ _).alloc (Nat.le_refl _) _) hb4
  have r4 := heap_below bl4 (heap_keep r3)
  have r5 := heap_keep (o' := .cells (pkC pk0 s4) 28) r4
  have c5 := row_cells r5
  have bl5 : Below w.heap.size w w4 := thn hb1 (thn H2.out (thn (alB (Below.refl _ _) _) (thn H3.out (thn (alB (Below.refl _ _) _) bl4))))
  have cv : (convert 22 9 (.slice A1 2 c1)).run Try.prog (w4.alloc (.cells (pkC pk0 s4) 28)) = .ok (.string ⟨#[192, 0]⟩) (w4.alloc (.cells (pkC pk0 s4) 28)) :=
    (B1.to (Nat.le_refl _) (alB (thn H2.out (thn (alB (Below.refl _ _) _) (thn H3.out (thn (alB (Below.refl _ _) _) bl4)))) _)).conv
  have H5 := Lib.hid bl5
  clear bl5 bl4 hb4 B1 o1 hb1 r3 r4 r5 H2 H3
  go_wp2_with (first
    | ((with_reducible show wpList _ _ _ ({ dst := _, op := Op.store 28 (Operand.tmp 9) _, type := _, pos := _, after := _, guard := _ } :: _) _ _); refine stLst (w4.heap.size) (by rfl) _ (pkC pk0 s4) (by rfl) (by rfl) (by rfl) (by rfl) (pkc_one _ _) ?_)
    | (go_at_call 19; refine (right_any pk0 sv0 w.heap.size _ (pk0_at _ _) (by have := H5.out.size; simp; omega) (plain_okk 0 (by omega) (by omega))).mono ?_; rintro e w' ⟨rfl, hb⟩; obtain ⟨hc, hf⟩ := bcell hb; have hz : w4.heap.size < w'.heap.size := (by have := hb.size; (try simp at this); omega)))
  go_ret
  exact ⟨ret_bool (by rw [right_0]; rfl), thn H5.out (thn (alB (Below.refl _ _) _) hb)⟩
end Go.Proofs.Ytkeocnobninaaaa
