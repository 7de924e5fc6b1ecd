/- The document's way to read a body: a right packet's bytes are read as it; what is read is of small numbers. -/
import Derived.Test.YtghcgdjpmgmaaaaDPart
import Derived.Test.YtghcgdjpmgmaaaaGConn
namespace Go.Proofs.Ytghcgdjpmgmaaaa
open Go.RowKit Go.Lib
set_option linter.unusedVariables false
set_option linter.unusedSimpArgs false

theorem hd3_f (p : Pk) (f : RF p) (k : (p.kind == 3) = true) : (headP p / 8 % 2 == 1) = p.dup ∧ headP p / 2 % 4 = p.qos ∧ (headP p % 2 == 1) = p.ret := by
  have h := hd_3 p f k
  unfold hdP at h
  rw [hd_kind p f, if_pos k] at h
  exact ⟨congrArg Pk.dup h, congrArg Pk.qos h, congrArg Pk.ret h⟩

theorem flag_back (b : Bool) : (flagI b 1 == 1) = b := by cases b <;> rfl

theorem doc_enc (p : Pk) (h : rightP p = true) (hk : (p.kind == 1) = false) : parD (headP p) (bodyL p, false) = (p, ([], false)) := by
  have f := right_f p h
  simp only [rightP, Bool.and_eq_true, decide_eq_true_iff] at h
  obtain ⟨⟨h1, h2⟩, h3⟩ := h
  obtain ⟨i0, i1⟩ := f.id
  obtain ⟨c0, c1⟩ := f.code
  have ft := f.top
  have hs := f.sub
  have hc := f.cod
  have HK := hd_kind p f
  have one : nmD 2 (pairL p.id, false) = (p.id, ([], false)) := nm_pair0 _ i0 i1
  rcases kf p.kind with ⟨k1, k2, k3, k4, k5, k6, k7, k8, k9, k10, k11, k12, k13, k14⟩ | ⟨k1, k2, k3, k4, k5, k6, k7, k8, k9, k10, k11, k12, k13, k14⟩ | ⟨k1, k2, k3, k4, k5, k6, k7, k8, k9, k10, k11, k12, k13, k14⟩ | ⟨k1, k2, k3, k4, k5, k6, k7, k8, k9, k10, k11, k12, k13, k14⟩ | ⟨k1, k2, k3, k4, k5, k6, k7, k8, k9, k10, k11, k12, k13, k14⟩ | ⟨k1, k2, k3, k4, k5, k6, k7, k8, k9, k10, k11, k12, k13, k14⟩ | ⟨k1, k2, k3, k4, k5, k6, k7, k8, k9, k10, k11, k12, k13, k14⟩ | ⟨k1, k2, k3, k4, k5, k6, k7, k8, k9, k10, k11, k12, k13, k14⟩ | ⟨k1, k2, k3, k4, k5, k6, k7, k8, k9, k10, k11, k12, k13, k14⟩ | ⟨k1, k2, k3, k4, k5, k6, k7, k8, k9, k10, k11, k12, k13, k14⟩ | ⟨k1, k2, k3, k4, k5, k6, k7, k8, k9, k10, k11, k12, k13, k14⟩ | ⟨k1, k2, k3, k4, k5, k6, k7, k8, k9, k10, k11, k12, k13, k14⟩ | ⟨k1, k2, k3, k4, k5, k6, k7, k8, k9, k10, k11, k12, k13, k14⟩ | ⟨k1, k2, k3, k4, k5, k6, k7, k8, k9, k10, k11, k12, k13, k14⟩ | ⟨k1, k2, k3, k4, k5, k6, k7, k8, k9, k10, k11, k12, k13, k14⟩
  · rw [k1] at hk; cases hk
  · have hf := flagI_in p.pres 1 (by omega)
    have e1 : nmD 1 ([UInt8.ofNat (flagI p.pres 1).toNat, UInt8.ofNat p.code.toNat], false) = (flagI p.pres 1, ([UInt8.ofNat p.code.toNat], false)) := nm_one _ _ hf.1 (by omega)
    have e2 : nmD 1 ([UInt8.ofNat p.code.toNat], false) = (p.code, ([], false)) := nm_one _ _ c0 (by omega)
    have e : parD (headP p) (bodyL p, false) = ({ pk0 with kind := p.kind, pres := p.pres, code := p.code }, ([], false)) := by
      simp only [parD, HK, bodyL, k1, k2, if_true, if_false, Bool.false_eq_true, e1, e2, flag_back]
    rw [e]
    conv => rhs; rw [h1]
    simp [wrP, k1, k2]
  · obtain ⟨d1, d2, d3⟩ := hd3_f p f k3
    have g1 := lp_text p.top ((if p.qos == 0 then [] else pairL p.id) ++ p.pay) ft
    have e : parD (headP p) (bodyL p, false) = ({ pk0 with kind := p.kind, dup := p.dup, qos := p.qos, ret := p.ret, top := p.top, id := if p.qos == 0 then 0 else p.id, pay := p.pay }, ([], false)) := by
      simp only [parD, HK, bodyL, k1, k2, k3, pubL, if_true, if_false, Bool.false_eq_true, d1, d2, d3, g1, bytesOf_list]
      obtain ⟨q0, q1⟩ := f.qos
      rcases q : (p.qos == 0) with _ | _
      · have q' : 0 < p.qos := by
          have : p.qos ≠ 0 := by simpa using q
          omega
        simp only [Bool.false_eq_true, if_false, if_pos q', nm_pair _ _ i0 i1]
        rw [tkD_ok _ _ (Nat.le_refl _)]
        simp
      · have q' : ¬ 0 < p.qos := by
          have : p.qos = 0 := by simpa using q
          omega
        simp only [if_true, if_neg q', List.nil_append]
        rw [tkD_ok _ _ (Nat.le_refl _)]
        simp
    rw [e]
    conv => rhs; rw [h1]
    cases q : (p.qos == 0) <;> simp [wrP, k1, k2, k3, q]
  · conv => rhs; rw [h1]
    simp only [parD, HK, bodyL, k1, k2, k3, k4, k8, k9, k10, k12, k13, k14, wrP, if_true, if_false, Bool.false_eq_true, Bool.or_self, Bool.or_true, Bool.true_or, Bool.or_false, Bool.false_or, one]
  · conv => rhs; rw [h1]
    simp only [parD, HK, bodyL, k1, k2, k3, k4, k5, k8, k9, k10, k12, k13, k14, wrP, if_true, if_false, Bool.false_eq_true, Bool.or_self, Bool.or_true, Bool.true_or, Bool.or_false, Bool.false_or, one]
  · conv => rhs; rw [h1]
    simp only [parD, HK, bodyL, k1, k2, k3, k4, k5, k6, k8, k9, k10, k12, k13, k14, wrP, if_true, if_false, Bool.false_eq_true, Bool.or_self, Bool.or_true, Bool.true_or, Bool.or_false, Bool.false_or, one]
  · conv => rhs; rw [h1]
    simp only [parD, HK, bodyL, k1, k2, k3, k4, k5, k6, k7, k8, k9, k10, k12, k13, k14, wrP, if_true, if_false, Bool.false_eq_true, Bool.or_self, Bool.or_true, Bool.true_or, Bool.or_false, Bool.false_or, one]
  · have e := subsD_enc true p.subs hs
    simp at e
    conv => rhs; rw [h1]
    simp only [parD, HK, bodyL, k1, k2, k3, k4, k5, k6, k7, k8, k9, k10, k11, k12, k13, k14, wrP, if_true, if_false, Bool.false_eq_true, Bool.or_self, Bool.or_true, Bool.true_or, Bool.or_false, Bool.false_or, nm_pair _ _ i0 i1, e]
  · have e := codesR_enc p.codes hc
    conv => rhs; rw [h1]
    simp only [parD, HK, bodyL, k1, k2, k3, k4, k5, k6, k7, k8, k9, k10, k11, k12, k13, k14, wrP, if_true, if_false, Bool.false_eq_true, Bool.or_self, Bool.or_true, Bool.true_or, Bool.or_false, Bool.false_or, nm_pair _ _ i0 i1, e]
  · have h4 : sfitsP 0 p.subs = true := by simp [fitsP, k1, k2, k3, k4, k5, k6, k7, k11, k8, k10] at h3; exact h3.2.1
    have e := subsD_enc false p.subs hs
    simp only [Bool.false_eq_true, if_false] at e
    rw [subs_map0 _ (fun x hx => by obtain ⟨_, q1, q2⟩ := sfits_mem h4 x hx; omega)] at e
    conv => rhs; rw [h1]
    simp only [parD, HK, bodyL, k1, k2, k3, k4, k5, k6, k7, k8, k9, k10, k11, k12, k13, k14, wrP, if_true, if_false, Bool.false_eq_true, Bool.or_self, Bool.or_true, Bool.true_or, Bool.or_false, Bool.false_or, nm_pair _ _ i0 i1, e]
  · conv => rhs; rw [h1]
    simp only [parD, HK, bodyL, k1, k2, k3, k4, k5, k6, k7, k11, k8, k9, k10, k12, k13, k14, wrP, if_true, if_false, Bool.false_eq_true, Bool.or_self, Bool.or_true, Bool.true_or, Bool.or_false, Bool.false_or, one]
  · conv => rhs; rw [h1]
    simp only [parD, HK, bodyL, k1, k2, k3, k4, k5, k6, k7, k11, k8, k9, k10, k12, k13, k14, wrP, if_true, if_false, Bool.false_eq_true, Bool.or_self, Bool.or_true, Bool.true_or, Bool.or_false, Bool.false_or]
  · conv => rhs; rw [h1]
    simp only [parD, HK, bodyL, k1, k2, k3, k4, k5, k6, k7, k11, k8, k9, k10, k12, k13, k14, wrP, if_true, if_false, Bool.false_eq_true, Bool.or_self, Bool.or_true, Bool.true_or, Bool.or_false, Bool.false_or]
  · conv => rhs; rw [h1]
    simp only [parD, HK, bodyL, k1, k2, k3, k4, k5, k6, k7, k11, k8, k9, k10, k12, k13, k14, wrP, if_true, if_false, Bool.false_eq_true, Bool.or_self, Bool.or_true, Bool.true_or, Bool.or_false, Bool.false_or]
  · exfalso
    simp only [fitsP, k1, k2, k3, k4, k5, k6, k7, k8, k9, k10, k11, k12, k13, k14, if_false, Bool.false_eq_true, Bool.or_self] at h3

theorem doc_right (p : Pk) (h : rightP p = true) : parD (headP p) (bodyL p, false) = (p, ([], false)) := by
  rcases k1 : (p.kind == 1) with _ | _
  · exact doc_enc p h k1
  · exact doc_enc1 p h k1

/-! What is read is small. -/
theorem in_i64 {x : Int} (h : 0 ≤ x ∧ x ≤ 65535) : i64In x := by unfold i64In; omega
theorem in_i641 {x : Int} (h : 0 ≤ x ∧ x ≤ 255) : i64In x := by unfold i64In; omega
theorem lpD_sz (s : PS) : (bytesOfL (lpD s).1).size ≤ s.1.length ∧ (lpD s).1.length ≤ s.1.length ∧ (lpD s).2.1.length ≤ s.1.length := by
  have := lpD_le s
  rw [bytesOfL_size]
  omega
def sumSz (l : List (ByteArray × Int)) : Nat := (l.map fun x => x.1.size).sum
theorem subsD_sz (q : Bool) : ∀ (n : Nat) (s : PS), s.1.length ≤ n → 2 * (subsD q s).1.length + sumSz (subsD q s).1 ≤ s.1.length + 2 ∧ ∀ x ∈ (subsD q s).1, x.1.size ≤ s.1.length ∧ 0 ≤ x.2 ∧ x.2 ≤ 255 := by
  intro n
  induction n with
  | zero =>
    intro s hs
    have : s.1 = [] := List.eq_nil_of_length_eq_zero (by omega)
    rw [subsD_end q s (.inr this)]
    exact ⟨by simp [sumSz], by simp⟩
  | succ n ih =>
    intro s hs
    by_cases he : s.2 = true ∨ s.1 = []
    · rw [subsD_end q s he]
      exact ⟨by simp [sumSz], by simp⟩
    have hx : 0 ≤ (if q then nmD 1 (lpD s).2 else ((0 : Int), (lpD s).2)).1 ∧ (if q then nmD 1 (lpD s).2 else ((0 : Int), (lpD s).2)).1 ≤ 255 := by
      cases q
      · exact ⟨by simp, by simp⟩
      · exact nmD_in1 _
    have hle : (if q then nmD 1 (lpD s).2 else ((0 : Int), (lpD s).2)).2.1.length ≤ (lpD s).2.1.length := by
      cases q
      · exact Nat.le_refl _
      · exact nmD_le 1 _
    have hwr : (lpD s).2.2 = true → (if q then nmD 1 (lpD s).2 else ((0 : Int), (lpD s).2)).2.2 = true := fun g => by
      cases q
      · exact g
      · show (nmD 1 (lpD s).2).2.2 = true
        unfold nmD; rw [tkD_was 1 _ g]
    rw [subsD_more q s he]
    obtain ⟨z1, z2, z3⟩ := lpD_sz s
    have hb := bytesOfL_size (lpD s).1
    generalize (if q then nmD 1 (lpD s).2 else ((0 : Int), (lpD s).2)) = y at *
    obtain ⟨y1, S'⟩ := y
    simp only at *
    rcases g : (lpD s).2.2 with _ | _
    · have g2 := lpD_good s g
      obtain ⟨a1, a2⟩ := ih S' (by omega)
      refine ⟨?_, ?_⟩
      · simp only [List.length_cons, sumSz, List.map_cons, List.sum_cons] at *
        omega
      · intro x hx'
        rcases List.mem_cons.1 hx' with rfl | hx'
        · exact ⟨z1, hx⟩
        · obtain ⟨b1, b2⟩ := a2 x hx'
          exact ⟨by omega, b2⟩
    · rw [subsD_end q S' (.inl (hwr g))]
      have g3 := lpD_wrong s g
      refine ⟨?_, ?_⟩
      · rw [g3] at hb ⊢
        simp only [List.length_cons, List.length_nil, sumSz, List.map_cons, List.sum_cons, List.map_nil, List.sum_nil] at *
        omega
      · intro x hx'
        rcases List.mem_cons.1 hx' with rfl | hx'
        · exact ⟨z1, hx⟩
        · cases hx'
theorem subsL_sum (q : Bool) (l : List (ByteArray × Int)) : (subsL q l).length ≤ 3 * l.length + sumSz l := by
  induction l with
  | nil => exact Nat.zero_le _
  | cons x l ih =>
    have e : subsL q (x :: l) = subL q x ++ subsL q l := by unfold subsL; rw [List.flatMap_cons]
    have h1 : (subL q x).length ≤ 3 + x.1.size := by
      unfold subL textL
      cases q <;> simp [pairL, size_list] <;> omega
    rw [e, List.length_append]
    simp only [List.length_cons, sumSz, List.map_cons, List.sum_cons] at *
    omega
end Go.Proofs.Ytghcgdjpmgmaaaa
