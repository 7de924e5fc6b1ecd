/- The document's test of a packet, plainly, comes to the program's. -/
import Derived.Test.YtkeocnobninaaaaRF
import Derived.Test.YtkeocnobninaaaaRef3
import Derived.Test.YtkeocnobninaaaaOnly3
namespace Go.Proofs.Ytkeocnobninaaaa
open Go.RowKit Go.Lib

def refRP (p : Pk) : Bool :=
  inI p.kind 1 14 && decide (p = onP p) && (!numP p || inI p.id 1 65535) && inI p.qos 0 2 && rtxt p.top && rtxt p.cli && rtxt p.user && rtxt p.wtop && inI p.wqos 0 2 && decide (p.wpay.length ≤ 65535) && decide (p.pass.length ≤ 65535) && inI p.level 0 255 && inI p.keep 0 65535 && (!p.hp || p.hu) && inI p.code 0 5 && (!p.pres || p.code == 0) && p.subs.all (fun x => rtxt x.1 && inI x.2 0 2 && !(p.kind == 10 && x.2 != 0)) && cdfitsP p.codes && !((p.kind == 8 || p.kind == 10) && p.subs.length == 0) && !(p.kind == 9 && p.codes.length == 0) && decide (lenP p ≤ 8192)

theorem txt_empty : txt ByteArray.empty = true := by
  unfold txt chkL
  rw [show ByteArray.empty.data.toList = [] from rfl, ps_nil]
  rfl
theorem cdfits_nil : cdfitsP [] = true := rfl
theorem rtxt_of {s : ByteArray} (h : s.size ≤ 65535) : rtxt s = txt s := by unfold rtxt; simp [h]

/-- A packet that the program takes the document takes. -/
theorem ref_of_right (p : Pk) (h : rightP p = true) : refRP p = true := by
  have f := right_f p h
  simp only [rightP, Bool.and_eq_true, decide_eq_true_iff] at h
  obtain ⟨⟨h1, h2⟩, h3⟩ := h
  obtain ⟨f1, f2, f3, f4, f5, f6, f7, f8, f9, f10, f11, f12, f13, f14, f15⟩ := wr_f h1
  have f16 : p.hp = (wrP p).hp := congrArg Pk.hp h1
  have f17 : p.pres = (wrP p).pres := congrArg Pk.pres h1
  have t1 := rtxt_of f.top
  have t2 := rtxt_of f.cli
  have t3 := rtxt_of f.user
  have t4 := rtxt_of f.wtop
  obtain ⟨g1, g2, g3, g4, g5, g6, g7, g8, g9, g10, g11, g12, g13, g14, g15, g16, g17, g18, g19, g20⟩ := f
  have ho : p = onP p := by
    by_cases k : p.kind = 3
    · have k3 : (p.kind == 3) = true := by simpa using k
      have k1 : (p.kind == 1) = false := by simp [k]
      have k2 : (p.kind == 2) = false := by simp [k]
      have e : onP p = wrP p := by
        simp only [fitsP, k1, k2, k3, pfitsP] at h3
        simp only [onP, wrP, k1, k2, k3]
        by_cases q : p.qos = 0
        · have q1 : (p.qos == 0) = true := by simpa using q
          simp [q1] at h3
          simp [q, h3]
        · have q1 : (p.qos == 0) = false := by simpa using q
          have q2 : 0 < p.qos := by omega
          simp [q1, q2]
      rw [e]; exact h1
    · unfold onP; rw [if_neg (by simpa using k)]; exact h1
  have HO := decide_eq_true ho
  unfold refRP
  rw [HO, t1, t2, t3, t4]
  have ts : ∀ x ∈ p.subs, rtxt x.1 = txt x.1 := fun x hx => rtxt_of (g17 x hx).1
  clear h1 ho HO t1 t2 t3 t4
  rcases kf p.kind with ⟨k1, k2, k3, k4, k5, k6, k7, k8, k9, k10, k11, k12, k13, k14⟩ | ⟨k1, k2, k3, k4, k5, k6, k7, k8, k9, k10, k11, k12, k13, k14⟩ | ⟨k1, k2, k3, k4, k5, k6, k7, k8, k9, k10, k11, k12, k13, k14⟩ | ⟨k1, k2, k3, k4, k5, k6, k7, k8, k9, k10, k11, k12, k13, k14⟩ | ⟨k1, k2, k3, k4, k5, k6, k7, k8, k9, k10, k11, k12, k13, k14⟩ | ⟨k1, k2, k3, k4, k5, k6, k7, k8, k9, k10, k11, k12, k13, k14⟩ | ⟨k1, k2, k3, k4, k5, k6, k7, k8, k9, k10, k11, k12, k13, k14⟩ | ⟨k1, k2, k3, k4, k5, k6, k7, k8, k9, k10, k11, k12, k13, k14⟩ | ⟨k1, k2, k3, k4, k5, k6, k7, k8, k9, k10, k11, k12, k13, k14⟩ | ⟨k1, k2, k3, k4, k5, k6, k7, k8, k9, k10, k11, k12, k13, k14⟩ | ⟨k1, k2, k3, k4, k5, k6, k7, k8, k9, k10, k11, k12, k13, k14⟩ | ⟨k1, k2, k3, k4, k5, k6, k7, k8, k9, k10, k11, k12, k13, k14⟩ | ⟨k1, k2, k3, k4, k5, k6, k7, k8, k9, k10, k11, k12, k13, k14⟩ | ⟨k1, k2, k3, k4, k5, k6, k7, k8, k9, k10, k11, k12, k13, k14⟩ | ⟨k1, k2, k3, k4, k5, k6, k7, k8, k9, k10, k11, k12, k13, k14⟩
  · have hk : p.kind = 1 := by simpa using k1
    simp [wrP, k1, pk0] at f1 f2 f3 f4 f5 f6 f7 f8 f9 f10 f11 f12 f13 f14 f15 f16 f17
    simp [fitsP, k1, cfitsP, inI_iff] at h3
    simp [inI_iff, f1, f2, f6, f7, f14, f15, f17, txt_empty, numP, hk, cdfits_nil, h3, g13, h2]
    refine ⟨g15, ?_⟩
    have q := h3.2
    revert q
    cases p.hp <;> cases p.hu <;> simp
  · have hk : p.kind = 2 := by simpa using k2
    simp [wrP, k1, k2, pk0] at f1 f2 f3 f4 f5 f6 f7 f8 f9 f10 f11 f12 f13 f14 f15 f16 f17
    simp [fitsP, k1, k2, inI_iff] at h3
    simp [*, inI_iff, txt_empty, numP, cdfits_nil]
    exact h3.2.symm
  · have hk : p.kind = 3 := by simpa using k3
    simp [wrP, k1, k2, k3, pk0] at f1 f2 f3 f4 f5 f6 f7 f8 f9 f10 f11 f12 f13 f14 f15 f16 f17
    simp [fitsP, k1, k2, k3, pfitsP, inI_iff] at h3
    obtain ⟨⟨q1, q2⟩, q3⟩ := h3
    by_cases q : p.qos = 0
    · simp [*, inI_iff, txt_empty, numP, cdfits_nil]
    · have q4 : 0 < p.qos := by omega
      rw [if_neg q] at q3
      simp [*, inI_iff, txt_empty, numP, cdfits_nil]
  · have hk : p.kind = 4 := by simpa using k4
    simp [wrP, k1, k2, k3, k4, pk0] at f1 f2 f3 f4 f5 f6 f7 f8 f9 f10 f11 f12 f13 f14 f15 f16 f17
    simp [fitsP, k1, k2, k3, k4, inI_iff] at h3
    simp [*, inI_iff, txt_empty, numP, cdfits_nil]
    all_goals (try omega)
  · have hk : p.kind = 5 := by simpa using k5
    simp [wrP, k1, k2, k3, k4, k5, pk0] at f1 f2 f3 f4 f5 f6 f7 f8 f9 f10 f11 f12 f13 f14 f15 f16 f17
    simp [fitsP, k1, k2, k3, k4, k5, inI_iff] at h3
    simp [*, inI_iff, txt_empty, numP, cdfits_nil]
    all_goals (try omega)
  · have hk : p.kind = 6 := by simpa using k6
    simp [wrP, k1, k2, k3, k4, k5, k6, pk0] at f1 f2 f3 f4 f5 f6 f7 f8 f9 f10 f11 f12 f13 f14 f15 f16 f17
    simp [fitsP, k1, k2, k3, k4, k5, k6, inI_iff] at h3
    simp [*, inI_iff, txt_empty, numP, cdfits_nil]
    all_goals (try omega)
  · have hk : p.kind = 7 := by simpa using k7
    simp [wrP, k1, k2, k3, k4, k5, k6, k7, pk0] at f1 f2 f3 f4 f5 f6 f7 f8 f9 f10 f11 f12 f13 f14 f15 f16 f17
    simp [fitsP, k1, k2, k3, k4, k5, k6, k7, inI_iff] at h3
    simp [*, inI_iff, txt_empty, numP, cdfits_nil]
    all_goals (try omega)
  · have hk : p.kind = 8 := by simpa using k8
    simp [wrP, k1, k2, k3, k4, k5, k6, k7, k11, k8, pk0] at f1 f2 f3 f4 f5 f6 f7 f8 f9 f10 f11 f12 f13 f14 f15 f16 f17
    simp [fitsP, k1, k2, k3, k4, k5, k6, k7, k11, k8, inI_iff] at h3
    have hall : (p.subs.all fun x => rtxt x.1 && inI x.2 0 2 && !(p.kind == 10 && x.2 != 0)) = true := List.all_eq_true.2 fun x hx => by
      obtain ⟨m1, m2, m3⟩ := sfits_mem h3.2.1 x hx
      rw [ts x hx, m1]
      simp [inI_iff, hk]
      omega
    rw [hall]
    have hn : ¬ p.subs = [] := by intro e; have := h3.2.2; rw [e] at this; simp at this
    clear ts hall g17 g18
    simp [*, inI_iff, txt_empty, numP, cdfits_nil]
  · have hk : p.kind = 9 := by simpa using k9
    simp [wrP, k1, k2, k3, k4, k5, k6, k7, k11, k8, k10, k9, pk0] at f1 f2 f3 f4 f5 f6 f7 f8 f9 f10 f11 f12 f13 f14 f15 f16 f17
    simp [fitsP, k1, k2, k3, k4, k5, k6, k7, k11, k8, k10, k9, inI_iff] at h3
    have hn : ¬ p.codes = [] := by intro e; have := h3.2.2; rw [e] at this; simp at this
    clear ts g20
    simp [*, inI_iff, txt_empty, numP]
  · have hk : p.kind = 10 := by simpa using k10
    simp [wrP, k1, k2, k3, k4, k5, k6, k7, k11, k8, k10, pk0] at f1 f2 f3 f4 f5 f6 f7 f8 f9 f10 f11 f12 f13 f14 f15 f16 f17
    simp [fitsP, k1, k2, k3, k4, k5, k6, k7, k11, k8, k10, inI_iff] at h3
    have hall : (p.subs.all fun x => rtxt x.1 && inI x.2 0 2 && !(p.kind == 10 && x.2 != 0)) = true := List.all_eq_true.2 fun x hx => by
      obtain ⟨m1, m2, m3⟩ := sfits_mem h3.2.1 x hx
      rw [ts x hx, m1]
      simp [inI_iff, hk]
      omega
    rw [hall]
    have hn : ¬ p.subs = [] := by intro e; have := h3.2.2; rw [e] at this; simp at this
    clear ts hall g17 g18
    simp [*, inI_iff, txt_empty, numP, cdfits_nil]
  · have hk : p.kind = 11 := by simpa using k11
    simp [wrP, k1, k2, k3, k4, k5, k6, k7, k11, pk0] at f1 f2 f3 f4 f5 f6 f7 f8 f9 f10 f11 f12 f13 f14 f15 f16 f17
    simp [fitsP, k1, k2, k3, k4, k5, k6, k7, k11, inI_iff] at h3
    simp [*, inI_iff, txt_empty, numP, cdfits_nil]
    all_goals (try omega)
  · have hk : p.kind = 12 := by simpa using k12
    simp [wrP, k1, k2, k3, k4, k5, k6, k7, k11, k8, k10, k9, pk0] at f1 f2 f3 f4 f5 f6 f7 f8 f9 f10 f11 f12 f13 f14 f15 f16 f17
    clear h3
    simp [*, inI_iff, txt_empty, numP, cdfits_nil]
    all_goals (try omega)
  · have hk : p.kind = 13 := by simpa using k13
    simp [wrP, k1, k2, k3, k4, k5, k6, k7, k11, k8, k10, k9, pk0] at f1 f2 f3 f4 f5 f6 f7 f8 f9 f10 f11 f12 f13 f14 f15 f16 f17
    clear h3
    simp [*, inI_iff, txt_empty, numP, cdfits_nil]
    all_goals (try omega)
  · have hk : p.kind = 14 := by simpa using k14
    simp [wrP, k1, k2, k3, k4, k5, k6, k7, k11, k8, k10, k9, pk0] at f1 f2 f3 f4 f5 f6 f7 f8 f9 f10 f11 f12 f13 f14 f15 f16 f17
    clear h3
    simp [*, inI_iff, txt_empty, numP, cdfits_nil]
    all_goals (try omega)
  · exfalso
    simp at k1 k2 k3 k4 k5 k6 k7 k8 k9 k10 k11 k12 k13 k14
    omega
theorem txt_of {s : ByteArray} (h : rtxt s = true) : txt s = true := by unfold rtxt at h; simp at h; exact h.2

/-- .. and the other way. -/
theorem right_of_ref (p : Pk) (h : refRP p = true) : rightP p = true := by
  simp only [refRP, Bool.and_eq_true, decide_eq_true_iff] at h
  obtain ⟨⟨⟨⟨⟨⟨⟨⟨⟨⟨⟨⟨⟨⟨⟨⟨⟨⟨⟨⟨a1, a2⟩, a3⟩, a4⟩, a5⟩, a6⟩, a7⟩, a8⟩, a9⟩, a10⟩, a11⟩, a12⟩, a13⟩, a14⟩, a15⟩, a16⟩, a17⟩, a18⟩, a19⟩, a20⟩, a21⟩ := h
  replace a5 := txt_of a5
  replace a6 := txt_of a6
  replace a7 := txt_of a7
  replace a8 := txt_of a8
  rw [inI_iff] at a1 a4 a9 a12 a13 a15
  have b1 : p = wrP p := by
    by_cases k : p.kind = 3
    · have k3 : (p.kind == 3) = true := by simpa using k
      have k1 : (p.kind == 1) = false := by simp [k]
      have k2 : (p.kind == 2) = false := by simp [k]
      have hd : p.dup = (onP p).dup := congrArg Pk.dup a2
      have e : onP p = wrP p := by
        simp only [onP, k3] at hd
        simp only [onP, wrP, k1, k2, k3]
        by_cases q : p.qos = 0
        · simp [q] at hd
          simp [q, hd]
        · have q1 : (p.qos == 0) = false := by simpa using q
          have q2 : 0 < p.qos := by omega
          simp [q1, q2]
      rw [← e]; exact a2
    · have e : onP p = wrP p := by unfold onP; rw [if_neg (by simpa using k)]
      rw [← e]; exact a2
  have hd : p.kind = 3 → p.qos = 0 → p.dup = false := fun k q => by
    have hd : p.dup = (onP p).dup := congrArg Pk.dup a2
    have k3 : (p.kind == 3) = true := by simpa using k
    simp only [onP, k3] at hd
    simpa [q] using hd
  have hs : ∀ x ∈ p.subs, txt x.1 = true ∧ 0 ≤ x.2 ∧ x.2 ≤ 2 ∧ (p.kind = 10 → x.2 = 0) := fun x hx => by
    have := List.all_eq_true.1 a17 x hx
    simp only [Bool.and_eq_true, inI_iff, Bool.not_eq_true', Bool.and_eq_false_iff] at this
    obtain ⟨⟨m1, m2⟩, m3⟩ := this
    refine ⟨txt_of m1, m2.1, m2.2, fun k => ?_⟩
    rcases m3 with m | m
    · simp [k] at m
    · simpa using m
  have B1 := decide_eq_true b1
  have B2 := decide_eq_true a21
  unfold rightP
  rw [B1, B2]
  clear a2 b1 B1 B2 a17
  rcases kf p.kind with ⟨k1, k2, k3, k4, k5, k6, k7, k8, k9, k10, k11, k12, k13, k14⟩ | ⟨k1, k2, k3, k4, k5, k6, k7, k8, k9, k10, k11, k12, k13, k14⟩ | ⟨k1, k2, k3, k4, k5, k6, k7, k8, k9, k10, k11, k12, k13, k14⟩ | ⟨k1, k2, k3, k4, k5, k6, k7, k8, k9, k10, k11, k12, k13, k14⟩ | ⟨k1, k2, k3, k4, k5, k6, k7, k8, k9, k10, k11, k12, k13, k14⟩ | ⟨k1, k2, k3, k4, k5, k6, k7, k8, k9, k10, k11, k12, k13, k14⟩ | ⟨k1, k2, k3, k4, k5, k6, k7, k8, k9, k10, k11, k12, k13, k14⟩ | ⟨k1, k2, k3, k4, k5, k6, k7, k8, k9, k10, k11, k12, k13, k14⟩ | ⟨k1, k2, k3, k4, k5, k6, k7, k8, k9, k10, k11, k12, k13, k14⟩ | ⟨k1, k2, k3, k4, k5, k6, k7, k8, k9, k10, k11, k12, k13, k14⟩ | ⟨k1, k2, k3, k4, k5, k6, k7, k8, k9, k10, k11, k12, k13, k14⟩ | ⟨k1, k2, k3, k4, k5, k6, k7, k8, k9, k10, k11, k12, k13, k14⟩ | ⟨k1, k2, k3, k4, k5, k6, k7, k8, k9, k10, k11, k12, k13, k14⟩ | ⟨k1, k2, k3, k4, k5, k6, k7, k8, k9, k10, k11, k12, k13, k14⟩ | ⟨k1, k2, k3, k4, k5, k6, k7, k8, k9, k10, k11, k12, k13, k14⟩
  · have hk : p.kind = 1 := by simpa using k1
    simp [fitsP, k1, cfitsP, inI_iff, a6, a7, a8, a9, a12, a13]
    revert a14
    cases p.hp <;> cases p.hu <;> simp
  · have hk : p.kind = 2 := by simpa using k2
    simp [fitsP, k1, k2, inI_iff, a15]
    revert a16
    cases p.pres <;> simp
  · have hk : p.kind = 3 := by simpa using k3
    simp [numP, k3] at a3
    simp [fitsP, k1, k2, k3, pfitsP, a5, inI_iff, a4]
    by_cases q : p.qos = 0
    · simp [q, hd hk q]
    · rw [if_neg q]
      rcases a3 with m | m
      · omega
      · rw [inI_iff] at m; exact m
  · have hk : p.kind = 4 := by simpa using k4
    simp [numP, hk, inI_iff] at a3
    simp [fitsP, k1, k2, k3, k4, inI_iff, a3]
  · have hk : p.kind = 5 := by simpa using k5
    simp [numP, hk, inI_iff] at a3
    simp [fitsP, k1, k2, k3, k4, k5, inI_iff, a3]
  · have hk : p.kind = 6 := by simpa using k6
    simp [numP, hk, inI_iff] at a3
    simp [fitsP, k1, k2, k3, k4, k5, k6, inI_iff, a3]
  · have hk : p.kind = 7 := by simpa using k7
    simp [numP, hk, inI_iff] at a3
    simp [fitsP, k1, k2, k3, k4, k5, k6, k7, inI_iff, a3]
  · have hk : p.kind = 8 := by simpa using k8
    simp [numP, hk, inI_iff] at a3
    simp [hk] at a19
    have e : sfitsP 2 p.subs = true := List.all_eq_true.2 fun x hx => by
      obtain ⟨m1, m2, m3, m4⟩ := hs x hx
      rw [m1, Bool.true_and, inI_iff]
      omega
    simp [fitsP, k1, k2, k3, k4, k5, k6, k7, k11, k8, inI_iff, a3, e]
    exact List.length_pos_iff.2 a19
  · have hk : p.kind = 9 := by simpa using k9
    simp [numP, hk, inI_iff] at a3
    simp [hk] at a20
    simp [fitsP, k1, k2, k3, k4, k5, k6, k7, k11, k8, k10, k9, inI_iff, a3, a18]
    exact List.length_pos_iff.2 a20
  · have hk : p.kind = 10 := by simpa using k10
    simp [numP, hk, inI_iff] at a3
    simp [hk] at a19
    have e : sfitsP 0 p.subs = true := List.all_eq_true.2 fun x hx => by
      obtain ⟨m1, m2, m3, m4⟩ := hs x hx
      rw [m1, Bool.true_and, inI_iff]
      have := m4 hk; omega
    simp [fitsP, k1, k2, k3, k4, k5, k6, k7, k11, k8, k10, inI_iff, a3, e]
    exact List.length_pos_iff.2 a19
  · have hk : p.kind = 11 := by simpa using k11
    simp [numP, hk, inI_iff] at a3
    simp [fitsP, k1, k2, k3, k4, k5, k6, k7, k11, inI_iff, a3]
  · have hk : p.kind = 12 := by simpa using k12
    simp [fitsP, k1, k2, k3, k4, k5, k6, k7, k11, k8, k10, k9, k12]
  · have hk : p.kind = 13 := by simpa using k13
    simp [fitsP, k1, k2, k3, k4, k5, k6, k7, k11, k8, k10, k9, k12, k13]
  · have hk : p.kind = 14 := by simpa using k14
    simp [fitsP, k1, k2, k3, k4, k5, k6, k7, k11, k8, k10, k9, k12, k13, k14]
  · exfalso
    simp at k1 k2 k3 k4 k5 k6 k7 k8 k9 k10 k11 k12 k13 k14
    omega

theorem refRP_eq (p : Pk) : refRP p = rightP p := by
  rw [Bool.eq_iff_iff]
  exact ⟨right_of_ref p, ref_of_right p⟩
end Go.Proofs.Ytkeocnobninaaaa
