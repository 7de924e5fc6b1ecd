/- What a packet that is right has in its fields. -/
import Derived.Test.YtkeocnobninaaaaRight
import Derived.Test.YtkeocnobninaaaaAdd2
namespace Go.Proofs.Ytkeocnobninaaaa
open Go.RowKit Go.Lib

theorem inI_iff {n a b : Int} : inI n a b = true ↔ a ≤ n ∧ n ≤ b := by unfold inI; simp

theorem slen_ge (l : List (ByteArray × Int)) : ∀ x ∈ l, (x.1.size : Int) + 2 ≤ slenP l := by
  unfold slenP
  induction l with
  | nil => simp
  | cons y l ih =>
    intro x hx
    have h0 : (0 : Int) ≤ (l.map fun x => 2 + (x.1.size : Int)).sum := by
      clear ih hx
      induction l with
      | nil => simp
      | cons z l ih => simp only [List.map_cons, List.sum_cons]; omega
    simp only [List.map_cons, List.sum_cons]
    rcases List.mem_cons.1 hx with rfl | hx
    · omega
    · have := ih x hx; omega
theorem slen_len (l : List (ByteArray × Int)) : 2 * (l.length : Int) ≤ slenP l := by
  unfold slenP
  induction l with
  | nil => simp
  | cons y l ih => simp only [List.map_cons, List.sum_cons, List.length_cons]; omega
theorem subsL_len (q : Bool) (l : List (ByteArray × Int)) : ((subsL q l).length : Int) = slenP l + (if q then (l.length : Int) else 0) := by
  unfold subsL slenP
  induction l with
  | nil => simp
  | cons y l ih =>
    simp only [List.flatMap_cons, List.length_append, List.map_cons, List.sum_cons, List.length_cons, subL, textL, pairL_len]
    cases q <;> simp at * <;> omega
theorem sfits_mem {m : Int} {l : List (ByteArray × Int)} (h : sfitsP m l = true) : ∀ x ∈ l, txt x.1 = true ∧ 0 ≤ x.2 ∧ x.2 ≤ m := by
  intro x hx
  have := List.all_eq_true.1 h x hx
  rw [Bool.and_eq_true, inI_iff] at this
  exact this
theorem cdfits_mem {l : List Int} (h : cdfitsP l = true) : ∀ x ∈ l, 0 ≤ x ∧ x ≤ 255 := by
  intro x hx
  have := List.all_eq_true.1 h x hx
  rw [Bool.or_eq_true, inI_iff, beq_iff_eq] at this
  omega

structure RF (p : Pk) : Prop where
  kind : 1 ≤ p.kind ∧ p.kind ≤ 14
  len : 0 ≤ lenP p ∧ lenP p ≤ 8192
  qos : 0 ≤ p.qos ∧ p.qos ≤ 2
  id : 0 ≤ p.id ∧ p.id ≤ 65535
  level : 0 ≤ p.level ∧ p.level ≤ 255
  keep : 0 ≤ p.keep ∧ p.keep ≤ 65535
  wqos : 0 ≤ p.wqos ∧ p.wqos ≤ 2
  code : 0 ≤ p.code ∧ p.code ≤ 5
  top : p.top.size ≤ 65535
  pay : p.pay.length ≤ 65535
  cli : p.cli.size ≤ 65535
  wtop : p.wtop.size ≤ 65535
  wpay : p.wpay.length ≤ 65535
  user : p.user.size ≤ 65535
  pass : p.pass.length ≤ 65535
  subs : p.subs.length ≤ 65535
  sub : ∀ x ∈ p.subs, x.1.size ≤ 65535 ∧ 0 ≤ x.2 ∧ x.2 ≤ 255
  subsL : ∀ q, (subsL q p.subs).length ≤ 100000
  codes : p.codes.length ≤ 65535
  cod : ∀ x ∈ p.codes, 0 ≤ x ∧ x ≤ 255

theorem wr_f {p : Pk} (h : p = wrP p) : p.qos = (wrP p).qos ∧ p.id = (wrP p).id ∧ p.level = (wrP p).level ∧ p.keep = (wrP p).keep ∧ p.wqos = (wrP p).wqos ∧ p.code = (wrP p).code ∧ p.top = (wrP p).top ∧ p.pay = (wrP p).pay ∧ p.cli = (wrP p).cli ∧ p.wtop = (wrP p).wtop ∧ p.wpay = (wrP p).wpay ∧ p.user = (wrP p).user ∧ p.pass = (wrP p).pass ∧ p.subs = (wrP p).subs ∧ p.codes = (wrP p).codes :=
  ⟨congrArg Pk.qos h, congrArg Pk.id h, congrArg Pk.level h, congrArg Pk.keep h, congrArg Pk.wqos h, congrArg Pk.code h, congrArg Pk.top h, congrArg Pk.pay h, congrArg Pk.cli h, congrArg Pk.wtop h, congrArg Pk.wpay h, congrArg Pk.user h, congrArg Pk.pass h, congrArg Pk.subs h, congrArg Pk.codes h⟩
theorem e_size : ByteArray.empty.size = 0 := rfl

theorem right_f (p : Pk) (h : rightP p = true) : RF p := by
  simp only [rightP, Bool.and_eq_true, decide_eq_true_iff] at h
  obtain ⟨⟨h1, h2⟩, h3⟩ := h
  obtain ⟨f1, f2, f3, f4, f5, f6, f7, f8, f9, f10, f11, f12, f13, f14, f15⟩ := wr_f h1
  clear h1
  rcases kf p.kind with ⟨k1, k2, k3, k4, k5, k6, k7, k8, k9, k10, k11, k12, k13, k14⟩ | ⟨k1, k2, k3, k4, k5, k6, k7, k8, k9, k10, k11, k12, k13, k14⟩ | ⟨k1, k2, k3, k4, k5, k6, k7, k8, k9, k10, k11, k12, k13, k14⟩ | ⟨k1, k2, k3, k4, k5, k6, k7, k8, k9, k10, k11, k12, k13, k14⟩ | ⟨k1, k2, k3, k4, k5, k6, k7, k8, k9, k10, k11, k12, k13, k14⟩ | ⟨k1, k2, k3, k4, k5, k6, k7, k8, k9, k10, k11, k12, k13, k14⟩ | ⟨k1, k2, k3, k4, k5, k6, k7, k8, k9, k10, k11, k12, k13, k14⟩ | ⟨k1, k2, k3, k4, k5, k6, k7, k8, k9, k10, k11, k12, k13, k14⟩ | ⟨k1, k2, k3, k4, k5, k6, k7, k8, k9, k10, k11, k12, k13, k14⟩ | ⟨k1, k2, k3, k4, k5, k6, k7, k8, k9, k10, k11, k12, k13, k14⟩ | ⟨k1, k2, k3, k4, k5, k6, k7, k8, k9, k10, k11, k12, k13, k14⟩ | ⟨k1, k2, k3, k4, k5, k6, k7, k8, k9, k10, k11, k12, k13, k14⟩ | ⟨k1, k2, k3, k4, k5, k6, k7, k8, k9, k10, k11, k12, k13, k14⟩ | ⟨k1, k2, k3, k4, k5, k6, k7, k8, k9, k10, k11, k12, k13, k14⟩ | ⟨k1, k2, k3, k4, k5, k6, k7, k8, k9, k10, k11, k12, k13, k14⟩
  · have hk : p.kind = 1 := by simpa using k1
    simp [wrP, k1, pk0] at f1 f2 f3 f4 f5 f6 f7 f8 f9 f10 f11 f12 f13 f14 f15
    simp [lenP, k1, clenP] at h2
    simp [fitsP, k1, cfitsP, inI_iff] at h3
    have hl : lenP p = clenP p := by simp [lenP, k1]
    rcases e1 : p.hw with _ | _ <;> rcases e2 : p.hu with _ | _ <;> rcases e3 : p.hp with _ | _
    all_goals
      simp [e1, e2, e3] at f5 f10 f11 f12 f13 h2
      have hl2 : 0 ≤ lenP p ∧ lenP p ≤ 8192 := by rw [hl]; simp [clenP, e1, e2, e3]; omega
      refine ⟨?_, ?_, ?_, ?_, ?_, ?_, ?_, ?_, ?_, ?_, ?_, ?_, ?_, ?_, ?_, ?_, ?_, ?_, ?_, ?_⟩ <;> first | assumption | omega | (simp [*]; done) | (simp [*]; omega) | (intro q; simp [f14, subsL])
  · have hk : p.kind = 2 := by simpa using k2
    simp [wrP, k1, k2, pk0] at f1 f2 f3 f4 f5 f6 f7 f8 f9 f10 f11 f12 f13 f14 f15
    have hl := h2
    simp only [lenP, k1, k2] at hl
    simp [fitsP, k1, k2, inI_iff] at h3
    obtain ⟨g1, g2⟩ := h3
    have hl2 : 0 ≤ lenP p ∧ lenP p ≤ 8192 := ⟨by simp [lenP, k1, k2], h2⟩
    refine ⟨?_, ?_, ?_, ?_, ?_, ?_, ?_, ?_, ?_, ?_, ?_, ?_, ?_, ?_, ?_, ?_, ?_, ?_, ?_, ?_⟩ <;> first | assumption | omega | (simp [*]; done) | (simp [*]; omega) | (intro q; simp [f14, subsL])
  · have hk : p.kind = 3 := by simpa using k3
    simp [wrP, k1, k2, k3, pk0] at f1 f2 f3 f4 f5 f6 f7 f8 f9 f10 f11 f12 f13 f14 f15
    have hl := h2
    simp only [lenP, k1, k2, k3] at hl
    simp [fitsP, k1, k2, k3, pfitsP, inI_iff] at h3
    obtain ⟨⟨g1, g2⟩, g3⟩ := h3
    have hl2 : 0 ≤ lenP p ∧ lenP p ≤ 8192 := ⟨by simp only [lenP, k1, k2, k3]; simp; split <;> omega, h2⟩
    have hi : 0 ≤ p.id ∧ p.id ≤ 65535 := by
      by_cases h0 : p.qos = 0
      · rw [f2 h0]; omega
      · rw [if_neg h0] at g3; omega
    have ht : p.top.size ≤ 65535 ∧ p.pay.length ≤ 65535 := by simp at hl; split at hl <;> omega
    obtain ⟨ht1, ht2⟩ := ht
    refine ⟨?_, ?_, ?_, ?_, ?_, ?_, ?_, ?_, ?_, ?_, ?_, ?_, ?_, ?_, ?_, ?_, ?_, ?_, ?_, ?_⟩ <;> first | assumption | omega | (simp [*]; done) | (simp [*]; omega) | (intro q; simp [f14, subsL])
  · have hk : p.kind = 4 := by simpa using k4
    simp [wrP, k1, k2, k3, k4, pk0] at f1 f2 f3 f4 f5 f6 f7 f8 f9 f10 f11 f12 f13 f14 f15
    have hl := h2
    simp only [lenP, k1, k2, k3, k4] at hl
    simp [fitsP, k1, k2, k3, k4, inI_iff] at h3
    have hl2 : 0 ≤ lenP p ∧ lenP p ≤ 8192 := ⟨by simp [lenP, k1, k2, k3, k4], h2⟩
    have hi : 0 ≤ p.id ∧ p.id ≤ 65535 := by omega
    refine ⟨?_, ?_, ?_, ?_, ?_, ?_, ?_, ?_, ?_, ?_, ?_, ?_, ?_, ?_, ?_, ?_, ?_, ?_, ?_, ?_⟩ <;> first | assumption | omega | (simp [*]; done) | (simp [*]; omega) | (intro q; simp [f14, subsL])
  · have hk : p.kind = 5 := by simpa using k5
    simp [wrP, k1, k2, k3, k4, k5, pk0] at f1 f2 f3 f4 f5 f6 f7 f8 f9 f10 f11 f12 f13 f14 f15
    have hl := h2
    simp only [lenP, k1, k2, k3, k4, k5] at hl
    simp [fitsP, k1, k2, k3, k4, k5, inI_iff] at h3
    have hl2 : 0 ≤ lenP p ∧ lenP p ≤ 8192 := ⟨by simp [lenP, k1, k2, k3, k4, k5], h2⟩
    have hi : 0 ≤ p.id ∧ p.id ≤ 65535 := by omega
    refine ⟨?_, ?_, ?_, ?_, ?_, ?_, ?_, ?_, ?_, ?_, ?_, ?_, ?_, ?_, ?_, ?_, ?_, ?_, ?_, ?_⟩ <;> first | assumption | omega | (simp [*]; done) | (simp [*]; omega) | (intro q; simp [f14, subsL])
  · have hk : p.kind = 6 := by simpa using k6
    simp [wrP, k1, k2, k3, k4, k5, k6, pk0] at f1 f2 f3 f4 f5 f6 f7 f8 f9 f10 f11 f12 f13 f14 f15
    have hl := h2
    simp only [lenP, k1, k2, k3, k4, k5, k6] at hl
    simp [fitsP, k1, k2, k3, k4, k5, k6, inI_iff] at h3
    have hl2 : 0 ≤ lenP p ∧ lenP p ≤ 8192 := ⟨by simp [lenP, k1, k2, k3, k4, k5, k6], h2⟩
    have hi : 0 ≤ p.id ∧ p.id ≤ 65535 := by omega
    refine ⟨?_, ?_, ?_, ?_, ?_, ?_, ?_, ?_, ?_, ?_, ?_, ?_, ?_, ?_, ?_, ?_, ?_, ?_, ?_, ?_⟩ <;> first | assumption | omega | (simp [*]; done) | (simp [*]; omega) | (intro q; simp [f14, subsL])
  · have hk : p.kind = 7 := by simpa using k7
    simp [wrP, k1, k2, k3, k4, k5, k6, k7, pk0] at f1 f2 f3 f4 f5 f6 f7 f8 f9 f10 f11 f12 f13 f14 f15
    have hl := h2
    simp only [lenP, k1, k2, k3, k4, k5, k6, k7] at hl
    simp [fitsP, k1, k2, k3, k4, k5, k6, k7, inI_iff] at h3
    have hl2 : 0 ≤ lenP p ∧ lenP p ≤ 8192 := ⟨by simp [lenP, k1, k2, k3, k4, k5, k6, k7], h2⟩
    have hi : 0 ≤ p.id ∧ p.id ≤ 65535 := by omega
    refine ⟨?_, ?_, ?_, ?_, ?_, ?_, ?_, ?_, ?_, ?_, ?_, ?_, ?_, ?_, ?_, ?_, ?_, ?_, ?_, ?_⟩ <;> first | assumption | omega | (simp [*]; done) | (simp [*]; omega) | (intro q; simp [f14, subsL])
  · have hk : p.kind = 8 := by simpa using k8
    simp [wrP, k1, k2, k3, k4, k5, k6, k7, k11, k8, pk0] at f1 f2 f3 f4 f5 f6 f7 f8 f9 f10 f11 f12 f13 f14 f15
    have hl := h2
    simp only [lenP, k1, k2, k3, k4, k5, k6, k7, k11, k8] at hl
    simp [fitsP, k1, k2, k3, k4, k5, k6, k7, k11, k8, inI_iff] at h3
    obtain ⟨g1, g2, g3⟩ := h3
    have s1 := slen_len p.subs
    have s2 := slen_ge p.subs
    have hl2 : 0 ≤ lenP p ∧ lenP p ≤ 8192 := ⟨by simp only [lenP, k1, k2, k3, k4, k5, k6, k7, k11, k8]; simp; omega, h2⟩
    have hs : slenP p.subs ≤ 8192 := by simp at hl; omega
    have hi : 0 ≤ p.id ∧ p.id ≤ 65535 := by omega
    have hsub : ∀ x ∈ p.subs, x.1.size ≤ 65535 ∧ 0 ≤ x.2 ∧ x.2 ≤ 255 := fun x hx => by
      have := s2 x hx
      obtain ⟨_, m1, m2⟩ := sfits_mem g2 x hx
      omega
    have hsl : ∀ q, (subsL q p.subs).length ≤ 100000 := fun q => by
      have := subsL_len q p.subs
      cases q <;> simp at this <;> omega
    have hn : p.subs.length ≤ 65535 := by omega
    clear s2
    refine ⟨?_, ?_, ?_, ?_, ?_, ?_, ?_, ?_, ?_, ?_, ?_, ?_, ?_, ?_, ?_, ?_, ?_, ?_, ?_, ?_⟩ <;> first | assumption | omega | (simp [*]; done) | (simp [*]; omega)
  · have hk : p.kind = 9 := by simpa using k9
    simp [wrP, k1, k2, k3, k4, k5, k6, k7, k11, k8, k10, k9, pk0] at f1 f2 f3 f4 f5 f6 f7 f8 f9 f10 f11 f12 f13 f14 f15
    have hl := h2
    simp only [lenP, k1, k2, k3, k4, k5, k6, k7, k11, k8, k10, k9] at hl
    simp [fitsP, k1, k2, k3, k4, k5, k6, k7, k11, k8, k10, k9, inI_iff] at h3
    obtain ⟨g1, g2, g3⟩ := h3
    have hl2 : 0 ≤ lenP p ∧ lenP p ≤ 8192 := ⟨by simp only [lenP, k1, k2, k3, k4, k5, k6, k7, k11, k8, k10, k9]; simp; omega, h2⟩
    have hi : 0 ≤ p.id ∧ p.id ≤ 65535 := by omega
    have hn : p.codes.length ≤ 65535 := by simp at hl; omega
    have hc := cdfits_mem g2
    refine ⟨?_, ?_, ?_, ?_, ?_, ?_, ?_, ?_, ?_, ?_, ?_, ?_, ?_, ?_, ?_, ?_, ?_, ?_, ?_, ?_⟩ <;> first | assumption | omega | (simp [*]; done) | (simp [*]; omega) | (intro q; simp [f14, subsL])
  · have hk : p.kind = 10 := by simpa using k10
    simp [wrP, k1, k2, k3, k4, k5, k6, k7, k11, k8, k10, pk0] at f1 f2 f3 f4 f5 f6 f7 f8 f9 f10 f11 f12 f13 f14 f15
    have hl := h2
    simp only [lenP, k1, k2, k3, k4, k5, k6, k7, k11, k8, k10] at hl
    simp [fitsP, k1, k2, k3, k4, k5, k6, k7, k11, k8, k10, inI_iff] at h3
    obtain ⟨g1, g2, g3⟩ := h3
    have s1 := slen_len p.subs
    have s2 := slen_ge p.subs
    have hl2 : 0 ≤ lenP p ∧ lenP p ≤ 8192 := ⟨by simp only [lenP, k1, k2, k3, k4, k5, k6, k7, k11, k8, k10]; simp; omega, h2⟩
    have hs : slenP p.subs ≤ 8192 := by simp at hl; omega
    have hi : 0 ≤ p.id ∧ p.id ≤ 65535 := by omega
    have hsub : ∀ x ∈ p.subs, x.1.size ≤ 65535 ∧ 0 ≤ x.2 ∧ x.2 ≤ 255 := fun x hx => by
      have := s2 x hx
      obtain ⟨_, m1, m2⟩ := sfits_mem g2 x hx
      omega
    have hsl : ∀ q, (subsL q p.subs).length ≤ 100000 := fun q => by
      have := subsL_len q p.subs
      cases q <;> simp at this <;> omega
    have hn : p.subs.length ≤ 65535 := by omega
    clear s2
    refine ⟨?_, ?_, ?_, ?_, ?_, ?_, ?_, ?_, ?_, ?_, ?_, ?_, ?_, ?_, ?_, ?_, ?_, ?_, ?_, ?_⟩ <;> first | assumption | omega | (simp [*]; done) | (simp [*]; omega)
  · have hk : p.kind = 11 := by simpa using k11
    simp [wrP, k1, k2, k3, k4, k5, k6, k7, k11, pk0] at f1 f2 f3 f4 f5 f6 f7 f8 f9 f10 f11 f12 f13 f14 f15
    have hl := h2
    simp only [lenP, k1, k2, k3, k4, k5, k6, k7, k11] at hl
    simp [fitsP, k1, k2, k3, k4, k5, k6, k7, k11, inI_iff] at h3
    have hl2 : 0 ≤ lenP p ∧ lenP p ≤ 8192 := ⟨by simp [lenP, k1, k2, k3, k4, k5, k6, k7, k11], h2⟩
    have hi : 0 ≤ p.id ∧ p.id ≤ 65535 := by omega
    refine ⟨?_, ?_, ?_, ?_, ?_, ?_, ?_, ?_, ?_, ?_, ?_, ?_, ?_, ?_, ?_, ?_, ?_, ?_, ?_, ?_⟩ <;> first | assumption | omega | (simp [*]; done) | (simp [*]; omega) | (intro q; simp [f14, subsL])
  · have hk : p.kind = 12 := by simpa using k12
    simp [wrP, k1, k2, k3, k4, k5, k6, k7, k11, k8, k10, k9, pk0] at f1 f2 f3 f4 f5 f6 f7 f8 f9 f10 f11 f12 f13 f14 f15
    have hl := h2
    simp only [lenP, k1, k2, k3, k4, k5, k6, k7, k11, k8, k10, k9] at hl
    clear h3
    have hl2 : 0 ≤ lenP p ∧ lenP p ≤ 8192 := ⟨by simp [lenP, k1, k2, k3, k4, k5, k6, k7, k11, k8, k10, k9], h2⟩
    refine ⟨?_, ?_, ?_, ?_, ?_, ?_, ?_, ?_, ?_, ?_, ?_, ?_, ?_, ?_, ?_, ?_, ?_, ?_, ?_, ?_⟩ <;> first | assumption | omega | (simp [*]; done) | (simp [*]; omega) | (intro q; simp [f14, subsL])
  · have hk : p.kind = 13 := by simpa using k13
    simp [wrP, k1, k2, k3, k4, k5, k6, k7, k11, k8, k10, k9, pk0] at f1 f2 f3 f4 f5 f6 f7 f8 f9 f10 f11 f12 f13 f14 f15
    have hl := h2
    simp only [lenP, k1, k2, k3, k4, k5, k6, k7, k11, k8, k10, k9] at hl
    clear h3
    have hl2 : 0 ≤ lenP p ∧ lenP p ≤ 8192 := ⟨by simp [lenP, k1, k2, k3, k4, k5, k6, k7, k11, k8, k10, k9], h2⟩
    refine ⟨?_, ?_, ?_, ?_, ?_, ?_, ?_, ?_, ?_, ?_, ?_, ?_, ?_, ?_, ?_, ?_, ?_, ?_, ?_, ?_⟩ <;> first | assumption | omega | (simp [*]; done) | (simp [*]; omega) | (intro q; simp [f14, subsL])
  · have hk : p.kind = 14 := by simpa using k14
    simp [wrP, k1, k2, k3, k4, k5, k6, k7, k11, k8, k10, k9, pk0] at f1 f2 f3 f4 f5 f6 f7 f8 f9 f10 f11 f12 f13 f14 f15
    have hl := h2
    simp only [lenP, k1, k2, k3, k4, k5, k6, k7, k11, k8, k10, k9] at hl
    clear h3
    have hl2 : 0 ≤ lenP p ∧ lenP p ≤ 8192 := ⟨by simp [lenP, k1, k2, k3, k4, k5, k6, k7, k11, k8, k10, k9], h2⟩
    refine ⟨?_, ?_, ?_, ?_, ?_, ?_, ?_, ?_, ?_, ?_, ?_, ?_, ?_, ?_, ?_, ?_, ?_, ?_, ?_, ?_⟩ <;> first | assumption | omega | (simp [*]; done) | (simp [*]; omega) | (intro q; simp [f14, subsL])
  · simp [fitsP, k1, k2, k3, k4, k5, k6, k7, k8, k9, k10, k11, k12, k13, k14] at h3
end Go.Proofs.Ytkeocnobninaaaa
