/- How long a packet's body is. -/
import Derived.Test.YtkeocnobninaaaaBytesOf
namespace Go.Proofs.Ytkeocnobninaaaa
open Go.RowKit Go.Lib

theorem textL_len (s : ByteArray) : (textL s).length = 2 + s.size := by unfold textL; rw [List.length_append, pairL_len]; simp
theorem lumpL_len (l : List UInt8) : (lumpL l).length = 2 + l.length := by unfold lumpL; rw [List.length_append, pairL_len]
theorem conn_len (p : Pk) : ((connL p).length : Int) = clenP p := by
  have hm : mqtt.size = 4 := rfl
  unfold connL lumpsL clenP
  simp only [List.length_append, textL_len, pairL_len, List.length_cons, List.length_nil, hm]
  cases p.hw <;> cases p.hu <;> cases p.hp <;> simp [textL_len, lumpL_len] <;> omega
theorem body_len (p : Pk) : ((bodyL p).length : Int) = lenP p := by
  rcases kf p.kind with ⟨k1, k2, k3, k4, k5, k6, k7, k8, k9, k10, k11, k12, k13, k14⟩ | ⟨k1, k2, k3, k4, k5, k6, k7, k8, k9, k10, k11, k12, k13, k14⟩ | ⟨k1, k2, k3, k4, k5, k6, k7, k8, k9, k10, k11, k12, k13, k14⟩ | ⟨k1, k2, k3, k4, k5, k6, k7, k8, k9, k10, k11, k12, k13, k14⟩ | ⟨k1, k2, k3, k4, k5, k6, k7, k8, k9, k10, k11, k12, k13, k14⟩ | ⟨k1, k2, k3, k4, k5, k6, k7, k8, k9, k10, k11, k12, k13, k14⟩ | ⟨k1, k2, k3, k4, k5, k6, k7, k8, k9, k10, k11, k12, k13, k14⟩ | ⟨k1, k2, k3, k4, k5, k6, k7, k8, k9, k10, k11, k12, k13, k14⟩ | ⟨k1, k2, k3, k4, k5, k6, k7, k8, k9, k10, k11, k12, k13, k14⟩ | ⟨k1, k2, k3, k4, k5, k6, k7, k8, k9, k10, k11, k12, k13, k14⟩ | ⟨k1, k2, k3, k4, k5, k6, k7, k8, k9, k10, k11, k12, k13, k14⟩ | ⟨k1, k2, k3, k4, k5, k6, k7, k8, k9, k10, k11, k12, k13, k14⟩ | ⟨k1, k2, k3, k4, k5, k6, k7, k8, k9, k10, k11, k12, k13, k14⟩ | ⟨k1, k2, k3, k4, k5, k6, k7, k8, k9, k10, k11, k12, k13, k14⟩ | ⟨k1, k2, k3, k4, k5, k6, k7, k8, k9, k10, k11, k12, k13, k14⟩
  · simp only [bodyL, lenP, k1, if_true]; exact conn_len p
  · simp [bodyL, lenP, k1, k2]
  · have e : bodyL p = pubL p := by simp [bodyL, k1, k2, k3]
    have e2 : lenP p = 2 + p.top.size + p.pay.length + (if p.qos == 0 then 0 else 2) := by simp only [lenP, k1, k2, k3]; rfl
    rw [e, e2]
    unfold pubL
    rw [List.length_append, List.length_append, textL_len]
    cases h : (p.qos == 0) <;> simp [pairL_len] <;> omega
  · simp [bodyL, lenP, k1, k2, k3, k4, pairL_len]
  · simp [bodyL, lenP, k1, k2, k3, k4, k5, pairL_len]
  · simp [bodyL, lenP, k1, k2, k3, k4, k5, k6, pairL_len]
  · simp [bodyL, lenP, k1, k2, k3, k4, k5, k6, k7, pairL_len]
  · have := subsL_len true p.subs
    simp [bodyL, lenP, k1, k2, k3, k4, k5, k6, k7, k8, k11, pairL_len] at *
    omega
  · simp [bodyL, lenP, k1, k2, k3, k4, k5, k6, k7, k8, k9, k10, k11, pairL_len, codesL]
  · have := subsL_len false p.subs
    simp [bodyL, lenP, k1, k2, k3, k4, k5, k6, k7, k8, k10, k11, pairL_len] at *
    omega
  · simp [bodyL, lenP, k1, k2, k3, k4, k5, k6, k7, k11, pairL_len]
  all_goals simp [bodyL, lenP, k1, k2, k3, k4, k5, k6, k7, k8, k9, k10, k11]
end Go.Proofs.Ytkeocnobninaaaa
