/- The document's test of a packet: hubbubref3.Right says what wire's does, of any packet that is no giant. -/
import Derived.Test.YtkcoiihhfbgkdaaGRPub
import Derived.Test.YtkcoiihhfbgkdaaGRPw
import Derived.Test.YtkcoiihhfbgkdaaGRNo
import Derived.Test.YtkcoiihhfbgkdaaGRNo3
import Derived.Test.YtkcoiihhfbgkdaaGR8
import Derived.Test.YtkcoiihhfbgkdaaRR10
import Derived.Test.YtkcoiihhfbgkdaaGCon
import Derived.Test.YtkcoiihhfbgkdaaGBody
namespace Go.Proofs.Ytkcoiihhfbgkdaa
open Go.RowKit Go.Lib
set_option linter.unusedVariables false

theorem rc1_on {p : Pk} (h : rc1 p = true) : p = onP p ∧ 1 ≤ p.kind ∧ p.kind ≤ 14 := by
  simp only [rc1, inI, Bool.and_eq_true, decide_eq_true_iff] at h
  exact ⟨h.2.1, h.1.1, h.1.2⟩
theorem on_hp {p : Pk} (e : p = onP p) (h : p.hp = true) : p.kind = 1 := by
  have t := (congrArg Pk.hp e).symm.trans h
  clear e h
  simp only [onP, wrP] at t
  repeat' split at t
  all_goals first | (simp_all; done) | (simp [pk0] at t; done)
theorem on_pres {p : Pk} (e : p = onP p) (h : p.pres = true) : p.kind = 2 := by
  have t := (congrArg Pk.pres e).symm.trans h
  clear e h
  simp only [onP, wrP] at t
  repeat' split at t
  all_goals first | (simp_all; done) | (simp [pk0] at t; done)
theorem on_subs {p : Pk} (e : p = onP p) (h8 : p.kind ≠ 8) (h10 : p.kind ≠ 10) : p.subs = [] := by
  have t := congrArg Pk.subs e
  rw [t]
  clear e t
  simp only [onP, wrP]
  repeat' split
  all_goals first | rfl | (simp_all; done)
theorem on_codes {p : Pk} (e : p = onP p) (h9 : p.kind ≠ 9) : p.codes = [] := by
  have t := congrArg Pk.codes e
  rw [t]
  clear e t
  simp only [onP, wrP]
  repeat' split
  all_goals first | rfl | (simp_all; done)

/-- No giant: its filters and codes could be written. -/
structure Lite (p : Pk) : Prop where
  pay : p.pay.length ≤ 1000000
  subs : p.subs.length ≤ 65535
  subsL : ∀ q, (subsL q p.subs).length ≤ 100000
  codes : p.codes.length ≤ 65535
theorem bf_ref {p : Pk} (h1 : rc1 p = true) (h2 : rc2 p = true) (h3 : rc3 p = true) (li : Lite p) : BF p := by
  obtain ⟨e, k0, k1⟩ := rc1_on h1
  simp only [rc1, inI, rtxt, Bool.and_eq_true, decide_eq_true_iff, Bool.or_eq_true, Bool.not_eq_true', and_true] at h1
  simp only [rc2, inI, Bool.and_eq_true, decide_eq_true_iff] at h2
  simp only [rc3, Bool.and_eq_true, List.all_eq_true] at h3
  obtain ⟨-, -, hid, hq, ht, hc, hu, hw, hwq, hwp, hpa⟩ := h1
  obtain ⟨⟨⟨⟨hl, hk⟩, -⟩, hcd⟩, -⟩ := h2
  obtain ⟨⟨⟨hs, hcs⟩, -⟩, -⟩ := h3
  have idk : 0 ≤ p.id ∧ p.id ≤ 65535 := by
    rcases hid with n | n
    · have t := congrArg Pk.id e
      have z : (onP p).id = 0 := by
        clear e t hq ht hc hu hw hwq hwp hpa hl hk hcd hs hcs
        unfold numP at n
        simp only [onP, wrP]
        repeat' split
        all_goals first | rfl | (simp_all; done)
      rw [t, z]; omega
    · omega
  refine ⟨⟨k0, k1⟩, hq, idk, hl, hk, hwq, ⟨hcd.1, by omega⟩, ht.1, li.pay, hc.1, hw.1, hwp, hu.1, hpa, li.subs, fun x hx => ?_, li.subsL, li.codes, fun x hx => ?_, ?_, ?_, ?_⟩
  · have := hs x hx
    simp only [rcS, rtxt, inI, Bool.and_eq_true, decide_eq_true_iff] at this
    exact ⟨this.1.1, this.2.1.1, by omega⟩
  · have := hcs x hx
    simp only [rcC, inI, Bool.or_eq_true, Bool.and_eq_true, decide_eq_true_iff, beq_iff_eq] at this
    omega
  · intro q; exact ⟨on_subs e (by omega) (by omega), on_codes e (by omega)⟩
  · intro q; exact on_codes e (by omega)
  · intro q; exact on_subs e (by omega) (by omega)

theorem rright_all (p : Pk) (s : Sv) (B : Nat) (w : World) (hp : PkAt w B p s) (hB : B ≤ w.heap.size) (ok : PkOk p) (hn : s.pA = none → s.pC = 0) (li : Lite p) :
    Calls Try.prog 20 #[pkV p s] w fun e w' => e = .returned (.bool (rightP p)) ∧ Below w.heap.size w w' := by
  rw [← refRP_eq]
  rcases c1 : rc1 p with _ | _
  · rw [show refRP p = false by rw [ref_parts, c1]; rfl]
    exact rright_no1 p s B w hp hB ok c1
  obtain ⟨e, k0, k1⟩ := rc1_on c1
  have no : rc2 p = false → refRP p = false := fun h => by rw [ref_parts, c1, h]; rfl
  rcases e1 : inI p.level 0 255 with _ | _
  · rw [no (by unfold rc2; rw [e1]; rfl)]
    exact rright_no_level p s B w hp hB ok c1 e1
  rcases e2 : inI p.keep 0 65535 with _ | _
  · rw [no (by unfold rc2; rw [e1, e2]; rfl)]
    exact rright_no_keep p s B w hp hB ok c1 e1 e2
  rcases e3 : p.hp with _ | _
  · rcases e5 : inI p.code 0 5 with _ | _
    · rw [no (by unfold rc2; rw [e1, e2, e3, e5]; rfl)]
      exact rright_no_codeA p s B w hp hB ok c1 e1 e2 e3 e5
    rcases e6 : p.pres with _ | _
    · have c2 : rc2 p = true := by unfold rc2; rw [e1, e2, e3, e5, e6]; rfl
      have hbd : rc3 p = true → ∀ W, PkAt W B p s → B ≤ W.heap.size → Calls Try.prog 39 #[pkV p s] W (NewPost W (bodyL p)) := fun c3 W h1 h2 => rbody_any p s B W h1 h2 hn (bf_ref c1 c2 c3 li)
      rcases q8 : (p.kind == 8) with _ | _
      rotate_left 1
      · have q : p.kind = 8 := by simpa using q8
        exact rright_8 p s B w hp hB ok c1 c2 e1 e2 e3 e5 e6 q8 (by rw [q]; rfl) (by rw [q]; rfl) hbd
      rcases q10 : (p.kind == 10) with _ | _
      rotate_left 1
      · have q : p.kind = 10 := by simpa using q10
        exact rright_10 p s B w hp hB ok c1 c2 e1 e2 e3 e5 e6 q8 q10 (by rw [q]; rfl) hbd
      rcases q9 : (p.kind == 9) with _ | _
      rotate_left 1
      · exact rright_9 p s B w hp hB ok c1 c2 e1 e2 e3 e5 e6 q8 q10 q9 hbd
      have hs := on_subs e (by simpa using q8) (by simpa using q10)
      have hc := on_codes e (by simpa using q9)
      have c3 : rc3 p = true := by unfold rc3; rw [q8, q10, q9, hs, hc]; rfl
      rw [show refRP p = decide (lenP p ≤ 8192) by rw [ref_parts, c1, c2, c3]; simp]
      exact rright_pub p s B w hp hB ok c1 e1 e2 e3 e5 e6 q8 q10 q9 (by rw [hs]; rfl) (by rw [hc]; rfl) (hbd c3)
    · have k2 := on_pres e e6
      rcases e7 : (p.code != 0) with _ | _
      · have e7' : (p.code == 0) = true := by simpa using e7
        have c2 : rc2 p = true := by unfold rc2; rw [e1, e2, e3, e5, e6, e7']; rfl
        have q8 : (p.kind == 8) = false := by rw [k2]; rfl
        have q10 : (p.kind == 10) = false := by rw [k2]; rfl
        have q9 : (p.kind == 9) = false := by rw [k2]; rfl
        have hs := on_subs e (by omega) (by omega)
        have hc := on_codes e (by omega)
        have c3 : rc3 p = true := by unfold rc3; rw [q8, q10, q9, hs, hc]; rfl
        rw [show refRP p = decide (lenP p ≤ 8192) by rw [ref_parts, c1, c2, c3]; simp]
        exact rright_pres p s B w hp hB ok c1 e1 e2 e3 e5 e6 e7 q8 q10 q9 (by rw [hs]; rfl) (by rw [hc]; rfl) (fun W h1 h2 => rbody_any p s B W h1 h2 hn (bf_ref c1 c2 c3 li))
      · have e7' : (p.code == 0) = false := by simpa using e7
        rw [no (by unfold rc2; rw [e1, e2, e3, e5, e6, e7']; rfl)]
        exact rright_no_presA p s B w hp hB ok c1 e1 e2 e3 e5 e6 e7
  · have k2 := on_hp e e3
    rcases e4 : p.hu with _ | _
    · rw [no (by unfold rc2; rw [e1, e2, e3, e4]; rfl)]
      exact rright_no_pass p s B w hp hB ok c1 e1 e2 e3 e4
    rcases e5 : inI p.code 0 5 with _ | _
    · rw [no (by unfold rc2; rw [e1, e2, e3, e4, e5]; rfl)]
      exact rright_no_codeB p s B w hp hB ok c1 e1 e2 e3 e4 e5
    rcases e6 : p.pres with _ | _
    · have c2 : rc2 p = true := by unfold rc2; rw [e1, e2, e3, e4, e5, e6]; rfl
      have q8 : (p.kind == 8) = false := by rw [k2]; rfl
      have q10 : (p.kind == 10) = false := by rw [k2]; rfl
      have q9 : (p.kind == 9) = false := by rw [k2]; rfl
      have hs := on_subs e (by omega) (by omega)
      have hc := on_codes e (by omega)
      have c3 : rc3 p = true := by unfold rc3; rw [q8, q10, q9, hs, hc]; rfl
      rw [show refRP p = decide (lenP p ≤ 8192) by rw [ref_parts, c1, c2, c3]; simp]
      exact rright_pw p s B w hp hB ok c1 e1 e2 e3 e4 e5 e6 q8 q10 q9 (by rw [hs]; rfl) (by rw [hc]; rfl) (fun W h1 h2 => rbody_any p s B W h1 h2 hn (bf_ref c1 c2 c3 li))
    · have := on_pres e e6
      omega

/-- The document's Put. -/
theorem dput_all_no (p : Pk) (s : Sv) (B : Nat) (w : World) (hp : PkAt w B p s) (hB : B ≤ w.heap.size) (ok : PkOk p) (hn : s.pA = none → s.pC = 0) (li : Lite p) (hr : rightP p = false) :
    Calls Try.prog 18 #[pkV p s] w fun e w' => e = .returned (.tuple #[.slice none 0 0, .int .i64 26]) ∧ Below w.heap.size w w' :=
  dput_no p s B w hp hB (fun W h1 h2 => by have h := rright_all p s B W h1 h2 ok hn li; rw [hr] at h; exact h)
theorem dput_all_yes (p : Pk) (s : Sv) (B : Nat) (w : World) (hp : PkAt w B p s) (hB : B ≤ w.heap.size) (ok : PkOk p) (hn : s.pA = none → s.pC = 0) (li : Lite p) (hr : rightP p = true) :
    Calls Try.prog 18 #[pkV p s] w (PutPost w (encP p)) := by
  have f := right_f p hr
  exact dput_yes p s B w hp hB f.kind.1 f.kind.2 f.qos.1 f.qos.2 f.len.2 (body_len p) (fun W h1 h2 => by have h := rright_all p s B W h1 h2 ok hn li; rw [hr] at h; exact h) (fun W h1 h2 => rbody_any p s B W h1 h2 hn (bf_right p hr))
end Go.Proofs.Ytkcoiihhfbgkdaa

/- The greetings of WireConnects: what holds of them plainly. -/
namespace Go.Proofs.Ytkcoiihhfbgkdaa
open Go.RowKit Go.Lib
set_option linter.unusedVariables false

/-- A greeting as the statement builds it. -/
def conA (cli : ByteArray) (keep : Int) (clean will user pass ret : Bool) (q : Int) (x : List UInt8) : Pk :=
  { pk0 with kind := 1, level := 4, cli := cli, clean := clean, keep := keep, hw := will, hu := user, hp := pass, wtop := if will then ⟨#[119]⟩ else ByteArray.empty, wpay := if will then x else [], wqos := if will then q else 0, wret := if will then ret else false, user := if user then cli else ByteArray.empty, pass := if pass then x else [] }
def svCon (A : Option Addr) (c : Nat) (will pass : Bool) : Sv := { sv0 with wA := if will then A else none, wC := if will then c else 0, uA := if pass then A else none, uC := if pass then c else 0 }
theorem conA_at (cli : ByteArray) (keep : Int) (clean will user pass ret : Bool) (q : Int) (x : List UInt8) (w : World) (B : Nat) (A : Option Addr) (c : Nat) (h : BytesAt w B (.slice A x.length c) x) : PkAt w B (conA cli keep clean will user pass ret q x) (svCon A c will pass) := by
  refine ⟨bytes_nil _ _, ?_, ?_, subs_nil _ _, ints_nil _ _⟩
  · cases will
    · exact bytes_nil _ _
    · exact h
  · cases pass
    · exact bytes_nil _ _
    · exact h
theorem conA_ok (cli : ByteArray) (keep : Int) (clean will user pass ret : Bool) (q : Int) (x : List UInt8) (h1 : cli.size ≤ 40) (h2 : x.length ≤ 40) (h3 : 0 ≤ keep ∧ keep ≤ 65535) (h4 : 0 ≤ q ∧ q ≤ 255) : PkOk (conA cli keep clean will user pass ret q x) := by
  have i : ∀ x : Int, -9223372036854775808 ≤ x → x ≤ 9223372036854775807 → i64In x := fun _ a b => ⟨a, b⟩
  have z : i64In 0 := ⟨by decide, by decide⟩
  have e0 : ByteArray.empty.size ≤ 1000000 := by decide
  have e1 : (⟨#[119]⟩ : ByteArray).size ≤ 1000000 := by decide
  refine ⟨i 1 (by decide) (by decide), z, z, i 4 (by decide) (by decide), i keep (by omega) (by omega), ?_, z, e0, Nat.zero_le _, show cli.size ≤ 1000000 by omega, ?_, ?_, ?_, ?_, Nat.zero_le _, Nat.zero_le _, fun y hy => by simp [conA, pk0] at hy, fun y hy => by simp [conA, pk0] at hy⟩
  · cases will
    · exact z
    · exact i q (by omega) (by omega)
  · cases will
    · exact e0
    · exact e1
  · cases will
    · exact Nat.zero_le _
    · exact (show x.length ≤ 1000000 by omega)
  · cases user
    · exact e0
    · exact (show cli.size ≤ 1000000 by omega)
  · cases pass
    · exact Nat.zero_le _
    · exact (show x.length ≤ 1000000 by omega)
theorem conA_lite (cli : ByteArray) (keep : Int) (clean will user pass ret : Bool) (q : Int) (x : List UInt8) : Lite (conA cli keep clean will user pass ret q x) :=
  ⟨Nat.zero_le _, Nat.zero_le _, fun q => Nat.zero_le _, Nat.zero_le _⟩
theorem conA_nil (A : Option Addr) (c : Nat) (will pass : Bool) (hn : A = none → c = 0) : NilOk (svCon A c will pass) := by
  refine ⟨fun _ => rfl, ?_, ?_⟩
  · cases will
    · exact fun _ => rfl
    · exact hn
  · cases pass
    · exact fun _ => rfl
    · exact hn
theorem conA_len (cli : ByteArray) (keep : Int) (clean will user pass ret : Bool) (q : Int) (x : List UInt8) (h1 : cli.size ≤ 40) (h2 : x.length ≤ 40) : 12 ≤ lenP (conA cli keep clean will user pass ret q x) ∧ lenP (conA cli keep clean will user pass ret q x) ≤ 300 := by
  rw [← body_len]
  have e : bodyL (conA cli keep clean will user pass ret q x) = connL (conA cli keep clean will user pass ret q x) := rfl
  rw [e]
  have h1' : cli.data.size ≤ 40 := h1
  have z : ByteArray.empty.data.size = 0 := rfl
  cases will <;> cases user <;> cases pass <;> simp only [connL, lumpsL, lumpL, textL, pairL_len, conA, mqtt, if_true, if_false, Bool.false_eq_true, List.length_append, List.length_cons, List.length_nil, Array.length_toList] <;> simp <;> omega
/-- Where the name of the protocol stands. -/
theorem enc_mqtt (p : Pk) (k1 : (p.kind == 1) = true) (h0 : 12 ≤ lenP p) (h1 : lenP p ≤ 300) : (((encP p).drop (if 129 < (encP p).length then 3 else 2)).take 6) = [0, 4, 77, 81, 84, 84] ∧ 12 < (encP p).length ∧ (encP p).length ≤ 303 := by
  have hb : bodyL p = [0, 4, 77, 81, 84, 84] ++ ([UInt8.ofNat p.level.toNat, UInt8.ofNat (cflagsP p).toNat] ++ (pairL p.keep ++ lumpsL p)) := by
    unfold bodyL
    rw [k1]
    rfl
  have hl : ((bodyL p).length : Int) = lenP p := body_len p
  unfold encP putL
  by_cases q : lenP p ≤ 127
  · rw [put_1 (by omega) q]
    have n : ¬ 129 < ([UInt8.ofNat (headP p).toNat] ++ List.map (fun b : Int => UInt8.ofNat b.toNat) [lenP p] ++ bodyL p).length := by simp; omega
    rw [if_neg n, hb] at *
    refine ⟨by simp, ?_, ?_⟩ <;> simp at hl ⊢ <;> omega
  · rw [put_2 (by omega) (by omega)]
    have n : 129 < ([UInt8.ofNat (headP p).toNat] ++ List.map (fun b : Int => UInt8.ofNat b.toNat) [lenP p % 128 + 128, lenP p / 128] ++ bodyL p).length := by simp; omega
    rw [if_pos n, hb] at *
    refine ⟨by simp, ?_, ?_⟩ <;> simp at hl ⊢ <;> omega
end Go.Proofs.Ytkcoiihhfbgkdaa
