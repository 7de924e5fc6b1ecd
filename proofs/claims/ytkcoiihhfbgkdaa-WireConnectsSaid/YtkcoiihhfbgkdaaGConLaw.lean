/- hubbublaw3.WireConnects, walked. Written by gen_conlaw.py. -/
import Derived.Test.YtkcoiihhfbgkdaaGRAny
import Derived.Test.YtkcoiihhfbgkdaaGRead
import Derived.Test.YtkcoiihhfbgkdaaGLim
namespace Go.Proofs.Ytkcoiihhfbgkdaa
open Go.RowKit Go.Lib
set_option linter.unusedVariables false

set_option maxRecDepth 100000 in
set_option maxHeartbeats 8000000 in
theorem connects_walk (cli : ByteArray) (keep : Int) (clean will user pass ret : Bool) (q : Int) (A : Option Addr) (c : Nat) (x : List UInt8) (w : World) (hk : 0 ≤ keep ∧ keep ≤ 65535) (hq : 0 ≤ q ∧ q ≤ 255) (h1 : cli.size ≤ 40) (h2 : x.length ≤ 40) (hv : BytesAt w w.heap.size (.slice A x.length c) x) (hn : A = none → c = 0) :
    Calls Try.prog 8 #[.string cli, .int .u16 keep, .bool clean, .bool will, .bool user, .bool pass, .bool ret, .int .u8 q, .slice A x.length c] w fun e w' => e = .returned (.bool true) ∧ Below w.heap.size w w' := by
  have HV := Lib.hid hv
  have HN := Lib.hid hn
  clear hv hn
  cases will <;> cases user <;> cases pass
  · go_enter Try.func8, Try.ntmps8
    go_wp2_with fail
    refine (known3_any w).mono ?_
    rintro e w1 ⟨rfl, hb1⟩
    go_wp2_with (first
      | ((with_reducible show wpList _ _ _ ({ dst := _, op := Op.store 28 (Operand.tmp 19) _, type := _, pos := _, after := _, guard := _ } :: _) _ _); refine stLst (w1.heap.size) (by rfl) _ #[.int .i64 1, .bool false, .bool false, .int .i64 0, .int .i64 0, .string ⟨#[]⟩, .slice none 0 0, .int .i64 4, .string cli, .bool clean, .int .i64 keep, .bool false, .string ⟨#[]⟩, .slice none 0 0, .int .i64 0, .bool false, .bool false, .bool false, .string ⟨#[]⟩, .slice none 0 0, .bool false, .int .i64 0, .slice none 0 0, .slice none 0 0] (by rfl) (by rfl) (by rfl) (by rfl) (by rfl) ?_)
      | ((with_reducible show wpList _ _ _ ({ dst := _, op := Op.load 28 (Operand.tmp 19), type := _, pos := _, after := _, guard := _ } :: _) _ _); refine ld_pk (w1.heap.size) (by rfl) (by rfl) (pkC (conA cli keep clean false false false ret (q % 4) x) (svCon A c false false)) _ _ (by exact heap_alloc_last _ _) (by rfl) ?_))
    have hpk : PkAt (w1.alloc (.cells (pkC (conA cli keep clean false false false ret (q % 4) x) (svCon A c false false)) 28)) w.heap.size (conA cli keep clean false false false ret (q % 4) x) (svCon A c false false) := conA_at _ _ _ _ _ _ _ _ _ _ _ _ _ (HV.out.to (Nat.le_refl _) (alB hb1 _))
    have r0 : (w1.alloc (.cells (pkC (conA cli keep clean false false false ret (q % 4) x) (svCon A c false false)) 28)).heap[w1.heap.size]? = some (.cells (pkC (conA cli keep clean false false false ret (q % 4) x) (svCon A c false false)) 28 (0, 0)) := heap_alloc_last _ _
    have bW : Below w.heap.size w (w1.alloc (.cells (pkC (conA cli keep clean false false false ret (q % 4) x) (svCon A c false false)) 28)) := alB hb1 _
    have sW : w1.heap.size < (w1.alloc (.cells (pkC (conA cli keep clean false false false ret (q % 4) x) (svCon A c false false)) 28)).heap.size := by simp
    have HPK := Lib.hid hpk
    have HOK := Lib.hid (conA_ok cli keep clean false false false ret (q % 4) x h1 h2 hk ⟨by omega, by omega⟩)
    have HNL := Lib.hid (conA_nil A c false false HN.out)
    have HLI := Lib.hid (conA_lite cli keep clean false false false ret (q % 4) x)
    have HLN := Lib.hid (conA_len cli keep clean false false false ret (q % 4) x h1 h2)
    have HMQ := Lib.hid (enc_mqtt (conA cli keep clean false false false ret (q % 4) x) rfl HLN.out.1 HLN.out.2)
    clear hpk
    show Calls _ _ _ (w1.alloc (.cells (pkC (conA cli keep clean false false false ret (q % 4) x) (svCon A c false false)) 28)) _
    generalize w1.alloc (.cells (pkC (conA cli keep clean false false false ret (q % 4) x) (svCon A c false false)) 28) = W0 at *
    have hw1 : w.heap.size ≤ W0.heap.size := bW.size
    have g1 : w1.heap.size < W0.heap.size := sW
    generalize w1.heap.size = g at *
    rcases hr : rightP (conA cli keep clean false false false ret (q % 4) x) with _ | _
    · have HR := Lib.hid hr
      clear hr HMQ
      refine (wput_no (conA cli keep clean false false false ret (q % 4) x) (svCon A c false false) w.heap.size W0 HPK.out hw1 HOK.out HR.out).mono ?_
      rintro e w2 ⟨rfl, hb2⟩
      have r2 := heap_below hb2 r0
      go_wp2_with ((with_reducible show wpList _ _ _ ({ dst := _, op := Op.load 28 (Operand.tmp 19), type := _, pos := _, after := _, guard := _ } :: _) _ _); refine ld_pk g (by rfl) (by rfl) (pkC (conA cli keep clean false false false ret (q % 4) x) (svCon A c false false)) _ _ (by exact r2) (by rfl) ?_)
      refine (dput_all_no (conA cli keep clean false false false ret (q % 4) x) (svCon A c false false) w.heap.size w2 (HPK.out.to hw1 hb2) (Nat.le_trans hw1 hb2.size) HOK.out HNL.out.p HLI.out HR.out).mono ?_
      rintro e w3 ⟨rfl, hb3⟩
      have cv0 : (convert 22 9 (.slice none 0 0)).run Try.prog w3 = .ok (.string ⟨#[]⟩) w3 := (bytes_nil w3 0).conv
      go_wp2_with fail
      go_ret
      exact ⟨rfl, thn (thn bW hb2) hb3⟩
    · have HR := Lib.hid hr
      clear hr
      refine (wput_yes (conA cli keep clean false false false ret (q % 4) x) (svCon A c false false) w.heap.size W0 HPK.out hw1 HOK.out HNL.out HR.out).mono ?_
      unfold PutPost
      rintro e w2 ⟨A1, c1, rfl, o1, hb2⟩
      have r2 := heap_below hb2 r0
      have D2 := Lib.hid (dput_all_yes (conA cli keep clean false false false ret (q % 4) x) (svCon A c false false) w.heap.size w2 (HPK.out.to hw1 hb2) (Nat.le_trans hw1 hb2.size) HOK.out HNL.out.p HLI.out HR.out)
      have HRD := Lib.hid (rd_enc (conA cli keep clean false false false ret (q % 4) x) HR.out [])
      rw [List.append_nil] at HRD
      have HPQ := Lib.hid (HPK.out.to hw1 hb2)
      generalize encP (conA cli keep clean false false false ret (q % 4) x) = L at *
      have y1 := ownsBytes o1
      obtain ⟨m1, m2, m3⟩ := HMQ.out
      have M1 := Lib.hid m1
      clear HMQ m1 o1
      rcases A1 with _ | ad
      · have := y1.nz (by omega) rfl
        obtain ⟨A', c', hv1, hc, _, hz, _⟩ := y1
        injection hv1 with v1 v2 v3
        rw [hz v1.symm] at m2
        simp at m2
      go_wp2_with ((with_reducible show wpList _ _ _ ({ dst := _, op := Op.load 28 (Operand.tmp 19), type := _, pos := _, after := _, guard := _ } :: _) _ _); refine ld_pk g (by rfl) (by rfl) (pkC (conA cli keep clean false false false ret (q % 4) x) (svCon A c false false)) _ _ (by exact r2) (by rfl) ?_)
      refine D2.out.mono ?_
      unfold PutPost
      rintro e w3 ⟨A2, c2, rfl, o2, hb3⟩
      have y3 := y1.on hb3
      have cv1 := y3.conv
      have cv2 := (ownsBytes o2).conv
      have r3 := heap_below hb3 r2
      have B3 : Below w.heap.size w w3 := thn (thn bW hb2) hb3
      have HPQ3 := Lib.hid (HPQ.out.to (Nat.le_trans hw1 hb2.size) hb3)
      have Y3 := Lib.hid y3
      clear o2 y1 y3 D2 hb2 hb3 r2 r0 HPQ HPK
      go_wp2_with fail
      refine (wread_any (some ad) c1 L w3 Y3.out (by omega)).mono ?_
      rw [HRD.out]
      rintro e w4 ⟨s4, rfl, o4, hb4⟩
      have r4 := heap_keep (o' := .cells (pkC (conA cli keep clean false false false ret (q % 4) x) s4) 28) (heap_below hb4 r3)
      have B4 : Below w.heap.size w (w4.alloc (.cells (pkC (conA cli keep clean false false false ret (q % 4) x) s4) 28)) := alB (thn B3 hb4) _
      have Y4 := Lib.hid (Y3.out.to (Nat.le_refl _) (alB hb4 (.cells (pkC (conA cli keep clean false false false ret (q % 4) x) s4) 28 (0, 0))))
      have Q4 := Lib.hid (o4.at_.to (Nat.le_refl _) (alB (Below.refl _ _) (.cells (pkC (conA cli keep clean false false false ret (q % 4) x) s4) 28 (0, 0))))
      have P4 := Lib.hid ((HPQ3.out.to B3.size (alB hb4 (.cells (pkC (conA cli keep clean false false false ret (q % 4) x) s4) 28 (0, 0)))).more (Nat.le_trans B3.size hb4.size))
      have SM := Lib.hid (fun W (hbb : W = w4.alloc (.cells (pkC (conA cli keep clean false false false ret (q % 4) x) s4) 28 (0, 0))) => by
        subst hbb
        exact (rsame_any (conA cli keep clean false false false ret (q % 4) x) (conA cli keep clean false false false ret (q % 4) x) (svCon A c false false) s4 w4.heap.size _ P4.out Q4.out (by simp) (Nat.zero_le _) (Nat.zero_le _)).mono (fun e w' h => (⟨h.1.trans (by simp), h.2⟩ : e = .returned (.bool true) ∧ Below _ _ w')))
      have HSZ := Lib.hid hb4.size
      have hcap : L.length ≤ c1 ∧ c1 ≤ 9223372036854775807 := by
        obtain ⟨A', c', hv1, hc, hcm, _⟩ := Y4.out
        injection hv1 with v1 v2 v3
        subst v3
        unfold maxLen at hcm
        omega
      clear r3 HPQ3 o4 hb4 B3 cv1 cv2
      by_cases hi : 129 < L.length
      · rw [if_pos hi] at M1
        go_wp2_with (first
          | ((with_reducible show wpList _ _ _ ({ dst := _, op := Op.store 28 (Operand.tmp 24) _, type := _, pos := _, after := _, guard := _ } :: _) _ _); refine stLst (w4.heap.size) (by rfl) _ (pkC (conA cli keep clean false false false ret (q % 4) x) s4) (by rfl) (by rfl) (by rfl) (by rfl) (pkc_one _ _) ?_)
          | ((with_reducible show wpList _ _ _ ({ dst := _, op := Op.load 28 (Operand.tmp 19), type := _, pos := _, after := _, guard := _ } :: _) _ _); refine ld_pk g (by rfl) (by rfl) (pkC (conA cli keep clean false false false ret (q % 4) x) (svCon A c false false)) _ _ (by exact r4) (by rfl) ?_)
          | ((with_reducible show wpList _ _ _ ({ dst := _, op := Op.load 28 (Operand.tmp 24), type := _, pos := _, after := _, guard := _ } :: _) _ _); refine ld_pk (w4.heap.size) (by rfl) (by rfl) (pkC (conA cli keep clean false false false ret (q % 4) x) s4) _ _ (by exact heap_alloc_last _ _) (by rfl) ?_)
          | (go_at_call 22; refine (SM.out _ rfl).mono ?_; rintro e w5 ⟨rfl, hb5⟩; have B5 := thn B4 hb5; have cvS := (BytesAt.takeL (BytesAt.drop (Y4.out.to (by have := HSZ.out; simp; omega) hb5) 3 (by omega)) 6 (by simp; omega)).conv; rw [M1.out] at cvS; rw [show ad.add 3 = ⟨ad.block, ad.off + 3, none⟩ from rfl] at cvS))
        go_ret
        exact ⟨rfl, B5⟩
      · rw [if_neg hi] at M1
        go_wp2_with (first
          | ((with_reducible show wpList _ _ _ ({ dst := _, op := Op.store 28 (Operand.tmp 24) _, type := _, pos := _, after := _, guard := _ } :: _) _ _); refine stLst (w4.heap.size) (by rfl) _ (pkC (conA cli keep clean false false false ret (q % 4) x) s4) (by rfl) (by rfl) (by rfl) (by rfl) (pkc_one _ _) ?_)
          | ((with_reducible show wpList _ _ _ ({ dst := _, op := Op.load 28 (Operand.tmp 19), type := _, pos := _, after := _, guard := _ } :: _) _ _); refine ld_pk g (by rfl) (by rfl) (pkC (conA cli keep clean false false false ret (q % 4) x) (svCon A c false false)) _ _ (by exact r4) (by rfl) ?_)
          | ((with_reducible show wpList _ _ _ ({ dst := _, op := Op.load 28 (Operand.tmp 24), type := _, pos := _, after := _, guard := _ } :: _) _ _); refine ld_pk (w4.heap.size) (by rfl) (by rfl) (pkC (conA cli keep clean false false false ret (q % 4) x) s4) _ _ (by exact heap_alloc_last _ _) (by rfl) ?_)
          | (go_at_call 22; refine (SM.out _ rfl).mono ?_; rintro e w5 ⟨rfl, hb5⟩; have B5 := thn B4 hb5; have cvS := (BytesAt.takeL (BytesAt.drop (Y4.out.to (by have := HSZ.out; simp; omega) hb5) 2 (by omega)) 6 (by simp; omega)).conv; rw [M1.out] at cvS; rw [show ad.add 2 = ⟨ad.block, ad.off + 2, none⟩ from rfl] at cvS))
        go_ret
        exact ⟨rfl, B5⟩
  · go_enter Try.func8, Try.ntmps8
    go_wp2_with fail
    refine (known3_any w).mono ?_
    rintro e w1 ⟨rfl, hb1⟩
    go_wp2_with (first
      | ((with_reducible show wpList _ _ _ ({ dst := _, op := Op.store 28 (Operand.tmp 19) _, type := _, pos := _, after := _, guard := _ } :: _) _ _); refine stLst (w1.heap.size) (by rfl) _ #[.int .i64 1, .bool false, .bool false, .int .i64 0, .int .i64 0, .string ⟨#[]⟩, .slice none 0 0, .int .i64 4, .string cli, .bool clean, .int .i64 keep, .bool false, .string ⟨#[]⟩, .slice none 0 0, .int .i64 0, .bool false, .bool false, .bool true, .string ⟨#[]⟩, .slice none 0 0, .bool false, .int .i64 0, .slice none 0 0, .slice none 0 0] (by rfl) (by rfl) (by rfl) (by rfl) (by rfl) ?_)
      | ((with_reducible show wpList _ _ _ ({ dst := _, op := Op.load 28 (Operand.tmp 19), type := _, pos := _, after := _, guard := _ } :: _) _ _); refine ld_pk (w1.heap.size) (by rfl) (by rfl) (pkC (conA cli keep clean false false true ret (q % 4) x) (svCon A c false true)) _ _ (by exact heap_alloc_last _ _) (by rfl) ?_))
    have hpk : PkAt (w1.alloc (.cells (pkC (conA cli keep clean false false true ret (q % 4) x) (svCon A c false true)) 28)) w.heap.size (conA cli keep clean false false true ret (q % 4) x) (svCon A c false true) := conA_at _ _ _ _ _ _ _ _ _ _ _ _ _ (HV.out.to (Nat.le_refl _) (alB hb1 _))
    have r0 : (w1.alloc (.cells (pkC (conA cli keep clean false false true ret (q % 4) x) (svCon A c false true)) 28)).heap[w1.heap.size]? = some (.cells (pkC (conA cli keep clean false false true ret (q % 4) x) (svCon A c false true)) 28 (0, 0)) := heap_alloc_last _ _
    have bW : Below w.heap.size w (w1.alloc (.cells (pkC (conA cli keep clean false false true ret (q % 4) x) (svCon A c false true)) 28)) := alB hb1 _
    have sW : w1.heap.size < (w1.alloc (.cells (pkC (conA cli keep clean false false true ret (q % 4) x) (svCon A c false true)) 28)).heap.size := by simp
    have HPK := Lib.hid hpk
    have HOK := Lib.hid (conA_ok cli keep clean false false true ret (q % 4) x h1 h2 hk ⟨by omega, by omega⟩)
    have HNL := Lib.hid (conA_nil A c false true HN.out)
    have HLI := Lib.hid (conA_lite cli keep clean false false true ret (q % 4) x)
    have HLN := Lib.hid (conA_len cli keep clean false false true ret (q % 4) x h1 h2)
    have HMQ := Lib.hid (enc_mqtt (conA cli keep clean false false true ret (q % 4) x) rfl HLN.out.1 HLN.out.2)
    clear hpk
    show Calls _ _ _ (w1.alloc (.cells (pkC (conA cli keep clean false false true ret (q % 4) x) (svCon A c false true)) 28)) _
    generalize w1.alloc (.cells (pkC (conA cli keep clean false false true ret (q % 4) x) (svCon A c false true)) 28) = W0 at *
    have hw1 : w.heap.size ≤ W0.heap.size := bW.size
    have g1 : w1.heap.size < W0.heap.size := sW
    generalize w1.heap.size = g at *
    rcases hr : rightP (conA cli keep clean false false true ret (q % 4) x) with _ | _
    · have HR := Lib.hid hr
      clear hr HMQ
      refine (wput_no (conA cli keep clean false false true ret (q % 4) x) (svCon A c false true) w.heap.size W0 HPK.out hw1 HOK.out HR.out).mono ?_
      rintro e w2 ⟨rfl, hb2⟩
      have r2 := heap_below hb2 r0
      go_wp2_with ((with_reducible show wpList _ _ _ ({ dst := _, op := Op.load 28 (Operand.tmp 19), type := _, pos := _, after := _, guard := _ } :: _) _ _); refine ld_pk g (by rfl) (by rfl) (pkC (conA cli keep clean false false true ret (q % 4) x) (svCon A c false true)) _ _ (by exact r2) (by rfl) ?_)
      refine (dput_all_no (conA cli keep clean false false true ret (q % 4) x) (svCon A c false true) w.heap.size w2 (HPK.out.to hw1 hb2) (Nat.le_trans hw1 hb2.size) HOK.out HNL.out.p HLI.out HR.out).mono ?_
      rintro e w3 ⟨rfl, hb3⟩
      have cv0 : (convert 22 9 (.slice none 0 0)).run Try.prog w3 = .ok (.string ⟨#[]⟩) w3 := (bytes_nil w3 0).conv
      go_wp2_with fail
      go_ret
      exact ⟨rfl, thn (thn bW hb2) hb3⟩
    · have HR := Lib.hid hr
      clear hr
      refine (wput_yes (conA cli keep clean false false true ret (q % 4) x) (svCon A c false true) w.heap.size W0 HPK.out hw1 HOK.out HNL.out HR.out).mono ?_
      unfold PutPost
      rintro e w2 ⟨A1, c1, rfl, o1, hb2⟩
      have r2 := heap_below hb2 r0
      have D2 := Lib.hid (dput_all_yes (conA cli keep clean false false true ret (q % 4) x) (svCon A c false true) w.heap.size w2 (HPK.out.to hw1 hb2) (Nat.le_trans hw1 hb2.size) HOK.out HNL.out.p HLI.out HR.out)
      have HRD := Lib.hid (rd_enc (conA cli keep clean false false true ret (q % 4) x) HR.out [])
      rw [List.append_nil] at HRD
      have HPQ := Lib.hid (HPK.out.to hw1 hb2)
      generalize encP (conA cli keep clean false false true ret (q % 4) x) = L at *
      have y1 := ownsBytes o1
      obtain ⟨m1, m2, m3⟩ := HMQ.out
      have M1 := Lib.hid m1
      clear HMQ m1 o1
      rcases A1 with _ | ad
      · have := y1.nz (by omega) rfl
        obtain ⟨A', c', hv1, hc, _, hz, _⟩ := y1
        injection hv1 with v1 v2 v3
        rw [hz v1.symm] at m2
        simp at m2
      go_wp2_with ((with_reducible show wpList _ _ _ ({ dst := _, op := Op.load 28 (Operand.tmp 19), type := _, pos := _, after := _, guard := _ } :: _) _ _); refine ld_pk g (by rfl) (by rfl) (pkC (conA cli keep clean false false true ret (q % 4) x) (svCon A c false true)) _ _ (by exact r2) (by rfl) ?_)
      refine D2.out.mono ?_
      unfold PutPost
      rintro e w3 ⟨A2, c2, rfl, o2, hb3⟩
      have y3 := y1.on hb3
      have cv1 := y3.conv
      have cv2 := (ownsBytes o2).conv
      have r3 := heap_below hb3 r2
      have B3 : Below w.heap.size w w3 := thn (thn bW hb2) hb3
      have HPQ3 := Lib.hid (HPQ.out.to (Nat.le_trans hw1 hb2.size) hb3)
      have Y3 := Lib.hid y3
      clear o2 y1 y3 D2 hb2 hb3 r2 r0 HPQ HPK
      go_wp2_with fail
      refine (wread_any (some ad) c1 L w3 Y3.out (by omega)).mono ?_
      rw [HRD.out]
      rintro e w4 ⟨s4, rfl, o4, hb4⟩
      have r4 := heap_keep (o' := .cells (pkC (conA cli keep clean false false true ret (q % 4) x) s4) 28) (heap_below hb4 r3)
      have B4 : Below w.heap.size w (w4.alloc (.cells (pkC (conA cli keep clean false false true ret (q % 4) x) s4) 28)) := alB (thn B3 hb4) _
      have Y4 := Lib.hid (Y3.out.to (Nat.le_refl _) (alB hb4 (.cells (pkC (conA cli keep clean false false true ret (q % 4) x) s4) 28 (0, 0))))
      have Q4 := Lib.hid (o4.at_.to (Nat.le_refl _) (alB (Below.refl _ _) (.cells (pkC (conA cli keep clean false false true ret (q % 4) x) s4) 28 (0, 0))))
      have P4 := Lib.hid ((HPQ3.out.to B3.size (alB hb4 (.cells (pkC (conA cli keep clean false false true ret (q % 4) x) s4) 28 (0, 0)))).more (Nat.le_trans B3.size hb4.size))
      have SM := Lib.hid (fun W (hbb : W = w4.alloc (.cells (pkC (conA cli keep clean false false true ret (q % 4) x) s4) 28 (0, 0))) => by
        subst hbb
        exact (rsame_any (conA cli keep clean false false true ret (q % 4) x) (conA cli keep clean false false true ret (q % 4) x) (svCon A c false true) s4 w4.heap.size _ P4.out Q4.out (by simp) (Nat.zero_le _) (Nat.zero_le _)).mono (fun e w' h => (⟨h.1.trans (by simp), h.2⟩ : e = .returned (.bool true) ∧ Below _ _ w')))
      have HSZ := Lib.hid hb4.size
      have hcap : L.length ≤ c1 ∧ c1 ≤ 9223372036854775807 := by
        obtain ⟨A', c', hv1, hc, hcm, _⟩ := Y4.out
        injection hv1 with v1 v2 v3
        subst v3
        unfold maxLen at hcm
        omega
      clear r3 HPQ3 o4 hb4 B3 cv1 cv2
      by_cases hi : 129 < L.length
      · rw [if_pos hi] at M1
        go_wp2_with (first
          | ((with_reducible show wpList _ _ _ ({ dst := _, op := Op.store 28 (Operand.tmp 24) _, type := _, pos := _, after := _, guard := _ } :: _) _ _); refine stLst (w4.heap.size) (by rfl) _ (pkC (conA cli keep clean false false true ret (q % 4) x) s4) (by rfl) (by rfl) (by rfl) (by rfl) (pkc_one _ _) ?_)
          | ((with_reducible show wpList _ _ _ ({ dst := _, op := Op.load 28 (Operand.tmp 19), type := _, pos := _, after := _, guard := _ } :: _) _ _); refine ld_pk g (by rfl) (by rfl) (pkC (conA cli keep clean false false true ret (q % 4) x) (svCon A c false true)) _ _ (by exact r4) (by rfl) ?_)
          | ((with_reducible show wpList _ _ _ ({ dst := _, op := Op.load 28 (Operand.tmp 24), type := _, pos := _, after := _, guard := _ } :: _) _ _); refine ld_pk (w4.heap.size) (by rfl) (by rfl) (pkC (conA cli keep clean false false true ret (q % 4) x) s4) _ _ (by exact heap_alloc_last _ _) (by rfl) ?_)
          | (go_at_call 22; refine (SM.out _ rfl).mono ?_; rintro e w5 ⟨rfl, hb5⟩; have B5 := thn B4 hb5; have cvS := (BytesAt.takeL (BytesAt.drop (Y4.out.to (by have := HSZ.out; simp; omega) hb5) 3 (by omega)) 6 (by simp; omega)).conv; rw [M1.out] at cvS; rw [show ad.add 3 = ⟨ad.block, ad.off + 3, none⟩ from rfl] at cvS))
        go_ret
        exact ⟨rfl, B5⟩
      · rw [if_neg hi] at M1
        go_wp2_with (first
          | ((with_reducible show wpList _ _ _ ({ dst := _, op := Op.store 28 (Operand.tmp 24) _, type := _, pos := _, after := _, guard := _ } :: _) _ _); refine stLst (w4.heap.size) (by rfl) _ (pkC (conA cli keep clean false false true ret (q % 4) x) s4) (by rfl) (by rfl) (by rfl) (by rfl) (pkc_one _ _) ?_)
          | ((with_reducible show wpList _ _ _ ({ dst := _, op := Op.load 28 (Operand.tmp 19), type := _, pos := _, after := _, guard := _ } :: _) _ _); refine ld_pk g (by rfl) (by rfl) (pkC (conA cli keep clean false false true ret (q % 4) x) (svCon A c false true)) _ _ (by exact r4) (by rfl) ?_)
          | ((with_reducible show wpList _ _ _ ({ dst := _, op := Op.load 28 (Operand.tmp 24), type := _, pos := _, after := _, guard := _ } :: _) _ _); refine ld_pk (w4.heap.size) (by rfl) (by rfl) (pkC (conA cli keep clean false false true ret (q % 4) x) s4) _ _ (by exact heap_alloc_last _ _) (by rfl) ?_)
          | (go_at_call 22; refine (SM.out _ rfl).mono ?_; rintro e w5 ⟨rfl, hb5⟩; have B5 := thn B4 hb5; have cvS := (BytesAt.takeL (BytesAt.drop (Y4.out.to (by have := HSZ.out; simp; omega) hb5) 2 (by omega)) 6 (by simp; omega)).conv; rw [M1.out] at cvS; rw [show ad.add 2 = ⟨ad.block, ad.off + 2, none⟩ from rfl] at cvS))
        go_ret
        exact ⟨rfl, B5⟩
  · go_enter Try.func8, Try.ntmps8
    go_wp2_with fail
    refine (known3_any w).mono ?_
    rintro e w1 ⟨rfl, hb1⟩
    go_wp2_with (first
      | ((with_reducible show wpList _ _ _ ({ dst := _, op := Op.store 28 (Operand.tmp 19) _, type := _, pos := _, after := _, guard := _ } :: _) _ _); refine stLst (w1.heap.size) (by rfl) _ #[.int .i64 1, .bool false, .bool false, .int .i64 0, .int .i64 0, .string ⟨#[]⟩, .slice none 0 0, .int .i64 4, .string cli, .bool clean, .int .i64 keep, .bool false, .string ⟨#[]⟩, .slice none 0 0, .int .i64 0, .bool false, .bool true, .bool false, .string ⟨#[]⟩, .slice none 0 0, .bool false, .int .i64 0, .slice none 0 0, .slice none 0 0] (by rfl) (by rfl) (by rfl) (by rfl) (by rfl) ?_)
      | ((with_reducible show wpList _ _ _ ({ dst := _, op := Op.load 28 (Operand.tmp 19), type := _, pos := _, after := _, guard := _ } :: _) _ _); refine ld_pk (w1.heap.size) (by rfl) (by rfl) (pkC (conA cli keep clean false true false ret (q % 4) x) (svCon A c false false)) _ _ (by exact heap_alloc_last _ _) (by rfl) ?_))
    have hpk : PkAt (w1.alloc (.cells (pkC (conA cli keep clean false true false ret (q % 4) x) (svCon A c false false)) 28)) w.heap.size (conA cli keep clean false true false ret (q % 4) x) (svCon A c false false) := conA_at _ _ _ _ _ _ _ _ _ _ _ _ _ (HV.out.to (Nat.le_refl _) (alB hb1 _))
    have r0 : (w1.alloc (.cells (pkC (conA cli keep clean false true false ret (q % 4) x) (svCon A c false false)) 28)).heap[w1.heap.size]? = some (.cells (pkC (conA cli keep clean false true false ret (q % 4) x) (svCon A c false false)) 28 (0, 0)) := heap_alloc_last _ _
    have bW : Below w.heap.size w (w1.alloc (.cells (pkC (conA cli keep clean false true false ret (q % 4) x) (svCon A c false false)) 28)) := alB hb1 _
    have sW : w1.heap.size < (w1.alloc (.cells (pkC (conA cli keep clean false true false ret (q % 4) x) (svCon A c false false)) 28)).heap.size := by simp
    have HPK := Lib.hid hpk
    have HOK := Lib.hid (conA_ok cli keep clean false true false ret (q % 4) x h1 h2 hk ⟨by omega, by omega⟩)
    have HNL := Lib.hid (conA_nil A c false false HN.out)
    have HLI := Lib.hid (conA_lite cli keep clean false true false ret (q % 4) x)
    have HLN := Lib.hid (conA_len cli keep clean false true false ret (q % 4) x h1 h2)
    have HMQ := Lib.hid (enc_mqtt (conA cli keep clean false true false ret (q % 4) x) rfl HLN.out.1 HLN.out.2)
    clear hpk
    show Calls _ _ _ (w1.alloc (.cells (pkC (conA cli keep clean false true false ret (q % 4) x) (svCon A c false false)) 28)) _
    generalize w1.alloc (.cells (pkC (conA cli keep clean false true false ret (q % 4) x) (svCon A c false false)) 28) = W0 at *
    have hw1 : w.heap.size ≤ W0.heap.size := bW.size
    have g1 : w1.heap.size < W0.heap.size := sW
    generalize w1.heap.size = g at *
    rcases hr : rightP (conA cli keep clean false true false ret (q % 4) x) with _ | _
    · have HR := Lib.hid hr
      clear hr HMQ
      refine (wput_no (conA cli keep clean false true false ret (q % 4) x) (svCon A c false false) w.heap.size W0 HPK.out hw1 HOK.out HR.out).mono ?_
      rintro e w2 ⟨rfl, hb2⟩
      have r2 := heap_below hb2 r0
      go_wp2_with ((with_reducible show wpList _ _ _ ({ dst := _, op := Op.load 28 (Operand.tmp 19), type := _, pos := _, after := _, guard := _ } :: _) _ _); refine ld_pk g (by rfl) (by rfl) (pkC (conA cli keep clean false true false ret (q % 4) x) (svCon A c false false)) _ _ (by exact r2) (by rfl) ?_)
      refine (dput_all_no (conA cli keep clean false true false ret (q % 4) x) (svCon A c false false) w.heap.size w2 (HPK.out.to hw1 hb2) (Nat.le_trans hw1 hb2.size) HOK.out HNL.out.p HLI.out HR.out).mono ?_
      rintro e w3 ⟨rfl, hb3⟩
      have cv0 : (convert 22 9 (.slice none 0 0)).run Try.prog w3 = .ok (.string ⟨#[]⟩) w3 := (bytes_nil w3 0).conv
      go_wp2_with fail
      go_ret
      exact ⟨rfl, thn (thn bW hb2) hb3⟩
    · have HR := Lib.hid hr
      clear hr
      refine (wput_yes (conA cli keep clean false true false ret (q % 4) x) (svCon A c false false) w.heap.size W0 HPK.out hw1 HOK.out HNL.out HR.out).mono ?_
      unfold PutPost
      rintro e w2 ⟨A1, c1, rfl, o1, hb2⟩
      have r2 := heap_below hb2 r0
      have D2 := Lib.hid (dput_all_yes (conA cli keep clean false true false ret (q % 4) x) (svCon A c false false) w.heap.size w2 (HPK.out.to hw1 hb2) (Nat.le_trans hw1 hb2.size) HOK.out HNL.out.p HLI.out HR.out)
      have HRD := Lib.hid (rd_enc (conA cli keep clean false true false ret (q % 4) x) HR.out [])
      rw [List.append_nil] at HRD
      have HPQ := Lib.hid (HPK.out.to hw1 hb2)
      generalize encP (conA cli keep clean false true false ret (q % 4) x) = L at *
      have y1 := ownsBytes o1
      obtain ⟨m1, m2, m3⟩ := HMQ.out
      have M1 := Lib.hid m1
      clear HMQ m1 o1
      rcases A1 with _ | ad
      · have := y1.nz (by omega) rfl
        obtain ⟨A', c', hv1, hc, _, hz, _⟩ := y1
        injection hv1 with v1 v2 v3
        rw [hz v1.symm] at m2
        simp at m2
      go_wp2_with ((with_reducible show wpList _ _ _ ({ dst := _, op := Op.load 28 (Operand.tmp 19), type := _, pos := _, after := _, guard := _ } :: _) _ _); refine ld_pk g (by rfl) (by rfl) (pkC (conA cli keep clean false true false ret (q % 4) x) (svCon A c false false)) _ _ (by exact r2) (by rfl) ?_)
      refine D2.out.mono ?_
      unfold PutPost
      rintro e w3 ⟨A2, c2, rfl, o2, hb3⟩
      have y3 := y1.on hb3
      have cv1 := y3.conv
      have cv2 := (ownsBytes o2).conv
      have r3 := heap_below hb3 r2
      have B3 : Below w.heap.size w w3 := thn (thn bW hb2) hb3
      have HPQ3 := Lib.hid (HPQ.out.to (Nat.le_trans hw1 hb2.size) hb3)
      have Y3 := Lib.hid y3
      clear o2 y1 y3 D2 hb2 hb3 r2 r0 HPQ HPK
      go_wp2_with fail
      refine (wread_any (some ad) c1 L w3 Y3.out (by omega)).mono ?_
      rw [HRD.out]
      rintro e w4 ⟨s4, rfl, o4, hb4⟩
      have r4 := heap_keep (o' := .cells (pkC (conA cli keep clean false true false ret (q % 4) x) s4) 28) (heap_below hb4 r3)
      have B4 : Below w.heap.size w (w4.alloc (.cells (pkC (conA cli keep clean false true false ret (q % 4) x) s4) 28)) := alB (thn B3 hb4) _
      have Y4 := Lib.hid (Y3.out.to (Nat.le_refl _) (alB hb4 (.cells (pkC (conA cli keep clean false true false ret (q % 4) x) s4) 28 (0, 0))))
      have Q4 := Lib.hid (o4.at_.to (Nat.le_refl _) (alB (Below.refl _ _) (.cells (pkC (conA cli keep clean false true false ret (q % 4) x) s4) 28 (0, 0))))
      have P4 := Lib.hid ((HPQ3.out.to B3.size (alB hb4 (.cells (pkC (conA cli keep clean false true false ret (q % 4) x) s4) 28 (0, 0)))).more (Nat.le_trans B3.size hb4.size))
      have SM := Lib.hid (fun W (hbb : W = w4.alloc (.cells (pkC (conA cli keep clean false true false ret (q % 4) x) s4) 28 (0, 0))) => by
        subst hbb
        exact (rsame_any (conA cli keep clean false true false ret (q % 4) x) (conA cli keep clean false true false ret (q % 4) x) (svCon A c false false) s4 w4.heap.size _ P4.out Q4.out (by simp) (Nat.zero_le _) (Nat.zero_le _)).mono (fun e w' h => (⟨h.1.trans (by simp), h.2⟩ : e = .returned (.bool true) ∧ Below _ _ w')))
      have HSZ := Lib.hid hb4.size
      have hcap : L.length ≤ c1 ∧ c1 ≤ 9223372036854775807 := by
        obtain ⟨A', c', hv1, hc, hcm, _⟩ := Y4.out
        injection hv1 with v1 v2 v3
        subst v3
        unfold maxLen at hcm
        omega
      clear r3 HPQ3 o4 hb4 B3 cv1 cv2
      by_cases hi : 129 < L.length
      · rw [if_pos hi] at M1
        go_wp2_with (first
          | ((with_reducible show wpList _ _ _ ({ dst := _, op := Op.store 28 (Operand.tmp 24) _, type := _, pos := _, after := _, guard := _ } :: _) _ _); refine stLst (w4.heap.size) (by rfl) _ (pkC (conA cli keep clean false true false ret (q % 4) x) s4) (by rfl) (by rfl) (by rfl) (by rfl) (pkc_one _ _) ?_)
          | ((with_reducible show wpList _ _ _ ({ dst := _, op := Op.load 28 (Operand.tmp 19), type := _, pos := _, after := _, guard := _ } :: _) _ _); refine ld_pk g (by rfl) (by rfl) (pkC (conA cli keep clean false true false ret (q % 4) x) (svCon A c false false)) _ _ (by exact r4) (by rfl) ?_)
          | ((with_reducible show wpList _ _ _ ({ dst := _, op := Op.load 28 (Operand.tmp 24), type := _, pos := _, after := _, guard := _ } :: _) _ _); refine ld_pk (w4.heap.size) (by rfl) (by rfl) (pkC (conA cli keep clean false true false ret (q % 4) x) s4) _ _ (by exact heap_alloc_last _ _) (by rfl) ?_)
          | (go_at_call 22; refine (SM.out _ rfl).mono ?_; rintro e w5 ⟨rfl, hb5⟩; have B5 := thn B4 hb5; have cvS := (BytesAt.takeL (BytesAt.drop (Y4.out.to (by have := HSZ.out; simp; omega) hb5) 3 (by omega)) 6 (by simp; omega)).conv; rw [M1.out] at cvS; rw [show ad.add 3 = ⟨ad.block, ad.off + 3, none⟩ from rfl] at cvS))
        go_ret
        exact ⟨rfl, B5⟩
      · rw [if_neg hi] at M1
        go_wp2_with (first
          | ((with_reducible show wpList _ _ _ ({ dst := _, op := Op.store 28 (Operand.tmp 24) _, type := _, pos := _, after := _, guard := _ } :: _) _ _); refine stLst (w4.heap.size) (by rfl) _ (pkC (conA cli keep clean false true false ret (q % 4) x) s4) (by rfl) (by rfl) (by rfl) (by rfl) (pkc_one _ _) ?_)
          | ((with_reducible show wpList _ _ _ ({ dst := _, op := Op.load 28 (Operand.tmp 19), type := _, pos := _, after := _, guard := _ } :: _) _ _); refine ld_pk g (by rfl) (by rfl) (pkC (conA cli keep clean false true false ret (q % 4) x) (svCon A c false false)) _ _ (by exact r4) (by rfl) ?_)
          | ((with_reducible show wpList _ _ _ ({ dst := _, op := Op.load 28 (Operand.tmp 24), type := _, pos := _, after := _, guard := _ } :: _) _ _); refine ld_pk (w4.heap.size) (by rfl) (by rfl) (pkC (conA cli keep clean false true false ret (q % 4) x) s4) _ _ (by exact heap_alloc_last _ _) (by rfl) ?_)
          | (go_at_call 22; refine (SM.out _ rfl).mono ?_; rintro e w5 ⟨rfl, hb5⟩; have B5 := thn B4 hb5; have cvS := (BytesAt.takeL (BytesAt.drop (Y4.out.to (by have := HSZ.out; simp; omega) hb5) 2 (by omega)) 6 (by simp; omega)).conv; rw [M1.out] at cvS; rw [show ad.add 2 = ⟨ad.block, ad.off + 2, none⟩ from rfl] at cvS))
        go_ret
        exact ⟨rfl, B5⟩
  · go_enter Try.func8, Try.ntmps8
    go_wp2_with fail
    refine (known3_any w).mono ?_
    rintro e w1 ⟨rfl, hb1⟩
    go_wp2_with (first
      | ((with_reducible show wpList _ _ _ ({ dst := _, op := Op.store 28 (Operand.tmp 19) _, type := _, pos := _, after := _, guard := _ } :: _) _ _); refine stLst (w1.heap.size) (by rfl) _ #[.int .i64 1, .bool false, .bool false, .int .i64 0, .int .i64 0, .string ⟨#[]⟩, .slice none 0 0, .int .i64 4, .string cli, .bool clean, .int .i64 keep, .bool false, .string ⟨#[]⟩, .slice none 0 0, .int .i64 0, .bool false, .bool true, .bool true, .string ⟨#[]⟩, .slice none 0 0, .bool false, .int .i64 0, .slice none 0 0, .slice none 0 0] (by rfl) (by rfl) (by rfl) (by rfl) (by rfl) ?_)
      | ((with_reducible show wpList _ _ _ ({ dst := _, op := Op.load 28 (Operand.tmp 19), type := _, pos := _, after := _, guard := _ } :: _) _ _); refine ld_pk (w1.heap.size) (by rfl) (by rfl) (pkC (conA cli keep clean false true true ret (q % 4) x) (svCon A c false true)) _ _ (by exact heap_alloc_last _ _) (by rfl) ?_))
    have hpk : PkAt (w1.alloc (.cells (pkC (conA cli keep clean false true true ret (q % 4) x) (svCon A c false true)) 28)) w.heap.size (conA cli keep clean false true true ret (q % 4) x) (svCon A c false true) := conA_at _ _ _ _ _ _ _ _ _ _ _ _ _ (HV.out.to (Nat.le_refl _) (alB hb1 _))
    have r0 : (w1.alloc (.cells (pkC (conA cli keep clean false true true ret (q % 4) x) (svCon A c false true)) 28)).heap[w1.heap.size]? = some (.cells (pkC (conA cli keep clean false true true ret (q % 4) x) (svCon A c false true)) 28 (0, 0)) := heap_alloc_last _ _
    have bW : Below w.heap.size w (w1.alloc (.cells (pkC (conA cli keep clean false true true ret (q % 4) x) (svCon A c false true)) 28)) := alB hb1 _
    have sW : w1.heap.size < (w1.alloc (.cells (pkC (conA cli keep clean false true true ret (q % 4) x) (svCon A c false true)) 28)).heap.size := by simp
    have HPK := Lib.hid hpk
    have HOK := Lib.hid (conA_ok cli keep clean false true true ret (q % 4) x h1 h2 hk ⟨by omega, by omega⟩)
    have HNL := Lib.hid (conA_nil A c false true HN.out)
    have HLI := Lib.hid (conA_lite cli keep clean false true true ret (q % 4) x)
    have HLN := Lib.hid (conA_len cli keep clean false true true ret (q % 4) x h1 h2)
    have HMQ := Lib.hid (enc_mqtt (conA cli keep clean false true true ret (q % 4) x) rfl HLN.out.1 HLN.out.2)
    clear hpk
    show Calls _ _ _ (w1.alloc (.cells (pkC (conA cli keep clean false true true ret (q % 4) x) (svCon A c false true)) 28)) _
    generalize w1.alloc (.cells (pkC (conA cli keep clean false true true ret (q % 4) x) (svCon A c false true)) 28) = W0 at *
    have hw1 : w.heap.size ≤ W0.heap.size := bW.size
    have g1 : w1.heap.size < W0.heap.size := sW
    generalize w1.heap.size = g at *
    rcases hr : rightP (conA cli keep clean false true true ret (q % 4) x) with _ | _
    · have HR := Lib.hid hr
      clear hr HMQ
      refine (wput_no (conA cli keep clean false true true ret (q % 4) x) (svCon A c false true) w.heap.size W0 HPK.out hw1 HOK.out HR.out).mono ?_
      rintro e w2 ⟨rfl, hb2⟩
      have r2 := heap_below hb2 r0
      go_wp2_with ((with_reducible show wpList _ _ _ ({ dst := _, op := Op.load 28 (Operand.tmp 19), type := _, pos := _, after := _, guard := _ } :: _) _ _); refine ld_pk g (by rfl) (by rfl) (pkC (conA cli keep clean false true true ret (q % 4) x) (svCon A c false true)) _ _ (by exact r2) (by rfl) ?_)
      refine (dput_all_no (conA cli keep clean false true true ret (q % 4) x) (svCon A c false true) w.heap.size w2 (HPK.out.to hw1 hb2) (Nat.le_trans hw1 hb2.size) HOK.out HNL.out.p HLI.out HR.out).mono ?_
      rintro e w3 ⟨rfl, hb3⟩
      have cv0 : (convert 22 9 (.slice none 0 0)).run Try.prog w3 = .ok (.string ⟨#[]⟩) w3 := (bytes_nil w3 0).conv
      go_wp2_with fail
      go_ret
      exact ⟨rfl, thn (thn bW hb2) hb3⟩
    · have HR := Lib.hid hr
      clear hr
      refine (wput_yes (conA cli keep clean false true true ret (q % 4) x) (svCon A c false true) w.heap.size W0 HPK.out hw1 HOK.out HNL.out HR.out).mono ?_
      unfold PutPost
      rintro e w2 ⟨A1, c1, rfl, o1, hb2⟩
      have r2 := heap_below hb2 r0
      have D2 := Lib.hid (dput_all_yes (conA cli keep clean false true true ret (q % 4) x) (svCon A c false true) w.heap.size w2 (HPK.out.to hw1 hb2) (Nat.le_trans hw1 hb2.size) HOK.out HNL.out.p HLI.out HR.out)
      have HRD := Lib.hid (rd_enc (conA cli keep clean false true true ret (q % 4) x) HR.out [])
      rw [List.append_nil] at HRD
      have HPQ := Lib.hid (HPK.out.to hw1 hb2)
      generalize encP (conA cli keep clean false true true ret (q % 4) x) = L at *
      have y1 := ownsBytes o1
      obtain ⟨m1, m2, m3⟩ := HMQ.out
      have M1 := Lib.hid m1
      clear HMQ m1 o1
      rcases A1 with _ | ad
      · have := y1.nz (by omega) rfl
        obtain ⟨A', c', hv1, hc, _, hz, _⟩ := y1
        injection hv1 with v1 v2 v3
        rw [hz v1.symm] at m2
        simp at m2
      go_wp2_with ((with_reducible show wpList _ _ _ ({ dst := _, op := Op.load 28 (Operand.tmp 19), type := _, pos := _, after := _, guard := _ } :: _) _ _); refine ld_pk g (by rfl) (by rfl) (pkC (conA cli keep clean false true true ret (q % 4) x) (svCon A c false true)) _ _ (by exact r2) (by rfl) ?_)
      refine D2.out.mono ?_
      unfold PutPost
      rintro e w3 ⟨A2, c2, rfl, o2, hb3⟩
      have y3 := y1.on hb3
      have cv1 := y3.conv
      have cv2 := (ownsBytes o2).conv
      have r3 := heap_below hb3 r2
      have B3 : Below w.heap.size w w3 := thn (thn bW hb2) hb3
      have HPQ3 := Lib.hid (HPQ.out.to (Nat.le_trans hw1 hb2.size) hb3)
      have Y3 := Lib.hid y3
      clear o2 y1 y3 D2 hb2 hb3 r2 r0 HPQ HPK
      go_wp2_with fail
      refine (wread_any (some ad) c1 L w3 Y3.out (by omega)).mono ?_
      rw [HRD.out]
      rintro e w4 ⟨s4, rfl, o4, hb4⟩
      have r4 := heap_keep (o' := .cells (pkC (conA cli keep clean false true true ret (q % 4) x) s4) 28) (heap_below hb4 r3)
      have B4 : Below w.heap.size w (w4.alloc (.cells (pkC (conA cli keep clean false true true ret (q % 4) x) s4) 28)) := alB (thn B3 hb4) _
      have Y4 := Lib.hid (Y3.out.to (Nat.le_refl _) (alB hb4 (.cells (pkC (conA cli keep clean false true true ret (q % 4) x) s4) 28 (0, 0))))
      have Q4 := Lib.hid (o4.at_.to (Nat.le_refl _) (alB (Below.refl _ _) (.cells (pkC (conA cli keep clean false true true ret (q % 4) x) s4) 28 (0, 0))))
      have P4 := Lib.hid ((HPQ3.out.to B3.size (alB hb4 (.cells (pkC (conA cli keep clean false true true ret (q % 4) x) s4) 28 (0, 0)))).more (Nat.le_trans B3.size hb4.size))
      have SM := Lib.hid (fun W (hbb : W = w4.alloc (.cells (pkC (conA cli keep clean false true true ret (q % 4) x) s4) 28 (0, 0))) => by
        subst hbb
        exact (rsame_any (conA cli keep clean false true true ret (q % 4) x) (conA cli keep clean false true true ret (q % 4) x) (svCon A c false true) s4 w4.heap.size _ P4.out Q4.out (by simp) (Nat.zero_le _) (Nat.zero_le _)).mono (fun e w' h => (⟨h.1.trans (by simp), h.2⟩ : e = .returned (.bool true) ∧ Below _ _ w')))
      have HSZ := Lib.hid hb4.size
      have hcap : L.length ≤ c1 ∧ c1 ≤ 9223372036854775807 := by
        obtain ⟨A', c', hv1, hc, hcm, _⟩ := Y4.out
        injection hv1 with v1 v2 v3
        subst v3
        unfold maxLen at hcm
        omega
      clear r3 HPQ3 o4 hb4 B3 cv1 cv2
      by_cases hi : 129 < L.length
      · rw [if_pos hi] at M1
        go_wp2_with (first
          | ((with_reducible show wpList _ _ _ ({ dst := _, op := Op.store 28 (Operand.tmp 24) _, type := _, pos := _, after := _, guard := _ } :: _) _ _); refine stLst (w4.heap.size) (by rfl) _ (pkC (conA cli keep clean false true true ret (q % 4) x) s4) (by rfl) (by rfl) (by rfl) (by rfl) (pkc_one _ _) ?_)
          | ((with_reducible show wpList _ _ _ ({ dst := _, op := Op.load 28 (Operand.tmp 19), type := _, pos := _, after := _, guard := _ } :: _) _ _); refine ld_pk g (by rfl) (by rfl) (pkC (conA cli keep clean false true true ret (q % 4) x) (svCon A c false true)) _ _ (by exact r4) (by rfl) ?_)
          | ((with_reducible show wpList _ _ _ ({ dst := _, op := Op.load 28 (Operand.tmp 24), type := _, pos := _, after := _, guard := _ } :: _) _ _); refine ld_pk (w4.heap.size) (by rfl) (by rfl) (pkC (conA cli keep clean false true true ret (q % 4) x) s4) _ _ (by exact heap_alloc_last _ _) (by rfl) ?_)
          | (go_at_call 22; refine (SM.out _ rfl).mono ?_; rintro e w5 ⟨rfl, hb5⟩; have B5 := thn B4 hb5; have cvS := (BytesAt.takeL (BytesAt.drop (Y4.out.to (by have := HSZ.out; simp; omega) hb5) 3 (by omega)) 6 (by simp; omega)).conv; rw [M1.out] at cvS; rw [show ad.add 3 = ⟨ad.block, ad.off + 3, none⟩ from rfl] at cvS))
        go_ret
        exact ⟨rfl, B5⟩
      · rw [if_neg hi] at M1
        go_wp2_with (first
          | ((with_reducible show wpList _ _ _ ({ dst := _, op := Op.store 28 (Operand.tmp 24) _, type := _, pos := _, after := _, guard := _ } :: _) _ _); refine stLst (w4.heap.size) (by rfl) _ (pkC (conA cli keep clean false true true ret (q % 4) x) s4) (by rfl) (by rfl) (by rfl) (by rfl) (pkc_one _ _) ?_)
          | ((with_reducible show wpList _ _ _ ({ dst := _, op := Op.load 28 (Operand.tmp 19), type := _, pos := _, after := _, guard := _ } :: _) _ _); refine ld_pk g (by rfl) (by rfl) (pkC (conA cli keep clean false true true ret (q % 4) x) (svCon A c false true)) _ _ (by exact r4) (by rfl) ?_)
          | ((with_reducible show wpList _ _ _ ({ dst := _, op := Op.load 28 (Operand.tmp 24), type := _, pos := _, after := _, guard := _ } :: _) _ _); refine ld_pk (w4.heap.size) (by rfl) (by rfl) (pkC (conA cli keep clean false true true ret (q % 4) x) s4) _ _ (by exact heap_alloc_last _ _) (by rfl) ?_)
          | (go_at_call 22; refine (SM.out _ rfl).mono ?_; rintro e w5 ⟨rfl, hb5⟩; have B5 := thn B4 hb5; have cvS := (BytesAt.takeL (BytesAt.drop (Y4.out.to (by have := HSZ.out; simp; omega) hb5) 2 (by omega)) 6 (by simp; omega)).conv; rw [M1.out] at cvS; rw [show ad.add 2 = ⟨ad.block, ad.off + 2, none⟩ from rfl] at cvS))
        go_ret
        exact ⟨rfl, B5⟩
  · go_enter Try.func8, Try.ntmps8
    go_wp2_with fail
    refine (known3_any w).mono ?_
    rintro e w1 ⟨rfl, hb1⟩
    go_wp2_with (first
      | ((with_reducible show wpList _ _ _ ({ dst := _, op := Op.store 28 (Operand.tmp 19) _, type := _, pos := _, after := _, guard := _ } :: _) _ _); refine stLst (w1.heap.size) (by rfl) _ #[.int .i64 1, .bool false, .bool false, .int .i64 0, .int .i64 0, .string ⟨#[]⟩, .slice none 0 0, .int .i64 4, .string cli, .bool clean, .int .i64 keep, .bool true, .string ⟨#[]⟩, .slice none 0 0, .int .i64 0, .bool false, .bool false, .bool false, .string ⟨#[]⟩, .slice none 0 0, .bool false, .int .i64 0, .slice none 0 0, .slice none 0 0] (by rfl) (by rfl) (by rfl) (by rfl) (by rfl) ?_)
      | ((with_reducible show wpList _ _ _ ({ dst := _, op := Op.load 28 (Operand.tmp 19), type := _, pos := _, after := _, guard := _ } :: _) _ _); refine ld_pk (w1.heap.size) (by rfl) (by rfl) (pkC (conA cli keep clean true false false ret (q % 4) x) (svCon A c true false)) _ _ (by exact heap_alloc_last _ _) (by rfl) ?_))
    have hpk : PkAt (w1.alloc (.cells (pkC (conA cli keep clean true false false ret (q % 4) x) (svCon A c true false)) 28)) w.heap.size (conA cli keep clean true false false ret (q % 4) x) (svCon A c true false) := conA_at _ _ _ _ _ _ _ _ _ _ _ _ _ (HV.out.to (Nat.le_refl _) (alB hb1 _))
    have r0 : (w1.alloc (.cells (pkC (conA cli keep clean true false false ret (q % 4) x) (svCon A c true false)) 28)).heap[w1.heap.size]? = some (.cells (pkC (conA cli keep clean true false false ret (q % 4) x) (svCon A c true false)) 28 (0, 0)) := heap_alloc_last _ _
    have bW : Below w.heap.size w (w1.alloc (.cells (pkC (conA cli keep clean true false false ret (q % 4) x) (svCon A c true false)) 28)) := alB hb1 _
    have sW : w1.heap.size < (w1.alloc (.cells (pkC (conA cli keep clean true false false ret (q % 4) x) (svCon A c true false)) 28)).heap.size := by simp
    have HPK := Lib.hid hpk
    have HOK := Lib.hid (conA_ok cli keep clean true false false ret (q % 4) x h1 h2 hk ⟨by omega, by omega⟩)
    have HNL := Lib.hid (conA_nil A c true false HN.out)
    have HLI := Lib.hid (conA_lite cli keep clean true false false ret (q % 4) x)
    have HLN := Lib.hid (conA_len cli keep clean true false false ret (q % 4) x h1 h2)
    have HMQ := Lib.hid (enc_mqtt (conA cli keep clean true false false ret (q % 4) x) rfl HLN.out.1 HLN.out.2)
    clear hpk
    show Calls _ _ _ (w1.alloc (.cells (pkC (conA cli keep clean true false false ret (q % 4) x) (svCon A c true false)) 28)) _
    generalize w1.alloc (.cells (pkC (conA cli keep clean true false false ret (q % 4) x) (svCon A c true false)) 28) = W0 at *
    have hw1 : w.heap.size ≤ W0.heap.size := bW.size
    have g1 : w1.heap.size < W0.heap.size := sW
    generalize w1.heap.size = g at *
    rcases hr : rightP (conA cli keep clean true false false ret (q % 4) x) with _ | _
    · have HR := Lib.hid hr
      clear hr HMQ
      refine (wput_no (conA cli keep clean true false false ret (q % 4) x) (svCon A c true false) w.heap.size W0 HPK.out hw1 HOK.out HR.out).mono ?_
      rintro e w2 ⟨rfl, hb2⟩
      have r2 := heap_below hb2 r0
      go_wp2_with ((with_reducible show wpList _ _ _ ({ dst := _, op := Op.load 28 (Operand.tmp 19), type := _, pos := _, after := _, guard := _ } :: _) _ _); refine ld_pk g (by rfl) (by rfl) (pkC (conA cli keep clean true false false ret (q % 4) x) (svCon A c true false)) _ _ (by exact r2) (by rfl) ?_)
      refine (dput_all_no (conA cli keep clean true false false ret (q % 4) x) (svCon A c true false) w.heap.size w2 (HPK.out.to hw1 hb2) (Nat.le_trans hw1 hb2.size) HOK.out HNL.out.p HLI.out HR.out).mono ?_
      rintro e w3 ⟨rfl, hb3⟩
      have cv0 : (convert 22 9 (.slice none 0 0)).run Try.prog w3 = .ok (.string ⟨#[]⟩) w3 := (bytes_nil w3 0).conv
      go_wp2_with fail
      go_ret
      exact ⟨rfl, thn (thn bW hb2) hb3⟩
    · have HR := Lib.hid hr
      clear hr
      refine (wput_yes (conA cli keep clean true false false ret (q % 4) x) (svCon A c true false) w.heap.size W0 HPK.out hw1 HOK.out HNL.out HR.out).mono ?_
      unfold PutPost
      rintro e w2 ⟨A1, c1, rfl, o1, hb2⟩
      have r2 := heap_below hb2 r0
      have D2 := Lib.hid (dput_all_yes (conA cli keep clean true false false ret (q % 4) x) (svCon A c true false) w.heap.size w2 (HPK.out.to hw1 hb2) (Nat.le_trans hw1 hb2.size) HOK.out HNL.out.p HLI.out HR.out)
      have HRD := Lib.hid (rd_enc (conA cli keep clean true false false ret (q % 4) x) HR.out [])
      rw [List.append_nil] at HRD
      have HPQ := Lib.hid (HPK.out.to hw1 hb2)
      generalize encP (conA cli keep clean true false false ret (q % 4) x) = L at *
      have y1 := ownsBytes o1
      obtain ⟨m1, m2, m3⟩ := HMQ.out
      have M1 := Lib.hid m1
      clear HMQ m1 o1
      rcases A1 with _ | ad
      · have := y1.nz (by omega) rfl
        obtain ⟨A', c', hv1, hc, _, hz, _⟩ := y1
        injection hv1 with v1 v2 v3
        rw [hz v1.symm] at m2
        simp at m2
      go_wp2_with ((with_reducible show wpList _ _ _ ({ dst := _, op := Op.load 28 (Operand.tmp 19), type := _, pos := _, after := _, guard := _ } :: _) _ _); refine ld_pk g (by rfl) (by rfl) (pkC (conA cli keep clean true false false ret (q % 4) x) (svCon A c true false)) _ _ (by exact r2) (by rfl) ?_)
      refine D2.out.mono ?_
      unfold PutPost
      rintro e w3 ⟨A2, c2, rfl, o2, hb3⟩
      have y3 := y1.on hb3
      have cv1 := y3.conv
      have cv2 := (ownsBytes o2).conv
      have r3 := heap_below hb3 r2
      have B3 : Below w.heap.size w w3 := thn (thn bW hb2) hb3
      have HPQ3 := Lib.hid (HPQ.out.to (Nat.le_trans hw1 hb2.size) hb3)
      have Y3 := Lib.hid y3
      clear o2 y1 y3 D2 hb2 hb3 r2 r0 HPQ HPK
      go_wp2_with fail
      refine (wread_any (some ad) c1 L w3 Y3.out (by omega)).mono ?_
      rw [HRD.out]
      rintro e w4 ⟨s4, rfl, o4, hb4⟩
      have r4 := heap_keep (o' := .cells (pkC (conA cli keep clean true false false ret (q % 4) x) s4) 28) (heap_below hb4 r3)
      have B4 : Below w.heap.size w (w4.alloc (.cells (pkC (conA cli keep clean true false false ret (q % 4) x) s4) 28)) := alB (thn B3 hb4) _
      have Y4 := Lib.hid (Y3.out.to (Nat.le_refl _) (alB hb4 (.cells (pkC (conA cli keep clean true false false ret (q % 4) x) s4) 28 (0, 0))))
      have Q4 := Lib.hid (o4.at_.to (Nat.le_refl _) (alB (Below.refl _ _) (.cells (pkC (conA cli keep clean true false false ret (q % 4) x) s4) 28 (0, 0))))
      have P4 := Lib.hid ((HPQ3.out.to B3.size (alB hb4 (.cells (pkC (conA cli keep clean true false false ret (q % 4) x) s4) 28 (0, 0)))).more (Nat.le_trans B3.size hb4.size))
      have SM := Lib.hid (fun W (hbb : W = w4.alloc (.cells (pkC (conA cli keep clean true false false ret (q % 4) x) s4) 28 (0, 0))) => by
        subst hbb
        exact (rsame_any (conA cli keep clean true false false ret (q % 4) x) (conA cli keep clean true false false ret (q % 4) x) (svCon A c true false) s4 w4.heap.size _ P4.out Q4.out (by simp) (Nat.zero_le _) (Nat.zero_le _)).mono (fun e w' h => (⟨h.1.trans (by simp), h.2⟩ : e = .returned (.bool true) ∧ Below _ _ w')))
      have HSZ := Lib.hid hb4.size
      have hcap : L.length ≤ c1 ∧ c1 ≤ 9223372036854775807 := by
        obtain ⟨A', c', hv1, hc, hcm, _⟩ := Y4.out
        injection hv1 with v1 v2 v3
        subst v3
        unfold maxLen at hcm
        omega
      clear r3 HPQ3 o4 hb4 B3 cv1 cv2
      by_cases hi : 129 < L.length
      · rw [if_pos hi] at M1
        go_wp2_with (first
          | ((with_reducible show wpList _ _ _ ({ dst := _, op := Op.store 28 (Operand.tmp 24) _, type := _, pos := _, after := _, guard := _ } :: _) _ _); refine stLst (w4.heap.size) (by rfl) _ (pkC (conA cli keep clean true false false ret (q % 4) x) s4) (by rfl) (by rfl) (by rfl) (by rfl) (pkc_one _ _) ?_)
          | ((with_reducible show wpList _ _ _ ({ dst := _, op := Op.load 28 (Operand.tmp 19), type := _, pos := _, after := _, guard := _ } :: _) _ _); refine ld_pk g (by rfl) (by rfl) (pkC (conA cli keep clean true false false ret (q % 4) x) (svCon A c true false)) _ _ (by exact r4) (by rfl) ?_)
          | ((with_reducible show wpList _ _ _ ({ dst := _, op := Op.load 28 (Operand.tmp 24), type := _, pos := _, after := _, guard := _ } :: _) _ _); refine ld_pk (w4.heap.size) (by rfl) (by rfl) (pkC (conA cli keep clean true false false ret (q % 4) x) s4) _ _ (by exact heap_alloc_last _ _) (by rfl) ?_)
          | (go_at_call 22; refine (SM.out _ rfl).mono ?_; rintro e w5 ⟨rfl, hb5⟩; have B5 := thn B4 hb5; have cvS := (BytesAt.takeL (BytesAt.drop (Y4.out.to (by have := HSZ.out; simp; omega) hb5) 3 (by omega)) 6 (by simp; omega)).conv; rw [M1.out] at cvS; rw [show ad.add 3 = ⟨ad.block, ad.off + 3, none⟩ from rfl] at cvS))
        go_ret
        exact ⟨rfl, B5⟩
      · rw [if_neg hi] at M1
        go_wp2_with (first
          | ((with_reducible show wpList _ _ _ ({ dst := _, op := Op.store 28 (Operand.tmp 24) _, type := _, pos := _, after := _, guard := _ } :: _) _ _); refine stLst (w4.heap.size) (by rfl) _ (pkC (conA cli keep clean true false false ret (q % 4) x) s4) (by rfl) (by rfl) (by rfl) (by rfl) (pkc_one _ _) ?_)
          | ((with_reducible show wpList _ _ _ ({ dst := _, op := Op.load 28 (Operand.tmp 19), type := _, pos := _, after := _, guard := _ } :: _) _ _); refine ld_pk g (by rfl) (by rfl) (pkC (conA cli keep clean true false false ret (q % 4) x) (svCon A c true false)) _ _ (by exact r4) (by rfl) ?_)
          | ((with_reducible show wpList _ _ _ ({ dst := _, op := Op.load 28 (Operand.tmp 24), type := _, pos := _, after := _, guard := _ } :: _) _ _); refine ld_pk (w4.heap.size) (by rfl) (by rfl) (pkC (conA cli keep clean true false false ret (q % 4) x) s4) _ _ (by exact heap_alloc_last _ _) (by rfl) ?_)
          | (go_at_call 22; refine (SM.out _ rfl).mono ?_; rintro e w5 ⟨rfl, hb5⟩; have B5 := thn B4 hb5; have cvS := (BytesAt.takeL (BytesAt.drop (Y4.out.to (by have := HSZ.out; simp; omega) hb5) 2 (by omega)) 6 (by simp; omega)).conv; rw [M1.out] at cvS; rw [show ad.add 2 = ⟨ad.block, ad.off + 2, none⟩ from rfl] at cvS))
        go_ret
        exact ⟨rfl, B5⟩
  · go_enter Try.func8, Try.ntmps8
    go_wp2_with fail
    refine (known3_any w).mono ?_
    rintro e w1 ⟨rfl, hb1⟩
    go_wp2_with (first
      | ((with_reducible show wpList _ _ _ ({ dst := _, op := Op.store 28 (Operand.tmp 19) _, type := _, pos := _, after := _, guard := _ } :: _) _ _); refine stLst (w1.heap.size) (by rfl) _ #[.int .i64 1, .bool false, .bool false, .int .i64 0, .int .i64 0, .string ⟨#[]⟩, .slice none 0 0, .int .i64 4, .string cli, .bool clean, .int .i64 keep, .bool true, .string ⟨#[]⟩, .slice none 0 0, .int .i64 0, .bool false, .bool false, .bool true, .string ⟨#[]⟩, .slice none 0 0, .bool false, .int .i64 0, .slice none 0 0, .slice none 0 0] (by rfl) (by rfl) (by rfl) (by rfl) (by rfl) ?_)
      | ((with_reducible show wpList _ _ _ ({ dst := _, op := Op.load 28 (Operand.tmp 19), type := _, pos := _, after := _, guard := _ } :: _) _ _); refine ld_pk (w1.heap.size) (by rfl) (by rfl) (pkC (conA cli keep clean true false true ret (q % 4) x) (svCon A c true true)) _ _ (by exact heap_alloc_last _ _) (by rfl) ?_))
    have hpk : PkAt (w1.alloc (.cells (pkC (conA cli keep clean true false true ret (q % 4) x) (svCon A c true true)) 28)) w.heap.size (conA cli keep clean true false true ret (q % 4) x) (svCon A c true true) := conA_at _ _ _ _ _ _ _ _ _ _ _ _ _ (HV.out.to (Nat.le_refl _) (alB hb1 _))
    have r0 : (w1.alloc (.cells (pkC (conA cli keep clean true false true ret (q % 4) x) (svCon A c true true)) 28)).heap[w1.heap.size]? = some (.cells (pkC (conA cli keep clean true false true ret (q % 4) x) (svCon A c true true)) 28 (0, 0)) := heap_alloc_last _ _
    have bW : Below w.heap.size w (w1.alloc (.cells (pkC (conA cli keep clean true false true ret (q % 4) x) (svCon A c true true)) 28)) := alB hb1 _
    have sW : w1.heap.size < (w1.alloc (.cells (pkC (conA cli keep clean true false true ret (q % 4) x) (svCon A c true true)) 28)).heap.size := by simp
    have HPK := Lib.hid hpk
    have HOK := Lib.hid (conA_ok cli keep clean true false true ret (q % 4) x h1 h2 hk ⟨by omega, by omega⟩)
    have HNL := Lib.hid (conA_nil A c true true HN.out)
    have HLI := Lib.hid (conA_lite cli keep clean true false true ret (q % 4) x)
    have HLN := Lib.hid (conA_len cli keep clean true false true ret (q % 4) x h1 h2)
    have HMQ := Lib.hid (enc_mqtt (conA cli keep clean true false true ret (q % 4) x) rfl HLN.out.1 HLN.out.2)
    clear hpk
    show Calls _ _ _ (w1.alloc (.cells (pkC (conA cli keep clean true false true ret (q % 4) x) (svCon A c true true)) 28)) _
    generalize w1.alloc (.cells (pkC (conA cli keep clean true false true ret (q % 4) x) (svCon A c true true)) 28) = W0 at *
    have hw1 : w.heap.size ≤ W0.heap.size := bW.size
    have g1 : w1.heap.size < W0.heap.size := sW
    generalize w1.heap.size = g at *
    rcases hr : rightP (conA cli keep clean true false true ret (q % 4) x) with _ | _
    · have HR := Lib.hid hr
      clear hr HMQ
      refine (wput_no (conA cli keep clean true false true ret (q % 4) x) (svCon A c true true) w.heap.size W0 HPK.out hw1 HOK.out HR.out).mono ?_
      rintro e w2 ⟨rfl, hb2⟩
      have r2 := heap_below hb2 r0
      go_wp2_with ((with_reducible show wpList _ _ _ ({ dst := _, op := Op.load 28 (Operand.tmp 19), type := _, pos := _, after := _, guard := _ } :: _) _ _); refine ld_pk g (by rfl) (by rfl) (pkC (conA cli keep clean true false true ret (q % 4) x) (svCon A c true true)) _ _ (by exact r2) (by rfl) ?_)
      refine (dput_all_no (conA cli keep clean true false true ret (q % 4) x) (svCon A c true true) w.heap.size w2 (HPK.out.to hw1 hb2) (Nat.le_trans hw1 hb2.size) HOK.out HNL.out.p HLI.out HR.out).mono ?_
      rintro e w3 ⟨rfl, hb3⟩
      have cv0 : (convert 22 9 (.slice none 0 0)).run Try.prog w3 = .ok (.string ⟨#[]⟩) w3 := (bytes_nil w3 0).conv
      go_wp2_with fail
      go_ret
      exact ⟨rfl, thn (thn bW hb2) hb3⟩
    · have HR := Lib.hid hr
      clear hr
      refine (wput_yes (conA cli keep clean true false true ret (q % 4) x) (svCon A c true true) w.heap.size W0 HPK.out hw1 HOK.out HNL.out HR.out).mono ?_
      unfold PutPost
      rintro e w2 ⟨A1, c1, rfl, o1, hb2⟩
      have r2 := heap_below hb2 r0
      have D2 := Lib.hid (dput_all_yes (conA cli keep clean true false true ret (q % 4) x) (svCon A c true true) w.heap.size w2 (HPK.out.to hw1 hb2) (Nat.le_trans hw1 hb2.size) HOK.out HNL.out.p HLI.out HR.out)
      have HRD := Lib.hid (rd_enc (conA cli keep clean true false true ret (q % 4) x) HR.out [])
      rw [List.append_nil] at HRD
      have HPQ := Lib.hid (HPK.out.to hw1 hb2)
      generalize encP (conA cli keep clean true false true ret (q % 4) x) = L at *
      have y1 := ownsBytes o1
      obtain ⟨m1, m2, m3⟩ := HMQ.out
      have M1 := Lib.hid m1
      clear HMQ m1 o1
      rcases A1 with _ | ad
      · have := y1.nz (by omega) rfl
        obtain ⟨A', c', hv1, hc, _, hz, _⟩ := y1
        injection hv1 with v1 v2 v3
        rw [hz v1.symm] at m2
        simp at m2
      go_wp2_with ((with_reducible show wpList _ _ _ ({ dst := _, op := Op.load 28 (Operand.tmp 19), type := _, pos := _, after := _, guard := _ } :: _) _ _); refine ld_pk g (by rfl) (by rfl) (pkC (conA cli keep clean true false true ret (q % 4) x) (svCon A c true true)) _ _ (by exact r2) (by rfl) ?_)
      refine D2.out.mono ?_
      unfold PutPost
      rintro e w3 ⟨A2, c2, rfl, o2, hb3⟩
      have y3 := y1.on hb3
      have cv1 := y3.conv
      have cv2 := (ownsBytes o2).conv
      have r3 := heap_below hb3 r2
      have B3 : Below w.heap.size w w3 := thn (thn bW hb2) hb3
      have HPQ3 := Lib.hid (HPQ.out.to (Nat.le_trans hw1 hb2.size) hb3)
      have Y3 := Lib.hid y3
      clear o2 y1 y3 D2 hb2 hb3 r2 r0 HPQ HPK
      go_wp2_with fail
      refine (wread_any (some ad) c1 L w3 Y3.out (by omega)).mono ?_
      rw [HRD.out]
      rintro e w4 ⟨s4, rfl, o4, hb4⟩
      have r4 := heap_keep (o' := .cells (pkC (conA cli keep clean true false true ret (q % 4) x) s4) 28) (heap_below hb4 r3)
      have B4 : Below w.heap.size w (w4.alloc (.cells (pkC (conA cli keep clean true false true ret (q % 4) x) s4) 28)) := alB (thn B3 hb4) _
      have Y4 := Lib.hid (Y3.out.to (Nat.le_refl _) (alB hb4 (.cells (pkC (conA cli keep clean true false true ret (q % 4) x) s4) 28 (0, 0))))
      have Q4 := Lib.hid (o4.at_.to (Nat.le_refl _) (alB (Below.refl _ _) (.cells (pkC (conA cli keep clean true false true ret (q % 4) x) s4) 28 (0, 0))))
      have P4 := Lib.hid ((HPQ3.out.to B3.size (alB hb4 (.cells (pkC (conA cli keep clean true false true ret (q % 4) x) s4) 28 (0, 0)))).more (Nat.le_trans B3.size hb4.size))
      have SM := Lib.hid (fun W (hbb : W = w4.alloc (.cells (pkC (conA cli keep clean true false true ret (q % 4) x) s4) 28 (0, 0))) => by
        subst hbb
        exact (rsame_any (conA cli keep clean true false true ret (q % 4) x) (conA cli keep clean true false true ret (q % 4) x) (svCon A c true true) s4 w4.heap.size _ P4.out Q4.out (by simp) (Nat.zero_le _) (Nat.zero_le _)).mono (fun e w' h => (⟨h.1.trans (by simp), h.2⟩ : e = .returned (.bool true) ∧ Below _ _ w')))
      have HSZ := Lib.hid hb4.size
      have hcap : L.length ≤ c1 ∧ c1 ≤ 9223372036854775807 := by
        obtain ⟨A', c', hv1, hc, hcm, _⟩ := Y4.out
        injection hv1 with v1 v2 v3
        subst v3
        unfold maxLen at hcm
        omega
      clear r3 HPQ3 o4 hb4 B3 cv1 cv2
      by_cases hi : 129 < L.length
      · rw [if_pos hi] at M1
        go_wp2_with (first
          | ((with_reducible show wpList _ _ _ ({ dst := _, op := Op.store 28 (Operand.tmp 24) _, type := _, pos := _, after := _, guard := _ } :: _) _ _); refine stLst (w4.heap.size) (by rfl) _ (pkC (conA cli keep clean true false true ret (q % 4) x) s4) (by rfl) (by rfl) (by rfl) (by rfl) (pkc_one _ _) ?_)
          | ((with_reducible show wpList _ _ _ ({ dst := _, op := Op.load 28 (Operand.tmp 19), type := _, pos := _, after := _, guard := _ } :: _) _ _); refine ld_pk g (by rfl) (by rfl) (pkC (conA cli keep clean true false true ret (q % 4) x) (svCon A c true true)) _ _ (by exact r4) (by rfl) ?_)
          | ((with_reducible show wpList _ _ _ ({ dst := _, op := Op.load 28 (Operand.tmp 24), type := _, pos := _, after := _, guard := _ } :: _) _ _); refine ld_pk (w4.heap.size) (by rfl) (by rfl) (pkC (conA cli keep clean true false true ret (q % 4) x) s4) _ _ (by exact heap_alloc_last _ _) (by rfl) ?_)
          | (go_at_call 22; refine (SM.out _ rfl).mono ?_; rintro e w5 ⟨rfl, hb5⟩; have B5 := thn B4 hb5; have cvS := (BytesAt.takeL (BytesAt.drop (Y4.out.to (by have := HSZ.out; simp; omega) hb5) 3 (by omega)) 6 (by simp; omega)).conv; rw [M1.out] at cvS; rw [show ad.add 3 = ⟨ad.block, ad.off + 3, none⟩ from rfl] at cvS))
        go_ret
        exact ⟨rfl, B5⟩
      · rw [if_neg hi] at M1
        go_wp2_with (first
          | ((with_reducible show wpList _ _ _ ({ dst := _, op := Op.store 28 (Operand.tmp 24) _, type := _, pos := _, after := _, guard := _ } :: _) _ _); refine stLst (w4.heap.size) (by rfl) _ (pkC (conA cli keep clean true false true ret (q % 4) x) s4) (by rfl) (by rfl) (by rfl) (by rfl) (pkc_one _ _) ?_)
          | ((with_reducible show wpList _ _ _ ({ dst := _, op := Op.load 28 (Operand.tmp 19), type := _, pos := _, after := _, guard := _ } :: _) _ _); refine ld_pk g (by rfl) (by rfl) (pkC (conA cli keep clean true false true ret (q % 4) x) (svCon A c true true)) _ _ (by exact r4) (by rfl) ?_)
          | ((with_reducible show wpList _ _ _ ({ dst := _, op := Op.load 28 (Operand.tmp 24), type := _, pos := _, after := _, guard := _ } :: _) _ _); refine ld_pk (w4.heap.size) (by rfl) (by rfl) (pkC (conA cli keep clean true false true ret (q % 4) x) s4) _ _ (by exact heap_alloc_last _ _) (by rfl) ?_)
          | (go_at_call 22; refine (SM.out _ rfl).mono ?_; rintro e w5 ⟨rfl, hb5⟩; have B5 := thn B4 hb5; have cvS := (BytesAt.takeL (BytesAt.drop (Y4.out.to (by have := HSZ.out; simp; omega) hb5) 2 (by omega)) 6 (by simp; omega)).conv; rw [M1.out] at cvS; rw [show ad.add 2 = ⟨ad.block, ad.off + 2, none⟩ from rfl] at cvS))
        go_ret
        exact ⟨rfl, B5⟩
  · go_enter Try.func8, Try.ntmps8
    go_wp2_with fail
    refine (known3_any w).mono ?_
    rintro e w1 ⟨rfl, hb1⟩
    go_wp2_with (first
      | ((with_reducible show wpList _ _ _ ({ dst := _, op := Op.store 28 (Operand.tmp 19) _, type := _, pos := _, after := _, guard := _ } :: _) _ _); refine stLst (w1.heap.size) (by rfl) _ #[.int .i64 1, .bool false, .bool false, .int .i64 0, .int .i64 0, .string ⟨#[]⟩, .slice none 0 0, .int .i64 4, .string cli, .bool clean, .int .i64 keep, .bool true, .string ⟨#[]⟩, .slice none 0 0, .int .i64 0, .bool false, .bool true, .bool false, .string ⟨#[]⟩, .slice none 0 0, .bool false, .int .i64 0, .slice none 0 0, .slice none 0 0] (by rfl) (by rfl) (by rfl) (by rfl) (by rfl) ?_)
      | ((with_reducible show wpList _ _ _ ({ dst := _, op := Op.load 28 (Operand.tmp 19), type := _, pos := _, after := _, guard := _ } :: _) _ _); refine ld_pk (w1.heap.size) (by rfl) (by rfl) (pkC (conA cli keep clean true true false ret (q % 4) x) (svCon A c true false)) _ _ (by exact heap_alloc_last _ _) (by rfl) ?_))
    have hpk : PkAt (w1.alloc (.cells (pkC (conA cli keep clean true true false ret (q % 4) x) (svCon A c true false)) 28)) w.heap.size (conA cli keep clean true true false ret (q % 4) x) (svCon A c true false) := conA_at _ _ _ _ _ _ _ _ _ _ _ _ _ (HV.out.to (Nat.le_refl _) (alB hb1 _))
    have r0 : (w1.alloc (.cells (pkC (conA cli keep clean true true false ret (q % 4) x) (svCon A c true false)) 28)).heap[w1.heap.size]? = some (.cells (pkC (conA cli keep clean true true false ret (q % 4) x) (svCon A c true false)) 28 (0, 0)) := heap_alloc_last _ _
    have bW : Below w.heap.size w (w1.alloc (.cells (pkC (conA cli keep clean true true false ret (q % 4) x) (svCon A c true false)) 28)) := alB hb1 _
    have sW : w1.heap.size < (w1.alloc (.cells (pkC (conA cli keep clean true true false ret (q % 4) x) (svCon A c true false)) 28)).heap.size := by simp
    have HPK := Lib.hid hpk
    have HOK := Lib.hid (conA_ok cli keep clean true true false ret (q % 4) x h1 h2 hk ⟨by omega, by omega⟩)
    have HNL := Lib.hid (conA_nil A c true false HN.out)
    have HLI := Lib.hid (conA_lite cli keep clean true true false ret (q % 4) x)
    have HLN := Lib.hid (conA_len cli keep clean true true false ret (q % 4) x h1 h2)
    have HMQ := Lib.hid (enc_mqtt (conA cli keep clean true true false ret (q % 4) x) rfl HLN.out.1 HLN.out.2)
    clear hpk
    show Calls _ _ _ (w1.alloc (.cells (pkC (conA cli keep clean true true false ret (q % 4) x) (svCon A c true false)) 28)) _
    generalize w1.alloc (.cells (pkC (conA cli keep clean true true false ret (q % 4) x) (svCon A c true false)) 28) = W0 at *
    have hw1 : w.heap.size ≤ W0.heap.size := bW.size
    have g1 : w1.heap.size < W0.heap.size := sW
    generalize w1.heap.size = g at *
    rcases hr : rightP (conA cli keep clean true true false ret (q % 4) x) with _ | _
    · have HR := Lib.hid hr
      clear hr HMQ
      refine (wput_no (conA cli keep clean true true false ret (q % 4) x) (svCon A c true false) w.heap.size W0 HPK.out hw1 HOK.out HR.out).mono ?_
      rintro e w2 ⟨rfl, hb2⟩
      have r2 := heap_below hb2 r0
      go_wp2_with ((with_reducible show wpList _ _ _ ({ dst := _, op := Op.load 28 (Operand.tmp 19), type := _, pos := _, after := _, guard := _ } :: _) _ _); refine ld_pk g (by rfl) (by rfl) (pkC (conA cli keep clean true true false ret (q % 4) x) (svCon A c true false)) _ _ (by exact r2) (by rfl) ?_)
      refine (dput_all_no (conA cli keep clean true true false ret (q % 4) x) (svCon A c true false) w.heap.size w2 (HPK.out.to hw1 hb2) (Nat.le_trans hw1 hb2.size) HOK.out HNL.out.p HLI.out HR.out).mono ?_
      rintro e w3 ⟨rfl, hb3⟩
      have cv0 : (convert 22 9 (.slice none 0 0)).run Try.prog w3 = .ok (.string ⟨#[]⟩) w3 := (bytes_nil w3 0).conv
      go_wp2_with fail
      go_ret
      exact ⟨rfl, thn (thn bW hb2) hb3⟩
    · have HR := Lib.hid hr
      clear hr
      refine (wput_yes (conA cli keep clean true true false ret (q % 4) x) (svCon A c true false) w.heap.size W0 HPK.out hw1 HOK.out HNL.out HR.out).mono ?_
      unfold PutPost
      rintro e w2 ⟨A1, c1, rfl, o1, hb2⟩
      have r2 := heap_below hb2 r0
      have D2 := Lib.hid (dput_all_yes (conA cli keep clean true true false ret (q % 4) x) (svCon A c true false) w.heap.size w2 (HPK.out.to hw1 hb2) (Nat.le_trans hw1 hb2.size) HOK.out HNL.out.p HLI.out HR.out)
      have HRD := Lib.hid (rd_enc (conA cli keep clean true true false ret (q % 4) x) HR.out [])
      rw [List.append_nil] at HRD
      have HPQ := Lib.hid (HPK.out.to hw1 hb2)
      generalize encP (conA cli keep clean true true false ret (q % 4) x) = L at *
      have y1 := ownsBytes o1
      obtain ⟨m1, m2, m3⟩ := HMQ.out
      have M1 := Lib.hid m1
      clear HMQ m1 o1
      rcases A1 with _ | ad
      · have := y1.nz (by omega) rfl
        obtain ⟨A', c', hv1, hc, _, hz, _⟩ := y1
        injection hv1 with v1 v2 v3
        rw [hz v1.symm] at m2
        simp at m2
      go_wp2_with ((with_reducible show wpList _ _ _ ({ dst := _, op := Op.load 28 (Operand.tmp 19), type := _, pos := _, after := _, guard := _ } :: _) _ _); refine ld_pk g (by rfl) (by rfl) (pkC (conA cli keep clean true true false ret (q % 4) x) (svCon A c true false)) _ _ (by exact r2) (by rfl) ?_)
      refine D2.out.mono ?_
      unfold PutPost
      rintro e w3 ⟨A2, c2, rfl, o2, hb3⟩
      have y3 := y1.on hb3
      have cv1 := y3.conv
      have cv2 := (ownsBytes o2).conv
      have r3 := heap_below hb3 r2
      have B3 : Below w.heap.size w w3 := thn (thn bW hb2) hb3
      have HPQ3 := Lib.hid (HPQ.out.to (Nat.le_trans hw1 hb2.size) hb3)
      have Y3 := Lib.hid y3
      clear o2 y1 y3 D2 hb2 hb3 r2 r0 HPQ HPK
      go_wp2_with fail
      refine (wread_any (some ad) c1 L w3 Y3.out (by omega)).mono ?_
      rw [HRD.out]
      rintro e w4 ⟨s4, rfl, o4, hb4⟩
      have r4 := heap_keep (o' := .cells (pkC (conA cli keep clean true true false ret (q % 4) x) s4) 28) (heap_below hb4 r3)
      have B4 : Below w.heap.size w (w4.alloc (.cells (pkC (conA cli keep clean true true false ret (q % 4) x) s4) 28)) := alB (thn B3 hb4) _
      have Y4 := Lib.hid (Y3.out.to (Nat.le_refl _) (alB hb4 (.cells (pkC (conA cli keep clean true true false ret (q % 4) x) s4) 28 (0, 0))))
      have Q4 := Lib.hid (o4.at_.to (Nat.le_refl _) (alB (Below.refl _ _) (.cells (pkC (conA cli keep clean true true false ret (q % 4) x) s4) 28 (0, 0))))
      have P4 := Lib.hid ((HPQ3.out.to B3.size (alB hb4 (.cells (pkC (conA cli keep clean true true false ret (q % 4) x) s4) 28 (0, 0)))).more (Nat.le_trans B3.size hb4.size))
      have SM := Lib.hid (fun W (hbb : W = w4.alloc (.cells (pkC (conA cli keep clean true true false ret (q % 4) x) s4) 28 (0, 0))) => by
        subst hbb
        exact (rsame_any (conA cli keep clean true true false ret (q % 4) x) (conA cli keep clean true true false ret (q % 4) x) (svCon A c true false) s4 w4.heap.size _ P4.out Q4.out (by simp) (Nat.zero_le _) (Nat.zero_le _)).mono (fun e w' h => (⟨h.1.trans (by simp), h.2⟩ : e = .returned (.bool true) ∧ Below _ _ w')))
      have HSZ := Lib.hid hb4.size
      have hcap : L.length ≤ c1 ∧ c1 ≤ 9223372036854775807 := by
        obtain ⟨A', c', hv1, hc, hcm, _⟩ := Y4.out
        injection hv1 with v1 v2 v3
        subst v3
        unfold maxLen at hcm
        omega
      clear r3 HPQ3 o4 hb4 B3 cv1 cv2
      by_cases hi : 129 < L.length
      · rw [if_pos hi] at M1
        go_wp2_with (first
          | ((with_reducible show wpList _ _ _ ({ dst := _, op := Op.store 28 (Operand.tmp 24) _, type := _, pos := _, after := _, guard := _ } :: _) _ _); refine stLst (w4.heap.size) (by rfl) _ (pkC (conA cli keep clean true true false ret (q % 4) x) s4) (by rfl) (by rfl) (by rfl) (by rfl) (pkc_one _ _) ?_)
          | ((with_reducible show wpList _ _ _ ({ dst := _, op := Op.load 28 (Operand.tmp 19), type := _, pos := _, after := _, guard := _ } :: _) _ _); refine ld_pk g (by rfl) (by rfl) (pkC (conA cli keep clean true true false ret (q % 4) x) (svCon A c true false)) _ _ (by exact r4) (by rfl) ?_)
          | ((with_reducible show wpList _ _ _ ({ dst := _, op := Op.load 28 (Operand.tmp 24), type := _, pos := _, after := _, guard := _ } :: _) _ _); refine ld_pk (w4.heap.size) (by rfl) (by rfl) (pkC (conA cli keep clean true true false ret (q % 4) x) s4) _ _ (by exact heap_alloc_last _ _) (by rfl) ?_)
          | (go_at_call 22; refine (SM.out _ rfl).mono ?_; rintro e w5 ⟨rfl, hb5⟩; have B5 := thn B4 hb5; have cvS := (BytesAt.takeL (BytesAt.drop (Y4.out.to (by have := HSZ.out; simp; omega) hb5) 3 (by omega)) 6 (by simp; omega)).conv; rw [M1.out] at cvS; rw [show ad.add 3 = ⟨ad.block, ad.off + 3, none⟩ from rfl] at cvS))
        go_ret
        exact ⟨rfl, B5⟩
      · rw [if_neg hi] at M1
        go_wp2_with (first
          | ((with_reducible show wpList _ _ _ ({ dst := _, op := Op.store 28 (Operand.tmp 24) _, type := _, pos := _, after := _, guard := _ } :: _) _ _); refine stLst (w4.heap.size) (by rfl) _ (pkC (conA cli keep clean true true false ret (q % 4) x) s4) (by rfl) (by rfl) (by rfl) (by rfl) (pkc_one _ _) ?_)
          | ((with_reducible show wpList _ _ _ ({ dst := _, op := Op.load 28 (Operand.tmp 19), type := _, pos := _, after := _, guard := _ } :: _) _ _); refine ld_pk g (by rfl) (by rfl) (pkC (conA cli keep clean true true false ret (q % 4) x) (svCon A c true false)) _ _ (by exact r4) (by rfl) ?_)
          | ((with_reducible show wpList _ _ _ ({ dst := _, op := Op.load 28 (Operand.tmp 24), type := _, pos := _, after := _, guard := _ } :: _) _ _); refine ld_pk (w4.heap.size) (by rfl) (by rfl) (pkC (conA cli keep clean true true false ret (q % 4) x) s4) _ _ (by exact heap_alloc_last _ _) (by rfl) ?_)
          | (go_at_call 22; refine (SM.out _ rfl).mono ?_; rintro e w5 ⟨rfl, hb5⟩; have B5 := thn B4 hb5; have cvS := (BytesAt.takeL (BytesAt.drop (Y4.out.to (by have := HSZ.out; simp; omega) hb5) 2 (by omega)) 6 (by simp; omega)).conv; rw [M1.out] at cvS; rw [show ad.add 2 = ⟨ad.block, ad.off + 2, none⟩ from rfl] at cvS))
        go_ret
        exact ⟨rfl, B5⟩
  · go_enter Try.func8, Try.ntmps8
    go_wp2_with fail
    refine (known3_any w).mono ?_
    rintro e w1 ⟨rfl, hb1⟩
    go_wp2_with (first
      | ((with_reducible show wpList _ _ _ ({ dst := _, op := Op.store 28 (Operand.tmp 19) _, type := _, pos := _, after := _, guard := _ } :: _) _ _); refine stLst (w1.heap.size) (by rfl) _ #[.int .i64 1, .bool false, .bool false, .int .i64 0, .int .i64 0, .string ⟨#[]⟩, .slice none 0 0, .int .i64 4, .string cli, .bool clean, .int .i64 keep, .bool true, .string ⟨#[]⟩, .slice none 0 0, .int .i64 0, .bool false, .bool true, .bool true, .string ⟨#[]⟩, .slice none 0 0, .bool false, .int .i64 0, .slice none 0 0, .slice none 0 0] (by rfl) (by rfl) (by rfl) (by rfl) (by rfl) ?_)
      | ((with_reducible show wpList _ _ _ ({ dst := _, op := Op.load 28 (Operand.tmp 19), type := _, pos := _, after := _, guard := _ } :: _) _ _); refine ld_pk (w1.heap.size) (by rfl) (by rfl) (pkC (conA cli keep clean true true true ret (q % 4) x) (svCon A c true true)) _ _ (by exact heap_alloc_last _ _) (by rfl) ?_))
    have hpk : PkAt (w1.alloc (.cells (pkC (conA cli keep clean true true true ret (q % 4) x) (svCon A c true true)) 28)) w.heap.size (conA cli keep clean true true true ret (q % 4) x) (svCon A c true true) := conA_at _ _ _ _ _ _ _ _ _ _ _ _ _ (HV.out.to (Nat.le_refl _) (alB hb1 _))
    have r0 : (w1.alloc (.cells (pkC (conA cli keep clean true true true ret (q % 4) x) (svCon A c true true)) 28)).heap[w1.heap.size]? = some (.cells (pkC (conA cli keep clean true true true ret (q % 4) x) (svCon A c true true)) 28 (0, 0)) := heap_alloc_last _ _
    have bW : Below w.heap.size w (w1.alloc (.cells (pkC (conA cli keep clean true true true ret (q % 4) x) (svCon A c true true)) 28)) := alB hb1 _
    have sW : w1.heap.size < (w1.alloc (.cells (pkC (conA cli keep clean true true true ret (q % 4) x) (svCon A c true true)) 28)).heap.size := by simp
    have HPK := Lib.hid hpk
    have HOK := Lib.hid (conA_ok cli keep clean true true true ret (q % 4) x h1 h2 hk ⟨by omega, by omega⟩)
    have HNL := Lib.hid (conA_nil A c true true HN.out)
    have HLI := Lib.hid (conA_lite cli keep clean true true true ret (q % 4) x)
    have HLN := Lib.hid (conA_len cli keep clean true true true ret (q % 4) x h1 h2)
    have HMQ := Lib.hid (enc_mqtt (conA cli keep clean true true true ret (q % 4) x) rfl HLN.out.1 HLN.out.2)
    clear hpk
    show Calls _ _ _ (w1.alloc (.cells (pkC (conA cli keep clean true true true ret (q % 4) x) (svCon A c true true)) 28)) _
    generalize w1.alloc (.cells (pkC (conA cli keep clean true true true ret (q % 4) x) (svCon A c true true)) 28) = W0 at *
    have hw1 : w.heap.size ≤ W0.heap.size := bW.size
    have g1 : w1.heap.size < W0.heap.size := sW
    generalize w1.heap.size = g at *
    rcases hr : rightP (conA cli keep clean true true true ret (q % 4) x) with _ | _
    · have HR := Lib.hid hr
      clear hr HMQ
      refine (wput_no (conA cli keep clean true true true ret (q % 4) x) (svCon A c true true) w.heap.size W0 HPK.out hw1 HOK.out HR.out).mono ?_
      rintro e w2 ⟨rfl, hb2⟩
      have r2 := heap_below hb2 r0
      go_wp2_with ((with_reducible show wpList _ _ _ ({ dst := _, op := Op.load 28 (Operand.tmp 19), type := _, pos := _, after := _, guard := _ } :: _) _ _); refine ld_pk g (by rfl) (by rfl) (pkC (conA cli keep clean true true true ret (q % 4) x) (svCon A c true true)) _ _ (by exact r2) (by rfl) ?_)
      refine (dput_all_no (conA cli keep clean true true true ret (q % 4) x) (svCon A c true true) w.heap.size w2 (HPK.out.to hw1 hb2) (Nat.le_trans hw1 hb2.size) HOK.out HNL.out.p HLI.out HR.out).mono ?_
      rintro e w3 ⟨rfl, hb3⟩
      have cv0 : (convert 22 9 (.slice none 0 0)).run Try.prog w3 = .ok (.string ⟨#[]⟩) w3 := (bytes_nil w3 0).conv
      go_wp2_with fail
      go_ret
      exact ⟨rfl, thn (thn bW hb2) hb3⟩
    · have HR := Lib.hid hr
      clear hr
      refine (wput_yes (conA cli keep clean true true true ret (q % 4) x) (svCon A c true true) w.heap.size W0 HPK.out hw1 HOK.out HNL.out HR.out).mono ?_
      unfold PutPost
      rintro e w2 ⟨A1, c1, rfl, o1, hb2⟩
      have r2 := heap_below hb2 r0
      have D2 := Lib.hid (dput_all_yes (conA cli keep clean true true true ret (q % 4) x) (svCon A c true true) w.heap.size w2 (HPK.out.to hw1 hb2) (Nat.le_trans hw1 hb2.size) HOK.out HNL.out.p HLI.out HR.out)
      have HRD := Lib.hid (rd_enc (conA cli keep clean true true true ret (q % 4) x) HR.out [])
      rw [List.append_nil] at HRD
      have HPQ := Lib.hid (HPK.out.to hw1 hb2)
      generalize encP (conA cli keep clean true true true ret (q % 4) x) = L at *
      have y1 := ownsBytes o1
      obtain ⟨m1, m2, m3⟩ := HMQ.out
      have M1 := Lib.hid m1
      clear HMQ m1 o1
      rcases A1 with _ | ad
      · have := y1.nz (by omega) rfl
        obtain ⟨A', c', hv1, hc, _, hz, _⟩ := y1
        injection hv1 with v1 v2 v3
        rw [hz v1.symm] at m2
        simp at m2
      go_wp2_with ((with_reducible show wpList _ _ _ ({ dst := _, op := Op.load 28 (Operand.tmp 19), type := _, pos := _, after := _, guard := _ } :: _) _ _); refine ld_pk g (by rfl) (by rfl) (pkC (conA cli keep clean true true true ret (q % 4) x) (svCon A c true true)) _ _ (by exact r2) (by rfl) ?_)
      refine D2.out.mono ?_
      unfold PutPost
      rintro e w3 ⟨A2, c2, rfl, o2, hb3⟩
      have y3 := y1.on hb3
      have cv1 := y3.conv
      have cv2 := (ownsBytes o2).conv
      have r3 := heap_below hb3 r2
      have B3 : Below w.heap.size w w3 := thn (thn bW hb2) hb3
      have HPQ3 := Lib.hid (HPQ.out.to (Nat.le_trans hw1 hb2.size) hb3)
      have Y3 := Lib.hid y3
      clear o2 y1 y3 D2 hb2 hb3 r2 r0 HPQ HPK
      go_wp2_with fail
      refine (wread_any (some ad) c1 L w3 Y3.out (by omega)).mono ?_
      rw [HRD.out]
      rintro e w4 ⟨s4, rfl, o4, hb4⟩
      have r4 := heap_keep (o' := .cells (pkC (conA cli keep clean true true true ret (q % 4) x) s4) 28) (heap_below hb4 r3)
      have B4 : Below w.heap.size w (w4.alloc (.cells (pkC (conA cli keep clean true true true ret (q % 4) x) s4) 28)) := alB (thn B3 hb4) _
      have Y4 := Lib.hid (Y3.out.to (Nat.le_refl _) (alB hb4 (.cells (pkC (conA cli keep clean true true true ret (q % 4) x) s4) 28 (0, 0))))
      have Q4 := Lib.hid (o4.at_.to (Nat.le_refl _) (alB (Below.refl _ _) (.cells (pkC (conA cli keep clean true true true ret (q % 4) x) s4) 28 (0, 0))))
      have P4 := Lib.hid ((HPQ3.out.to B3.size (alB hb4 (.cells (pkC (conA cli keep clean true true true ret (q % 4) x) s4) 28 (0, 0)))).more (Nat.le_trans B3.size hb4.size))
      have SM := Lib.hid (fun W (hbb : W = w4.alloc (.cells (pkC (conA cli keep clean true true true ret (q % 4) x) s4) 28 (0, 0))) => by
        subst hbb
        exact (rsame_any (conA cli keep clean true true true ret (q % 4) x) (conA cli keep clean true true true ret (q % 4) x) (svCon A c true true) s4 w4.heap.size _ P4.out Q4.out (by simp) (Nat.zero_le _) (Nat.zero_le _)).mono (fun e w' h => (⟨h.1.trans (by simp), h.2⟩ : e = .returned (.bool true) ∧ Below _ _ w')))
      have HSZ := Lib.hid hb4.size
      have hcap : L.length ≤ c1 ∧ c1 ≤ 9223372036854775807 := by
        obtain ⟨A', c', hv1, hc, hcm, _⟩ := Y4.out
        injection hv1 with v1 v2 v3
        subst v3
        unfold maxLen at hcm
        omega
      clear r3 HPQ3 o4 hb4 B3 cv1 cv2
      by_cases hi : 129 < L.length
      · rw [if_pos hi] at M1
        go_wp2_with (first
          | ((with_reducible show wpList _ _ _ ({ dst := _, op := Op.store 28 (Operand.tmp 24) _, type := _, pos := _, after := _, guard := _ } :: _) _ _); refine stLst (w4.heap.size) (by rfl) _ (pkC (conA cli keep clean true true true ret (q % 4) x) s4) (by rfl) (by rfl) (by rfl) (by rfl) (pkc_one _ _) ?_)
          | ((with_reducible show wpList _ _ _ ({ dst := _, op := Op.load 28 (Operand.tmp 19), type := _, pos := _, after := _, guard := _ } :: _) _ _); refine ld_pk g (by rfl) (by rfl) (pkC (conA cli keep clean true true true ret (q % 4) x) (svCon A c true true)) _ _ (by exact r4) (by rfl) ?_)
          | ((with_reducible show wpList _ _ _ ({ dst := _, op := Op.load 28 (Operand.tmp 24), type := _, pos := _, after := _, guard := _ } :: _) _ _); refine ld_pk (w4.heap.size) (by rfl) (by rfl) (pkC (conA cli keep clean true true true ret (q % 4) x) s4) _ _ (by exact heap_alloc_last _ _) (by rfl) ?_)
          | (go_at_call 22; refine (SM.out _ rfl).mono ?_; rintro e w5 ⟨rfl, hb5⟩; have B5 := thn B4 hb5; have cvS := (BytesAt.takeL (BytesAt.drop (Y4.out.to (by have := HSZ.out; simp; omega) hb5) 3 (by omega)) 6 (by simp; omega)).conv; rw [M1.out] at cvS; rw [show ad.add 3 = ⟨ad.block, ad.off + 3, none⟩ from rfl] at cvS))
        go_ret
        exact ⟨rfl, B5⟩
      · rw [if_neg hi] at M1
        go_wp2_with (first
          | ((with_reducible show wpList _ _ _ ({ dst := _, op := Op.store 28 (Operand.tmp 24) _, type := _, pos := _, after := _, guard := _ } :: _) _ _); refine stLst (w4.heap.size) (by rfl) _ (pkC (conA cli keep clean true true true ret (q % 4) x) s4) (by rfl) (by rfl) (by rfl) (by rfl) (pkc_one _ _) ?_)
          | ((with_reducible show wpList _ _ _ ({ dst := _, op := Op.load 28 (Operand.tmp 19), type := _, pos := _, after := _, guard := _ } :: _) _ _); refine ld_pk g (by rfl) (by rfl) (pkC (conA cli keep clean true true true ret (q % 4) x) (svCon A c true true)) _ _ (by exact r4) (by rfl) ?_)
          | ((with_reducible show wpList _ _ _ ({ dst := _, op := Op.load 28 (Operand.tmp 24), type := _, pos := _, after := _, guard := _ } :: _) _ _); refine ld_pk (w4.heap.size) (by rfl) (by rfl) (pkC (conA cli keep clean true true true ret (q % 4) x) s4) _ _ (by exact heap_alloc_last _ _) (by rfl) ?_)
          | (go_at_call 22; refine (SM.out _ rfl).mono ?_; rintro e w5 ⟨rfl, hb5⟩; have B5 := thn B4 hb5; have cvS := (BytesAt.takeL (BytesAt.drop (Y4.out.to (by have := HSZ.out; simp; omega) hb5) 2 (by omega)) 6 (by simp; omega)).conv; rw [M1.out] at cvS; rw [show ad.add 2 = ⟨ad.block, ad.off + 2, none⟩ from rfl] at cvS))
        go_ret
        exact ⟨rfl, B5⟩
end Go.Proofs.Ytkcoiihhfbgkdaa

/- hubbublaw3.WireConnects, walked: with the ways of a longer name, of more bytes. -/
namespace Go.Proofs.Ytkcoiihhfbgkdaa
open Go.RowKit Go.Lib
set_option linter.unusedVariables false

set_option maxRecDepth 100000 in
set_option maxHeartbeats 2000000 in
theorem connects_any (cli : ByteArray) (keep : Int) (clean will user pass ret : Bool) (q : Int) (A : Option Addr) (c : Nat) (x : List UInt8) (w : World) (hk : 0 ≤ keep ∧ keep ≤ 65535) (hq : 0 ≤ q ∧ q ≤ 255) (hs : cli.size ≤ maxLen) (hv : BytesAt w w.heap.size (.slice A x.length c) x) (hn : A = none → c = 0) :
    Calls Try.prog 8 #[.string cli, .int .u16 keep, .bool clean, .bool will, .bool user, .bool pass, .bool ret, .int .u8 q, .slice A x.length c] w fun e w' => e = .returned (.bool true) ∧ Below w.heap.size w w' := by
  by_cases h1 : 40 < cli.size
  · go_enter Try.func8, Try.ntmps8
    go_wp2_with fail
    refine (known3_any w).mono ?_
    rintro e w1 ⟨rfl, hb1⟩
    go_wp2_with fail
    go_ret
    exact ⟨rfl, hb1⟩
  · by_cases h2 : 40 < x.length
    · go_enter Try.func8, Try.ntmps8
      go_wp2_with fail
      refine (known3_any w).mono ?_
      rintro e w1 ⟨rfl, hb1⟩
      go_wp2_with fail
      go_ret
      exact ⟨rfl, hb1⟩
    · exact connects_walk cli keep clean will user pass ret q A c x w hk hq (by omega) (by omega) hv hn
end Go.Proofs.Ytkcoiihhfbgkdaa
