/- wire.Put: a packet's bytes, or that it may not be. -/
import Derived.Test.YtkeocnobninaaaaBytesOf
import Derived.Test.YtkeocnobninaaaaZConR
import Derived.Test.YtkeocnobninaaaaZParse2
import Derived.Test.YtkeocnobninaaaaZDec
import Derived.Test.YtkeocnobninaaaaRef3
namespace Go.Proofs.Ytkeocnobninaaaa
open Go.RowKit Go.Lib

def PutPost (w : World) (l : List UInt8) (e : Ending) (w' : World) : Prop :=
  ∃ (A : Option Addr) (c : Nat), e = .returned (.tuple #[.slice A l.length c, .int .i64 0]) ∧ w'.ownsRow w.heap.size 5 1 (.slice A l.length c) l.length (Lib.byteCells l) ∧ Below w.heap.size w w'

set_option maxRecDepth 100000 in
set_option maxHeartbeats 2000000 in
theorem wput_no (p : Pk) (s : Sv) (B : Nat) (w : World) (hp : PkAt w B p s) (hB : B ≤ w.heap.size) (ok : PkOk p) (hr : rightP p = false) :
    Calls Try.prog 17 #[pkV p s] w fun e w' => e = .returned (.tuple #[.slice none 0 0, .int .i64 26]) ∧ Below w.heap.size w w' := by
  have HP := Lib.hid hp
  have OK := Lib.hid ok
  clear hp ok
  go_enter Try.func17, Try.ntmps17
  go_wp2_with (first
    | ((with_reducible show wpList _ _ _ ({ dst := _, op := Op.load 28 _, type := _, pos := _, after := _, guard := _ } :: _) _ _); refine ld_pk (w.heap.size) (by rfl) (by rfl) _ _ _ (by (first | assumption | exact heap_alloc_last _ _ | (repeat (first | assumption | exact heap_alloc_last _ _ | exact heap_last2 _ _ _ | refine heap_keep ?_ | refine heap_below (by assumption) ?_)))) (by rfl) ?_)
    | (go_at_call 19; refine (right_any p s B _ (HP.out.to hB (by (repeat (first | assumption | exact Below.refl _ _ | exact (Below.refl _ _).alloc (Nat.le_refl _) _ | (refine thn ?_ (by assumption)) | (refine alB ?_ _) | (refine dwN ?_ _) | (refine Below.drew ?_))))) (by simp; omega) OK.out).mono ?_; rintro e w' ⟨rfl, hb⟩; obtain ⟨hc, hf⟩ := bcell hb; have hz : w.heap.size < w'.heap.size := (by have := hb.size; (try simp at this); omega)))
  go_ret2
  exact ⟨rfl, by (repeat (first | assumption | exact Below.refl _ _ | exact (Below.refl _ _).alloc (Nat.le_refl _) _ | (refine thn ?_ (by assumption)) | (refine alB ?_ _) | (refine dwN ?_ _) | (refine Below.drew ?_)))⟩

set_option maxRecDepth 100000 in
set_option maxHeartbeats 2000000 in
theorem wput_yes (p : Pk) (s : Sv) (B : Nat) (w : World) (hp : PkAt w B p s) (hB : B ≤ w.heap.size) (ok : PkOk p) (hn : NilOk s) (hr : rightP p = true) :
    Calls Try.prog 17 #[pkV p s] w (PutPost w (encP p)) := by
  have HP := Lib.hid hp
  have OK := Lib.hid ok
  have HN := Lib.hid hn
  have HF := Lib.hid (right_f p hr)
  have hbw : Below w.heap.size w (w.alloc (.cells (pkC p s) 28)) := (Below.refl _ _).alloc (Nat.le_refl _) _
  clear hp ok hn
  go_enter Try.func17, Try.ntmps17
  go_wp2_with ((with_reducible show wpList _ _ _ ({ dst := _, op := Op.load 28 _, type := _, pos := _, after := _, guard := _ } :: _) _ _); refine ld_pk (w.heap.size) (by rfl) (by rfl) _ _ _ (by (first | assumption | exact heap_alloc_last _ _ | (repeat (first | assumption | exact heap_alloc_last _ _ | exact heap_last2 _ _ _ | refine heap_keep ?_ | refine heap_below (by assumption) ?_)))) (by rfl) ?_)
  refine (right_any p s B _ (HP.out.to hB hbw) (by simp; omega) OK.out).mono ?_
  rintro e w1 ⟨rfl, hb1⟩
  have B1 : Below w.heap.size w w1 := thn hbw hb1
  have r1 := heap_below hb1 (heap_alloc_last _ _)
  go_wp2_with ((with_reducible show wpList _ _ _ ({ dst := _, op := Op.load 28 _, type := _, pos := _, after := _, guard := _ } :: _) _ _); refine ld_pk (w.heap.size) (by rfl) (by rfl) _ _ _ (by (first | assumption | exact heap_alloc_last _ _ | (repeat (first | assumption | exact heap_alloc_last _ _ | exact heap_last2 _ _ _ | refine heap_keep ?_ | refine heap_below (by assumption) ?_)))) (by rfl) ?_)
  refine (bytesOf_any p s B w1 (HP.out.to hB B1) (Nat.le_trans hB B1.size) OK.out HN.out HF.out).mono ?_
  rintro e w2 ⟨A, c, rfl, ho, hb2⟩
  have ho2 : w2.ownsRow w.heap.size 5 1 (.slice A (encP p).length c) (encP p).length (Lib.byteCells (encP p)) := by
    refine ⟨ho.1, ?_⟩
    rcases ho.2 with h | ⟨g, cap, cur, h1, h2, h3⟩
    · exact .inl h
    · exact .inr ⟨g, cap, cur, h1, Nat.le_trans B1.size h2, h3⟩
  generalize encP p = L at *
  go_wp2_with fail
  go_ret2
  exact ⟨A, c, rfl, ho2, thn B1 hb2⟩
end Go.Proofs.Ytkeocnobninaaaa

/- Reading: wire.Read. -/
namespace Go.Proofs.Ytkeocnobninaaaa
open Go.RowKit Go.Lib
set_option linter.unusedVariables false

theorem results_row2 {fn : Func} {p u v : Tmp} {ty : TypeId} (h : fn.results = #[.cell p ty, .tmp u, .tmp v]) (tmps : Array Value) (w : World) (g : Nat) (cs : Array Value)
    (hp : tmps.getD p undef = .pointer (some ⟨g, 0, none⟩)) (hl : (loadVar ty ⟨g, 0, none⟩).run Try.prog w = .ok (.agg cs) w) :
    (results fn tmps).run Try.prog w = .ok (.tuple #[.agg cs, tmps.getD u undef, tmps.getD v undef]) w := by
  have hp' : tmps[p]?.getD undef = .pointer (some ⟨g, 0, none⟩) := by simpa using hp
  simp [results, h, hp', asAddr, hl]
theorem ldv_pk {w : World} {g : Nat} {p : Pk} {s : Sv} (h : w.heap[g]? = some (.cells (pkC p s) 28 (0, 0))) : (loadVar 28 ⟨g, 0, none⟩).run Try.prog w = .ok (.agg (pkC p s)) w :=
  run_loadVar_row w g _ 28 (pkC p s) (0, 0) _ h Try.underlying28 rfl pk_sz

/-- A part of a slice of bytes. -/
def slV (ad : Addr) (cap i j : Nat) : Value := .slice (some (if cap = i then ad else ad.add i)) (j - i) (cap - i)
theorem sl_exec {a : Act} {o : Oper} {x l h : Operand} {ad : Addr} {n cap : Nat} {i j : Int} (ho : o.op = .slice 22 x (some l) (some h) none) (hx : a.eval x = .slice (some ad) n cap) (hl : a.eval l = .int .i64 i) (hh : a.eval h = .int .i64 j) (h0 : 0 ≤ i) (h1 : i ≤ j) (h2 : j ≤ cap) (W : World) :
    (execOp a.eval o).run Try.prog W = .ok (.value (slV ad cap i.toNat j.toNat)) W := by
  have hs : (sizeOf (Try.prog.elem 22)).run Try.prog W = .ok 1 W := by kernel_rfl
  have e : sliced (some ad) i.toNat j.toNat cap 1 = slV ad cap i.toNat j.toNat := by
    unfold sliced slV
    split <;> simp
  unfold execOp
  simp only [ho, hx, hl, hh, Option.map_some, Option.map_none]
  simp [run_sliceAt_slice _ _ _ _ _ _ (show Try.prog.underlying 22 = some (.slice (Try.prog.elem 22)) by kernel_rfl), run_slice_lh W _ _ _ _ (show Try.prog.underlying 22 = some (.slice (Try.prog.elem 22)) by kernel_rfl) _ _ i j h0 h1 h2, hs, e]
theorem sl_at {w : World} {B : Nat} {ad : Addr} {n cap : Nat} {l : List UInt8} (h : BytesAt w B (.slice (some ad) n cap) l) (i j : Nat) (hij : i ≤ j) (hj : j ≤ l.length) : BytesAt w B (slV ad cap i j) ((l.take j).drop i) := by
  have h1 := BytesAt.tk h j hj
  have hlen : (l.take j).length = j := by rw [List.length_take]; omega
  unfold slV
  by_cases hc : cap = i
  · have hcj : j ≤ cap := by
      obtain ⟨A', c', hv, hc', hm, _⟩ := h
      injection hv with v1 v2 v3
      omega
    have e : (l.take j).drop i = [] := List.drop_eq_nil_of_le (by omega)
    rw [if_pos hc, e, show j - i = 0 by omega, show cap - i = 0 by omega]
    exact BytesAt.void w B ad 0 (by decide)
  · rw [if_neg hc]
    have h2 := BytesAt.drop h1 i (by omega)
    rw [hlen] at h2
    exact h2

def RdPost (w : World) (t : Pk × Int × Int) (e : Ending) (w' : World) : Prop :=
  ∃ s, e = .returned (.tuple #[pkV t.1 s, .int .i64 t.2.1, .int .i64 t.2.2]) ∧ PkOwn w' w.heap.size t.1 s ∧ Below w.heap.size w w'
theorem pk0_at (w : World) (B : Nat) : PkAt w B pk0 sv0 := ⟨bytes_nil _ _, bytes_nil _ _, bytes_nil _ _, subs_nil _ _, ints_nil _ _⟩
theorem sv0_nil : NilOk sv0 := ⟨fun _ => rfl, fun _ => rfl, fun _ => rfl⟩

set_option maxRecDepth 100000 in
set_option maxHeartbeats 8000000 in
theorem wread_bad (A : Option Addr) (cap : Nat) (b : List UInt8) (B : Nat) (w : World) (hB : B ≤ w.heap.size) (hv : BytesAt w B (.slice A b.length cap) b) (hm : b.length ≤ 1000000) (x y z : Int) (hT : bndP b = (x, y, z)) (hz : z ≠ 0) :
    Calls Try.prog 23 #[.slice A b.length cap] w (RdPost w (pk0, 0, z)) := by
  have HB := Lib.hid (bounds_any A cap b B (w.alloc (.cells (pkC pk0 sv0) 28)) (by simp; omega) (hv.to hB ((Below.refl _ _).alloc (Nat.le_refl _) _)) hm x y z hT)
  have hzb : (z != 0) = true := by simpa using hz
  clear hT hv hz
  generalize b.length = n at *
  go_enter Try.func23, Try.ntmps23
  go_wp2_with fail
  refine HB.out.mono ?_
  rintro e w1 ⟨rfl, hb1⟩
  have r0 := heap_below hb1 (heap_alloc_last _ _)
  go_wp2_with ((with_reducible show wpList _ _ _ ({ dst := _, op := Op.store 28 (Operand.tmp 2) _, type := _, pos := _, after := _, guard := _ } :: _) _ _); refine stR (w.heap.size) _ (pkC pk0 sv0) (by rfl) (by rfl) (by exact r0) (by rfl) (by rfl) (pkc_one _ _) ?_)
  refine bodyPost_ret (results_row2 (by rfl) _ _ (w.heap.size) _ (by rfl) (ldv_pk (setRow_heap _ _ _ _ _ _ (by exact r0)))) (by rfl) ⟨sv0, rfl, pk0_own _ _, ?_⟩
  exact below_setRow (thn ((Below.refl _ _).alloc (Nat.le_refl _) _) hb1) (Nat.le_refl _) _
end Go.Proofs.Ytkeocnobninaaaa

/- What the document's Read comes to. -/
namespace Go.Proofs.Ytkeocnobninaaaa
open Go.RowKit Go.Lib

theorem and_more : ∀ y : Fin 256, bits .and .u8 (y.val : Int) 127 = bits .andNot .u8 (y.val : Int) 128 := by decide +kernel
theorem acc_eq2 (n : Int) (z j : Nat) (hz : z < 256) (hj : j ≤ 3) (h0 : 0 ≤ n) (h1 : n + 1 ≤ 128 ^ j) :
    bits .or .i64 n (wrap64 (wrap64 (bits .and .u8 (z : Int) 127) * 2 ^ (7 * j))) = n + ((z : Int) % 128) * 128 ^ j ∧ 0 ≤ n + ((z : Int) % 128) * 128 ^ j ∧ n + ((z : Int) % 128) * 128 ^ j + 1 ≤ 128 ^ (j + 1) ∧ n + ((z : Int) % 128) * 128 ^ j ≤ 268435455 := by
  have e := and_more ⟨z, hz⟩
  simp only at e
  rw [e]
  exact acc_eq n z j hz hj h0 h1

set_option maxRecDepth 100000 in
set_option maxHeartbeats 1000000 in
theorem rread_some (ad : Addr) (c : Nat) (l : List UInt8) (w : World) (a b d : Int) (hT : readT l = (a, b, d)) (hl : l.length ≤ 1000000) (hx : ∀ (j : Nat) (x : UInt8), l[j]? = some x → w.cell? (ad.add j) = some (.int .u8 (x.toNat : Int))) :
    Calls Try.prog 57 #[.slice (some ad) l.length c] w fun e w' => e = .returned (.tuple #[.int .i64 a, .int .i64 b, .int .i64 d]) ∧ w = w' := by
  have HX := Lib.hid hx
  clear hx
  have HT := Lib.hid hT
  clear hT
  go_enter Try.func57, Try.ntmps57
  go_wp2
  go_loopw [5, 6] (fun sn si wr => ∃ (j : Nat) (n : Int), j ≤ 4 ∧ j ≤ l.length ∧ sn = .int .i64 n ∧ si = .int .i64 j ∧ 0 ≤ n ∧ Hid (j ≤ 3 → n + 1 ≤ 128 ^ j ∧ readAt j n (l.drop j) = (a, b, d)) ∧ Hid (4 ≤ j → (0, 0, 21) = (a, b, d)) ∧ wr = w) (fun _ i _ => 4 - (intOf i).toNat)
  case atStart => exact ⟨0, 0, by omega, by omega, rfl, rfl, by omega, fun _ => ⟨by decide, HT⟩, fun h => by omega, rfl⟩
  case round =>
    obtain ⟨j, n, hj, hjl, rfl, rfl, hn0, hrd, hfar, rfl⟩ := hrel
    by_cases hj4 : 4 ≤ j
    · obtain ⟨rfl, rfl, rfl⟩ : (0 : Int) = a ∧ (0 : Int) = b ∧ (21 : Int) = d := by simpa using hfar.out hj4
      clear hrd HT hfar
      go_wp2_with fail
      go_ret3
      exact ⟨rfl, rfl⟩
    have hj3 : j ≤ 3 := by omega
    have hn1 := (hrd.out hj3).1
    have hrd := Lib.hid (hrd.out hj3).2
    by_cases hlt : j < l.length
    · have hcell := HX.out j _ (List.getElem?_eq_getElem hlt)
      have hd : l.drop j = l[j] :: l.drop (j + 1) := List.drop_eq_getElem_cons hlt
      have HD := Lib.hid hd
      clear hd
      have hb256 : l[j].toNat < 256 := l[j].toNat_lt
      generalize l[j] = x at *
      have hacc := acc_eq2 n x.toNat j hb256 hj3 hn0 hn1
      have HA := Lib.hid hacc
      clear hacc
      by_cases hz : x.toNat ≤ 127
      · have hfin : Hid (wholeT (n + ((x.toNat : Int) % 128) * 128 ^ j) ((j : Int) + 1) = (a, b, d)) := by
          have h := hrd.out
          rw [HD.out, readAt_end hz] at h
          rw [← h]
          congr 2
          have : ((x.toNat : Int) % 128) = (x.toNat : Int) := by omega
          rw [this]
        generalize x.toNat = z at *
        clear hrd HD hn1 hfar
        have hs := fun W => rsize_any (n + ((z : Int) % 128) * 128 ^ j) (by have := HA.out.2.1; omega) (by have := HA.out.2.2.2; omega) W
        have hsz := size_le (n + ((z : Int) % 128) * 128 ^ j)
        have hfin := hfin
        unfold wholeT at hfin
        generalize sizeI (n + ((z : Int) % 128) * 128 ^ j) = s at *
        by_cases q : s = (j : Int) + 1
        · have h3 := hfin.out
          rw [if_pos q] at h3
          obtain ⟨h3a, h3b, h3c⟩ : n + ((z : Int) % 128) * 128 ^ j = a ∧ (j : Int) + 1 = b ∧ (0 : Int) = d := by simpa using h3
          have e1 := HA.out.1
          rw [h3a] at e1 hs
          have E1 := Lib.hid e1
          subst h3c
          have H3 := Lib.hid h3b
          clear HA hfin h3 h3a h3b e1
          go_wp2_with fail
          rw [E1.out]
          refine (hs _).mono ?_
          rintro e w1 ⟨rfl, rfl⟩
          go_wp2_with fail
          go_ret3
          exact ⟨by rw [← H3.out]; rfl, rfl⟩
        · have h3 := hfin.out
          rw [if_neg q] at h3
          obtain ⟨rfl, rfl, rfl⟩ : (0 : Int) = a ∧ (0 : Int) = b ∧ (21 : Int) = d := by simpa using h3
          have e1 := HA.out.1
          have E1 := Lib.hid e1
          clear HA hfin h3 e1
          go_wp2_with fail
          rw [E1.out]
          refine (hs _).mono ?_
          rintro e w1 ⟨rfl, rfl⟩
          go_wp2_with fail
          go_ret3
          exact ⟨rfl, rfl⟩
      · have hfin : Hid (j + 1 ≤ 3 → n + ((x.toNat : Int) % 128) * 128 ^ j + 1 ≤ 128 ^ (j + 1) ∧ readAt (j + 1) (n + ((x.toNat : Int) % 128) * 128 ^ j) (l.drop (j + 1)) = (a, b, d)) := by
          intro h3
          refine ⟨HA.out.2.2.1, ?_⟩
          have h := hrd.out
          rw [HD.out, readAt_more hz (by omega)] at h
          exact h
        have hfin2 : Hid (4 ≤ j + 1 → (0, 0, 21) = (a, b, d)) := by
          intro h3
          have h := hrd.out
          rw [HD.out, readAt_far hz (by omega)] at h
          exact h
        generalize x.toNat = z at *
        clear hrd HD hn1 hfar
        go_wp2_with fail
        go_roundw
        case rel =>
          exact ⟨j + 1, _, by omega, by omega, by rw [HA.out.1], by go_num, HA.out.2.1, hfin, hfin2, trivial⟩
        case measure => simp [intOf]; omega
    · obtain ⟨rfl, rfl, rfl⟩ : (0 : Int) = a ∧ (0 : Int) = b ∧ (20 : Int) = d := by
        have h := hrd.out
        rw [List.drop_of_length_le (by omega)] at h
        unfold readAt at h
        simpa using h
      clear hrd HT hfar hn1
      go_wp2_with fail
      go_ret3
      exact ⟨rfl, rfl⟩

set_option maxRecDepth 100000 in
set_option maxHeartbeats 1000000 in
theorem rread_none (c : Nat) (w : World) :
    Calls Try.prog 57 #[.slice none 0 c] w fun e w' => e = .returned (.tuple #[.int .i64 0, .int .i64 0, .int .i64 20]) ∧ w = w' := by
  go_enter Try.func57, Try.ntmps57
  go_wp2_with fail
  refine wp_loop_rounds 1 ?_
  rw [rounds_succ]
  go_wp2_with fail
  go_ret3
  exact ⟨rfl, rfl⟩

/-- The document's Read. -/
theorem rread_any (v : Value) (l : List UInt8) (w : World) (B : Nat) (hv : BytesAt w B v l) (hl : l.length ≤ 1000000) (a b d : Int) (hT : readT l = (a, b, d)) :
    Calls Try.prog 57 #[v] w fun e w' => e = .returned (.tuple #[.int .i64 a, .int .i64 b, .int .i64 d]) ∧ w = w' := by
  obtain ⟨A, c, rfl, _, _, hn, _, hx⟩ := hv
  cases A with
  | some ad => exact rread_some ad c l w a b d hT hl (hx ad rfl)
  | none =>
    obtain rfl := hn rfl
    obtain ⟨rfl, rfl, rfl⟩ : (0 : Int) = a ∧ (0 : Int) = b ∧ (20 : Int) = d := by
      unfold readT readAt at hT
      simpa using hT
    exact rread_none c w
end Go.Proofs.Ytkeocnobninaaaa

/- The document's Read: bytes that begin no whole packet. Written by gen_dread.py. -/
namespace Go.Proofs.Ytkeocnobninaaaa
open Go.RowKit Go.Lib
set_option linter.unusedVariables false

set_option maxRecDepth 100000 in
set_option maxHeartbeats 4000000 in
theorem dread_bad (A : Option Addr) (cap : Nat) (b : List UInt8) (B : Nat) (w : World) (hB : B ≤ w.heap.size) (hv : BytesAt w B (.slice A b.length cap) b) (hm : b.length ≤ 1000000) (x y z : Int) (hT : bndP b = (x, y, z)) (hz : z ≠ 0) :
    Calls Try.prog 25 #[.slice A b.length cap] w (RdPost w (pk0, 0, z)) := by
  have hbw : Below w.heap.size w (w.alloc (.cells (pkC pk0 sv0) 28)) := (Below.refl _ _).alloc (Nat.le_refl _) _
  have r0 : (w.alloc (.cells (pkC pk0 sv0) 28)).heap[w.heap.size]? = some (.cells (pkC pk0 sv0) 28 (0, 0)) := heap_alloc_last _ _
  have R0 := Lib.hid r0
  rcases b with _ | ⟨c, r⟩
  · obtain ⟨rfl, rfl, rfl⟩ : (0 : Int) = x ∧ (0 : Int) = y ∧ (20 : Int) = z := by simpa [bndP] using hT
    clear hv hm hT hz r0
    go_enter Try.func25, Try.ntmps25
    go_wp2_with ((with_reducible show wpList _ _ _ ({ dst := _, op := Op.store 28 (Operand.tmp 2) _, type := _, pos := _, after := _, guard := _ } :: _) _ _); refine stR (w.heap.size) _ (pkC pk0 sv0) (by rfl) (by rfl) (by exact R0.out) (by rfl) (by rfl) (pkc_one _ _) ?_)
    refine bodyPost_ret (results_row2 (by rfl) _ _ (w.heap.size) _ (by rfl) (ldv_pk (setRow_heap _ _ _ _ _ _ (by exact R0.out)))) (by rfl) ⟨sv0, rfl, pk0_own _ _, ?_⟩
    exact below_setRow (hbw) (Nat.le_refl _) _
  · rcases A with _ | ad
    · obtain ⟨A', c', hv1, hc, hm', hz', _⟩ := hv
      injection hv1 with v1 v2 v3
      have := hz' v1.symm
      cases this
    have z0 : ∀ C t q, (w.alloc (.cells C t q)).cell? ad = some (.int .u8 (c.toNat : Int)) := fun C t q => by have := cell_zero (hv.to hB ((Below.refl _ _).alloc (Nat.le_refl _) (.cells C t q))); exact this
    obtain ⟨a1, a2, a3, a4, a5⟩ := readT_in r
    have hd := BytesAt.drop hv 1 (by simp)
    have hcap : 1 ≤ cap ∧ cap ≤ 9223372036854775807 ∧ (c :: r).length ≤ cap := by
      obtain ⟨A', c', hv1, hc, hm', hz', _⟩ := hv
      injection hv1 with v1 v2 v3
      subst v3
      unfold maxLen at hm'
      simp at hc ⊢; omega
    have hlen : (c :: r).length = r.length + 1 := by simp
    have hr : r.length ≤ 1000000 := by omega
    have hdl : (c :: r).length - 1 = r.length := by omega
    have hu : (c.toNat : Int) ≤ 255 := by have := c.toNat_lt; omega
    have HBeg := Lib.hid (fun W => rhead_any (c.toNat : Int) (by omega) hu W)
    rw [rbeg_eq _ (by omega) hu] at HBeg
    rw [hdl] at hd
    have HD := Lib.hid hd
    have e0 : (c :: r).drop 1 = r := rfl
    rw [e0] at HD
    have ea : ad.add 1 = ⟨ad.block, ad.off + 1, none⟩ := rfl
    rw [ea] at HD
    have HR := Lib.hid (fun (W : World) (h : Below w.heap.size w W) (t1 t2 t3 : Int) (ht : readT r = (t1, t2, t3)) => rread_any _ r W B (HD.out.below (h.mono hB)) hr t1 t2 t3 ht)
    have HZ := Lib.hid (fun (W : World) (h : r = []) => rread_any (.slice (some ad) 0 0) [] W B (BytesAt.void W B ad 0 (by decide)) (by decide) 0 0 20 rfl)
    have hT0 : r = [] → readT r = (0, 0, 20) := fun e => by rw [e]; rfl
    have hnil : cap = 1 → r = [] := fun e => List.eq_nil_of_length_eq_zero (by omega)
    have HN := Lib.hid hnil
    clear hnil
    have hbn : bndP (c :: r) = if begP c.toNat = false then (0, 0, 21) else if (readT r).2.2 ≠ 0 then (0, 0, (readT r).2.2) else if (readT r).1 > 8192 then (0, 0, 22) else if 1 + (readT r).2.1 + (readT r).1 > (c :: r).length then (0, 0, 20) else (1 + (readT r).2.1, 1 + (readT r).2.1 + (readT r).1, 0) := rfl
    rw [hbn] at hT
    rw [hlen] at hT ⊢
    rw [hlen] at hcap
    clear hv hd e0 hbn hdl hlen ea r0
    generalize begP c.toNat = bg at *
    have HT0 := Lib.hid hT0
    clear hT0
    generalize hR : readT r = T at *
    obtain ⟨t1, t2, t3⟩ := T
    simp only at a1 a2 a3 a4 a5 hT
    have HR2 := Lib.hid (fun W h => HR.out W h t1 t2 t3 rfl)
    have HC : Hid (cap = 1 → t3 = 20) := Lib.hid (fun e => by have := HT0.out (HN.out e); injection this with _ q; injection q)
    clear HR hR HT0
    generalize r.length = L at *
    cases bg with
    | false =>
      obtain ⟨rfl, rfl, rfl⟩ : (0 : Int) = x ∧ (0 : Int) = y ∧ (21 : Int) = z := by simpa using hT
      clear hz hT
      go_enter Try.func25, Try.ntmps25
      go_wp2_with fail
      refine (HBeg.out _).mono ?_
      rintro e w1 ⟨rfl, rfl⟩
      go_wp2_with ((with_reducible show wpList _ _ _ ({ dst := _, op := Op.store 28 (Operand.tmp 2) _, type := _, pos := _, after := _, guard := _ } :: _) _ _); refine stR (w.heap.size) _ (pkC pk0 sv0) (by rfl) (by rfl) (by exact R0.out) (by rfl) (by rfl) (pkc_one _ _) ?_)
      refine bodyPost_ret (results_row2 (by rfl) _ _ (w.heap.size) _ (by rfl) (ldv_pk (setRow_heap _ _ _ _ _ _ (by exact R0.out)))) (by rfl) ⟨sv0, rfl, pk0_own _ _, ?_⟩
      exact below_setRow (hbw) (Nat.le_refl _) _
    | true =>
      simp only [Bool.true_eq_false, if_false] at hT
      by_cases q2 : t3 ≠ 0
      · obtain ⟨rfl, rfl, rfl⟩ : (0 : Int) = x ∧ (0 : Int) = y ∧ t3 = z := by simpa [q2] using hT
        have q2b : (t3 != 0) = true := by simpa using q2
        clear hT q2 a5 hz
        by_cases hc1 : cap = 1
        · subst hc1
          have HZ2 := Lib.hid (fun W => HZ.out W (HN.out rfl))
          have e3 := HC.out rfl
          subst e3
          clear HZ HR2 HN HC
          have hL : L = 0 := by omega
          subst hL
          go_enter Try.func25, Try.ntmps25
          go_wp2_with fail
          refine (HBeg.out _).mono ?_
          rintro e w1 ⟨rfl, rfl⟩
          go_wp2_with fail
          refine (HZ2.out _).mono ?_
          rintro e w2 ⟨rfl, rfl⟩
          go_wp2_with ((with_reducible show wpList _ _ _ ({ dst := _, op := Op.store 28 (Operand.tmp 2) _, type := _, pos := _, after := _, guard := _ } :: _) _ _); refine stR (w.heap.size) _ (pkC pk0 sv0) (by rfl) (by rfl) (by exact R0.out) (by rfl) (by rfl) (pkc_one _ _) ?_)
          refine bodyPost_ret (results_row2 (by rfl) _ _ (w.heap.size) _ (by rfl) (ldv_pk (setRow_heap _ _ _ _ _ _ (by exact R0.out)))) (by rfl) ⟨sv0, rfl, pk0_own _ _, ?_⟩
          exact below_setRow (hbw) (Nat.le_refl _) _
        clear HZ HN HC
        go_enter Try.func25, Try.ntmps25
        go_wp2_with fail
        refine (HBeg.out _).mono ?_
        rintro e w1 ⟨rfl, rfl⟩
        go_wp2_with fail
        refine (HR2.out _ hbw).mono ?_
        rintro e w2 ⟨rfl, rfl⟩
        go_wp2_with ((with_reducible show wpList _ _ _ ({ dst := _, op := Op.store 28 (Operand.tmp 2) _, type := _, pos := _, after := _, guard := _ } :: _) _ _); refine stR (w.heap.size) _ (pkC pk0 sv0) (by rfl) (by rfl) (by exact R0.out) (by rfl) (by rfl) (pkc_one _ _) ?_)
        refine bodyPost_ret (results_row2 (by rfl) _ _ (w.heap.size) _ (by rfl) (ldv_pk (setRow_heap _ _ _ _ _ _ (by exact R0.out)))) (by rfl) ⟨sv0, rfl, pk0_own _ _, ?_⟩
        exact below_setRow (hbw) (Nat.le_refl _) _
      · simp only [ne_eq, Decidable.not_not] at q2
        subst q2
        simp only [ne_eq, not_true_eq_false, if_false] at hT
        clear a5
        have hc1 : cap ≠ 1 := fun e => by have := HC.out e; omega
        clear HZ HN HC
        by_cases q3 : t1 > 8192
        · obtain ⟨rfl, rfl, rfl⟩ : (0 : Int) = x ∧ (0 : Int) = y ∧ (22 : Int) = z := by simpa [q3] using hT
          clear hT hz
          go_enter Try.func25, Try.ntmps25
          go_wp2_with fail
          refine (HBeg.out _).mono ?_
          rintro e w1 ⟨rfl, rfl⟩
          go_wp2_with fail
          refine (HR2.out _ hbw).mono ?_
          rintro e w2 ⟨rfl, rfl⟩
          go_wp2_with ((with_reducible show wpList _ _ _ ({ dst := _, op := Op.store 28 (Operand.tmp 2) _, type := _, pos := _, after := _, guard := _ } :: _) _ _); refine stR (w.heap.size) _ (pkC pk0 sv0) (by rfl) (by rfl) (by exact R0.out) (by rfl) (by rfl) (pkc_one _ _) ?_)
          refine bodyPost_ret (results_row2 (by rfl) _ _ (w.heap.size) _ (by rfl) (ldv_pk (setRow_heap _ _ _ _ _ _ (by exact R0.out)))) (by rfl) ⟨sv0, rfl, pk0_own _ _, ?_⟩
          exact below_setRow (hbw) (Nat.le_refl _) _
        simp only [q3, if_false] at hT
        by_cases q4 : 1 + t2 + t1 > ((L + 1 : Nat) : Int)
        · obtain ⟨rfl, rfl, rfl⟩ : (0 : Int) = x ∧ (0 : Int) = y ∧ (20 : Int) = z := by rw [if_pos q4] at hT; simpa using hT
          clear hT hz
          go_enter Try.func25, Try.ntmps25
          go_wp2_with fail
          refine (HBeg.out _).mono ?_
          rintro e w1 ⟨rfl, rfl⟩
          go_wp2_with fail
          refine (HR2.out _ hbw).mono ?_
          rintro e w2 ⟨rfl, rfl⟩
          go_wp2_with ((with_reducible show wpList _ _ _ ({ dst := _, op := Op.store 28 (Operand.tmp 2) _, type := _, pos := _, after := _, guard := _ } :: _) _ _); refine stR (w.heap.size) _ (pkC pk0 sv0) (by rfl) (by rfl) (by exact R0.out) (by rfl) (by rfl) (pkc_one _ _) ?_)
          refine bodyPost_ret (results_row2 (by rfl) _ _ (w.heap.size) _ (by rfl) (ldv_pk (setRow_heap _ _ _ _ _ _ (by exact R0.out)))) (by rfl) ⟨sv0, rfl, pk0_own _ _, ?_⟩
          exact below_setRow (hbw) (Nat.le_refl _) _
        · rw [if_neg q4] at hT
          injection hT with _ hT
          injection hT with _ hT
          exact absurd hT.symm hz
end Go.Proofs.Ytkeocnobninaaaa

/- The document's Put, where its test and its body are known. Written by gen_rput.py. -/
namespace Go.Proofs.Ytkeocnobninaaaa
open Go.RowKit Go.Lib
set_option linter.unusedVariables false

theorem rbit_q (b : Bool) (f : Int) (w : World) :
    Calls Try.prog 38 #[.bool b, .int .i64 f] w fun e w' => e = .returned (.int .i64 (flagI b f)) ∧ w' = w := (rbit_any b f w).mono fun _ _ ⟨h, k⟩ => ⟨h, k.symm⟩

theorem own_nz2 {w : World} {base n c k : Nat} {A : Option Addr} {xs : List Value} (h : w.ownsRow base 5 1 (.slice A n c) k xs) : A = none → c = 0 := by
  intro e
  rcases h.2 with ⟨h, _⟩ | ⟨g, cap, cur, h, _⟩
  · injection h
  · injection h with h1 _ _
    rw [e] at h1
    exact absurd h1 (by simp)

set_option maxRecDepth 100000 in
set_option maxHeartbeats 2000000 in
theorem dput_no (p : Pk) (s : Sv) (B : Nat) (w : World) (hp : PkAt w B p s) (hB : B ≤ w.heap.size)
    (hright : ∀ W, PkAt W B p s → B ≤ W.heap.size → Calls Try.prog 20 #[pkV p s] W fun e w' => e = .returned (.bool false) ∧ Below W.heap.size W w') :
    Calls Try.prog 18 #[pkV p s] w fun e w' => e = .returned (.tuple #[.slice none 0 0, .int .i64 26]) ∧ Below w.heap.size w w' := by
  have HP := Lib.hid hp
  have HR := Lib.hid hright
  have hbw : Below w.heap.size w (w.alloc (.cells (pkC p s) 28)) := (Below.refl _ _).alloc (Nat.le_refl _) _
  clear hp hright
  go_enter Try.func18, Try.ntmps18
  go_wp2_with ((with_reducible show wpList _ _ _ ({ dst := _, op := Op.load 28 _, type := _, pos := _, after := _, guard := _ } :: _) _ _); refine ld_pk (w.heap.size) (by rfl) (by rfl) _ _ _ (by (first | assumption | exact heap_alloc_last _ _ | (repeat (first | assumption | exact heap_alloc_last _ _ | exact heap_last2 _ _ _ | refine heap_keep ?_ | refine heap_below (by assumption) ?_)))) (by rfl) ?_)
  refine (HR.out _ (HP.out.to hB hbw) (by simp; omega)).mono ?_
  rintro e w1 ⟨rfl, hb1⟩
  have B1 : Below w.heap.size w w1 := thn hbw hb1
  go_wp2_with fail
  go_ret2
  exact ⟨rfl, B1⟩

set_option maxRecDepth 100000 in
set_option maxHeartbeats 8000000 in
theorem dput_yes (p : Pk) (s : Sv) (B : Nat) (w : World) (hp : PkAt w B p s) (hB : B ≤ w.heap.size) (k1 : 1 ≤ p.kind) (k14 : p.kind ≤ 14) (q0 : 0 ≤ p.qos) (q3 : p.qos ≤ 2) (hle : lenP p ≤ 8192) (hll : ((bodyL p).length : Int) = lenP p)
    (hright : ∀ W, PkAt W B p s → B ≤ W.heap.size → Calls Try.prog 20 #[pkV p s] W fun e w' => e = .returned (.bool true) ∧ Below W.heap.size W w')
    (hbody : ∀ W, PkAt W B p s → B ≤ W.heap.size → Calls Try.prog 39 #[pkV p s] W (NewPost W (bodyL p))) :
    Calls Try.prog 18 #[pkV p s] w (PutPost w (encP p)) := by
  have HP := Lib.hid hp
  have HR := Lib.hid hright
  have HBD := Lib.hid hbody
  have HL := Lib.hid hll
  have HLE := Lib.hid hle
  have hbw : Below w.heap.size w (w.alloc (.cells (pkC p s) 28)) := (Below.refl _ _).alloc (Nat.le_refl _) _
  obtain ⟨a1, b1⟩ := flagI_in p.dup 8 (by omega)
  obtain ⟨a2, b2⟩ := flagI_in p.ret 1 (by omega)
  clear hp hright hbody hll hle
  rcases e6 : (p.kind == 6) with _ | _
  rotate_left 1
  · have HX : Hid (16 * p.kind + 2 = headP p) := by
        refine Lib.hid ?_
        unfold headP
        have q : p.kind = 6 := by simpa using e6
        rw [q]; rfl
    go_enter Try.func18, Try.ntmps18
    go_wp2_with ((with_reducible show wpList _ _ _ ({ dst := _, op := Op.load 28 _, type := _, pos := _, after := _, guard := _ } :: _) _ _); refine ld_pk (w.heap.size) (by rfl) (by rfl) _ _ _ (by (first | assumption | exact heap_alloc_last _ _ | (repeat (first | assumption | exact heap_alloc_last _ _ | exact heap_last2 _ _ _ | refine heap_keep ?_ | refine heap_below (by assumption) ?_)))) (by rfl) ?_)
    refine (HR.out _ (HP.out.to hB hbw) (by simp; omega)).mono ?_
    rintro e w1 ⟨rfl, hb1⟩
    have r1 := heap_below hb1 (heap_alloc_last _ _)
    have B1 : Below w.heap.size w w1 := thn hbw hb1
    have C1 := row_cells r1
    go_wp2_with ((with_reducible show wpList _ _ _ ({ dst := _, op := Op.load 28 _, type := _, pos := _, after := _, guard := _ } :: _) _ _); refine ld_pk (w.heap.size) (by rfl) (by rfl) _ _ _ (by (first | assumption | exact heap_alloc_last _ _ | (repeat (first | assumption | exact heap_alloc_last _ _ | exact heap_last2 _ _ _ | refine heap_keep ?_ | refine heap_below (by assumption) ?_)))) (by rfl) ?_)
    refine (HBD.out _ (HP.out.to hB B1) (Nat.le_trans hB B1.size)).mono ?_
    rintro e w2 ⟨A2, c2, rfl, ho2, hb2⟩
    have hle : ((bodyL p).length : Int) = lenP p := HL.out
    have hle2 := HLE.out
    generalize hbl : bodyL p = L2 at ho2 hle ⊢
    have HBQ := Lib.hid hbl
    have hl2 : L2.length ≤ 8192 := by omega
    have HLL := Lib.hid hle
    clear hbl hle hle2
    have r2 := heap_below hb2 r1
    have B2 : Below w.heap.size w _ := thn B1 hb2
    go_wp2_with fail
    refine (rput_any (L2.length : Int) (by omega) (by omega) w2).mono ?_
    rintro e w3 ⟨AZ, cZ, rfl, hZ, hb3⟩
    have r3 := heap_below hb3 r2
    have B3 : Below w.heap.size w w3 := thn B2 hb3
    have z1 := putL_len (L2.length : Int)
    have z2 := putL_pos (L2.length : Int) (by omega) (by omega)
    generalize hZe : putL (L2.length : Int) = Z at hZ z1 z2 ⊢
    have HZ := Lib.hid hZe
    clear hZe
    have C3 := row_cells r3
    have hg3 : w.heap.size < w3.heap.size := (Array.getElem?_eq_some_iff.1 r3).1
    have g3 : 0 ≤ 16 * p.kind + 2 := by omega
    have g4 : 16 * p.kind + 2 ≤ 255 := by omega
    have ho3 := own_new w.heap.size w3 [UInt8.ofNat (16 * p.kind + 2).toNat] #[.int .u8 (16 * p.kind + 2)] (one_cell g3 g4) B3.size (by simp [maxLen])
    have hZ3 := hZ.on ((Below.refl _ _).alloc (Nat.le_refl _) (.cells #[.int .u8 (16 * p.kind + 2)] 5 (0, 0)))
    have hy2 := ((ownsBytes ho2).to (Nat.le_refl _) hb3).to hb3.size ((Below.refl _ _).alloc (Nat.le_refl _) (.cells #[.int .u8 (16 * p.kind + 2)] 5 (0, 0)))
    have hn2 := own_nz2 ho2
    have hw23 : w2.heap.size ≤ w3.heap.size := hb3.size
    go_wp2_with (at_builtin; go_must (refine ap_bytes w.heap.size (some ⟨w3.heap.size, 0, none⟩) 1 1 [UInt8.ofNat (16 * p.kind + 2).toNat] _ AZ cZ Z.length Z (by rfl) (by rfl) ho3 hZ3 (hZ.nz z2) (by omega) (by simp; omega) ?_))
    intro A4 c4 w4 ho4 ha4
    have B4 : Below w.heap.size w w4 := (alB B3 _).trans (ha4.below w.heap.size (by simp; omega) (by simp [Value.ownBlock]; omega))
    have hy4 := hy2.below ((ha4.below w3.heap.size (by simp) (by simp [Value.ownBlock])).mono hw23)
    have hsz4 : w.heap.size ≤ w4.heap.size := B4.size
    have e4 : ([UInt8.ofNat (16 * p.kind + 2).toNat] ++ Z).length = 1 + Z.length := by simp; omega
    have k4 : 1 + Z.length ≤ 5 := by omega
    have HE4 := Lib.hid e4
    clear e4 ho3 hZ3 hZ ha4 r2 r3 hy2
    go_wp2_with (at_builtin; go_must (refine ap_bytes w.heap.size A4 c4 (1 + Z.length) ([UInt8.ofNat (16 * p.kind + 2).toNat] ++ Z) _ A2 c2 L2.length L2 (by rfl) (by rfl) ho4 hy4 hn2 (by omega) hsz4 ?_))
    intro A5 c5 w5 ho5 ha5
    have B5 := B4.trans (ha5.below w.heap.size hsz4 (fun k hk => (ho4.lt k hk).1))
    have e5 : encP p = [UInt8.ofNat (16 * p.kind + 2).toNat] ++ Z ++ L2 := by rw [← HZ.out, ← HBQ.out, HX.out]; unfold encP; rw [HL.out]
    have n5 : ([UInt8.ofNat (16 * p.kind + 2).toNat] ++ Z ++ L2).length = 1 + Z.length + L2.length := by simp; omega
    have E5 := Lib.hid e5
    have N5 := Lib.hid n5
    clear e5 n5
    go_wp2_with fail
    go_ret2
    unfold PutPost
    rw [E5.out, N5.out]
    exact ⟨A5, c5, rfl, ho5, B5⟩
  rcases e8 : (p.kind == 8) with _ | _
  rotate_left 1
  · have HX : Hid (16 * p.kind + 2 = headP p) := by
        refine Lib.hid ?_
        unfold headP
        have q : p.kind = 8 := by simpa using e8
        rw [q]; rfl
    go_enter Try.func18, Try.ntmps18
    go_wp2_with ((with_reducible show wpList _ _ _ ({ dst := _, op := Op.load 28 _, type := _, pos := _, after := _, guard := _ } :: _) _ _); refine ld_pk (w.heap.size) (by rfl) (by rfl) _ _ _ (by (first | assumption | exact heap_alloc_last _ _ | (repeat (first | assumption | exact heap_alloc_last _ _ | exact heap_last2 _ _ _ | refine heap_keep ?_ | refine heap_below (by assumption) ?_)))) (by rfl) ?_)
    refine (HR.out _ (HP.out.to hB hbw) (by simp; omega)).mono ?_
    rintro e w1 ⟨rfl, hb1⟩
    have r1 := heap_below hb1 (heap_alloc_last _ _)
    have B1 : Below w.heap.size w w1 := thn hbw hb1
    have C1 := row_cells r1
    go_wp2_with ((with_reducible show wpList _ _ _ ({ dst := _, op := Op.load 28 _, type := _, pos := _, after := _, guard := _ } :: _) _ _); refine ld_pk (w.heap.size) (by rfl) (by rfl) _ _ _ (by (first | assumption | exact heap_alloc_last _ _ | (repeat (first | assumption | exact heap_alloc_last _ _ | exact heap_last2 _ _ _ | refine heap_keep ?_ | refine heap_below (by assumption) ?_)))) (by rfl) ?_)
    refine (HBD.out _ (HP.out.to hB B1) (Nat.le_trans hB B1.size)).mono ?_
    rintro e w2 ⟨A2, c2, rfl, ho2, hb2⟩
    have hle : ((bodyL p).length : Int) = lenP p := HL.out
    have hle2 := HLE.out
    generalize hbl : bodyL p = L2 at ho2 hle ⊢
    have HBQ := Lib.hid hbl
    have hl2 : L2.length ≤ 8192 := by omega
    have HLL := Lib.hid hle
    clear hbl hle hle2
    have r2 := heap_below hb2 r1
    have B2 : Below w.heap.size w _ := thn B1 hb2
    go_wp2_with fail
    refine (rput_any (L2.length : Int) (by omega) (by omega) w2).mono ?_
    rintro e w3 ⟨AZ, cZ, rfl, hZ, hb3⟩
    have r3 := heap_below hb3 r2
    have B3 : Below w.heap.size w w3 := thn B2 hb3
    have z1 := putL_len (L2.length : Int)
    have z2 := putL_pos (L2.length : Int) (by omega) (by omega)
    generalize hZe : putL (L2.length : Int) = Z at hZ z1 z2 ⊢
    have HZ := Lib.hid hZe
    clear hZe
    have C3 := row_cells r3
    have hg3 : w.heap.size < w3.heap.size := (Array.getElem?_eq_some_iff.1 r3).1
    have g3 : 0 ≤ 16 * p.kind + 2 := by omega
    have g4 : 16 * p.kind + 2 ≤ 255 := by omega
    have ho3 := own_new w.heap.size w3 [UInt8.ofNat (16 * p.kind + 2).toNat] #[.int .u8 (16 * p.kind + 2)] (one_cell g3 g4) B3.size (by simp [maxLen])
    have hZ3 := hZ.on ((Below.refl _ _).alloc (Nat.le_refl _) (.cells #[.int .u8 (16 * p.kind + 2)] 5 (0, 0)))
    have hy2 := ((ownsBytes ho2).to (Nat.le_refl _) hb3).to hb3.size ((Below.refl _ _).alloc (Nat.le_refl _) (.cells #[.int .u8 (16 * p.kind + 2)] 5 (0, 0)))
    have hn2 := own_nz2 ho2
    have hw23 : w2.heap.size ≤ w3.heap.size := hb3.size
    go_wp2_with (at_builtin; go_must (refine ap_bytes w.heap.size (some ⟨w3.heap.size, 0, none⟩) 1 1 [UInt8.ofNat (16 * p.kind + 2).toNat] _ AZ cZ Z.length Z (by rfl) (by rfl) ho3 hZ3 (hZ.nz z2) (by omega) (by simp; omega) ?_))
    intro A4 c4 w4 ho4 ha4
    have B4 : Below w.heap.size w w4 := (alB B3 _).trans (ha4.below w.heap.size (by simp; omega) (by simp [Value.ownBlock]; omega))
    have hy4 := hy2.below ((ha4.below w3.heap.size (by simp) (by simp [Value.ownBlock])).mono hw23)
    have hsz4 : w.heap.size ≤ w4.heap.size := B4.size
    have e4 : ([UInt8.ofNat (16 * p.kind + 2).toNat] ++ Z).length = 1 + Z.length := by simp; omega
    have k4 : 1 + Z.length ≤ 5 := by omega
    have HE4 := Lib.hid e4
    clear e4 ho3 hZ3 hZ ha4 r2 r3 hy2
    go_wp2_with (at_builtin; go_must (refine ap_bytes w.heap.size A4 c4 (1 + Z.length) ([UInt8.ofNat (16 * p.kind + 2).toNat] ++ Z) _ A2 c2 L2.length L2 (by rfl) (by rfl) ho4 hy4 hn2 (by omega) hsz4 ?_))
    intro A5 c5 w5 ho5 ha5
    have B5 := B4.trans (ha5.below w.heap.size hsz4 (fun k hk => (ho4.lt k hk).1))
    have e5 : encP p = [UInt8.ofNat (16 * p.kind + 2).toNat] ++ Z ++ L2 := by rw [← HZ.out, ← HBQ.out, HX.out]; unfold encP; rw [HL.out]
    have n5 : ([UInt8.ofNat (16 * p.kind + 2).toNat] ++ Z ++ L2).length = 1 + Z.length + L2.length := by simp; omega
    have E5 := Lib.hid e5
    have N5 := Lib.hid n5
    clear e5 n5
    go_wp2_with fail
    go_ret2
    unfold PutPost
    rw [E5.out, N5.out]
    exact ⟨A5, c5, rfl, ho5, B5⟩
  rcases e10 : (p.kind == 10) with _ | _
  rotate_left 1
  · have HX : Hid (16 * p.kind + 2 = headP p) := by
        refine Lib.hid ?_
        unfold headP
        have q : p.kind = 10 := by simpa using e10
        rw [q]; rfl
    go_enter Try.func18, Try.ntmps18
    go_wp2_with ((with_reducible show wpList _ _ _ ({ dst := _, op := Op.load 28 _, type := _, pos := _, after := _, guard := _ } :: _) _ _); refine ld_pk (w.heap.size) (by rfl) (by rfl) _ _ _ (by (first | assumption | exact heap_alloc_last _ _ | (repeat (first | assumption | exact heap_alloc_last _ _ | exact heap_last2 _ _ _ | refine heap_keep ?_ | refine heap_below (by assumption) ?_)))) (by rfl) ?_)
    refine (HR.out _ (HP.out.to hB hbw) (by simp; omega)).mono ?_
    rintro e w1 ⟨rfl, hb1⟩
    have r1 := heap_below hb1 (heap_alloc_last _ _)
    have B1 : Below w.heap.size w w1 := thn hbw hb1
    have C1 := row_cells r1
    go_wp2_with ((with_reducible show wpList _ _ _ ({ dst := _, op := Op.load 28 _, type := _, pos := _, after := _, guard := _ } :: _) _ _); refine ld_pk (w.heap.size) (by rfl) (by rfl) _ _ _ (by (first | assumption | exact heap_alloc_last _ _ | (repeat (first | assumption | exact heap_alloc_last _ _ | exact heap_last2 _ _ _ | refine heap_keep ?_ | refine heap_below (by assumption) ?_)))) (by rfl) ?_)
    refine (HBD.out _ (HP.out.to hB B1) (Nat.le_trans hB B1.size)).mono ?_
    rintro e w2 ⟨A2, c2, rfl, ho2, hb2⟩
    have hle : ((bodyL p).length : Int) = lenP p := HL.out
    have hle2 := HLE.out
    generalize hbl : bodyL p = L2 at ho2 hle ⊢
    have HBQ := Lib.hid hbl
    have hl2 : L2.length ≤ 8192 := by omega
    have HLL := Lib.hid hle
    clear hbl hle hle2
    have r2 := heap_below hb2 r1
    have B2 : Below w.heap.size w _ := thn B1 hb2
    go_wp2_with fail
    refine (rput_any (L2.length : Int) (by omega) (by omega) w2).mono ?_
    rintro e w3 ⟨AZ, cZ, rfl, hZ, hb3⟩
    have r3 := heap_below hb3 r2
    have B3 : Below w.heap.size w w3 := thn B2 hb3
    have z1 := putL_len (L2.length : Int)
    have z2 := putL_pos (L2.length : Int) (by omega) (by omega)
    generalize hZe : putL (L2.length : Int) = Z at hZ z1 z2 ⊢
    have HZ := Lib.hid hZe
    clear hZe
    have C3 := row_cells r3
    have hg3 : w.heap.size < w3.heap.size := (Array.getElem?_eq_some_iff.1 r3).1
    have g3 : 0 ≤ 16 * p.kind + 2 := by omega
    have g4 : 16 * p.kind + 2 ≤ 255 := by omega
    have ho3 := own_new w.heap.size w3 [UInt8.ofNat (16 * p.kind + 2).toNat] #[.int .u8 (16 * p.kind + 2)] (one_cell g3 g4) B3.size (by simp [maxLen])
    have hZ3 := hZ.on ((Below.refl _ _).alloc (Nat.le_refl _) (.cells #[.int .u8 (16 * p.kind + 2)] 5 (0, 0)))
    have hy2 := ((ownsBytes ho2).to (Nat.le_refl _) hb3).to hb3.size ((Below.refl _ _).alloc (Nat.le_refl _) (.cells #[.int .u8 (16 * p.kind + 2)] 5 (0, 0)))
    have hn2 := own_nz2 ho2
    have hw23 : w2.heap.size ≤ w3.heap.size := hb3.size
    go_wp2_with (at_builtin; go_must (refine ap_bytes w.heap.size (some ⟨w3.heap.size, 0, none⟩) 1 1 [UInt8.ofNat (16 * p.kind + 2).toNat] _ AZ cZ Z.length Z (by rfl) (by rfl) ho3 hZ3 (hZ.nz z2) (by omega) (by simp; omega) ?_))
    intro A4 c4 w4 ho4 ha4
    have B4 : Below w.heap.size w w4 := (alB B3 _).trans (ha4.below w.heap.size (by simp; omega) (by simp [Value.ownBlock]; omega))
    have hy4 := hy2.below ((ha4.below w3.heap.size (by simp) (by simp [Value.ownBlock])).mono hw23)
    have hsz4 : w.heap.size ≤ w4.heap.size := B4.size
    have e4 : ([UInt8.ofNat (16 * p.kind + 2).toNat] ++ Z).length = 1 + Z.length := by simp; omega
    have k4 : 1 + Z.length ≤ 5 := by omega
    have HE4 := Lib.hid e4
    clear e4 ho3 hZ3 hZ ha4 r2 r3 hy2
    go_wp2_with (at_builtin; go_must (refine ap_bytes w.heap.size A4 c4 (1 + Z.length) ([UInt8.ofNat (16 * p.kind + 2).toNat] ++ Z) _ A2 c2 L2.length L2 (by rfl) (by rfl) ho4 hy4 hn2 (by omega) hsz4 ?_))
    intro A5 c5 w5 ho5 ha5
    have B5 := B4.trans (ha5.below w.heap.size hsz4 (fun k hk => (ho4.lt k hk).1))
    have e5 : encP p = [UInt8.ofNat (16 * p.kind + 2).toNat] ++ Z ++ L2 := by rw [← HZ.out, ← HBQ.out, HX.out]; unfold encP; rw [HL.out]
    have n5 : ([UInt8.ofNat (16 * p.kind + 2).toNat] ++ Z ++ L2).length = 1 + Z.length + L2.length := by simp; omega
    have E5 := Lib.hid e5
    have N5 := Lib.hid n5
    clear e5 n5
    go_wp2_with fail
    go_ret2
    unfold PutPost
    rw [E5.out, N5.out]
    exact ⟨A5, c5, rfl, ho5, B5⟩
  rcases e3 : (p.kind == 3) with _ | _
  · have HX : Hid (16 * p.kind = headP p) := by
        refine Lib.hid ?_
        unfold headP
        simp [e3, e6, e8, e10]; omega
    go_enter Try.func18, Try.ntmps18
    go_wp2_with ((with_reducible show wpList _ _ _ ({ dst := _, op := Op.load 28 _, type := _, pos := _, after := _, guard := _ } :: _) _ _); refine ld_pk (w.heap.size) (by rfl) (by rfl) _ _ _ (by (first | assumption | exact heap_alloc_last _ _ | (repeat (first | assumption | exact heap_alloc_last _ _ | exact heap_last2 _ _ _ | refine heap_keep ?_ | refine heap_below (by assumption) ?_)))) (by rfl) ?_)
    refine (HR.out _ (HP.out.to hB hbw) (by simp; omega)).mono ?_
    rintro e w1 ⟨rfl, hb1⟩
    have r1 := heap_below hb1 (heap_alloc_last _ _)
    have B1 : Below w.heap.size w w1 := thn hbw hb1
    have C1 := row_cells r1
    go_wp2_with ((with_reducible show wpList _ _ _ ({ dst := _, op := Op.load 28 _, type := _, pos := _, after := _, guard := _ } :: _) _ _); refine ld_pk (w.heap.size) (by rfl) (by rfl) _ _ _ (by (first | assumption | exact heap_alloc_last _ _ | (repeat (first | assumption | exact heap_alloc_last _ _ | exact heap_last2 _ _ _ | refine heap_keep ?_ | refine heap_below (by assumption) ?_)))) (by rfl) ?_)
    refine (HBD.out _ (HP.out.to hB B1) (Nat.le_trans hB B1.size)).mono ?_
    rintro e w2 ⟨A2, c2, rfl, ho2, hb2⟩
    have hle : ((bodyL p).length : Int) = lenP p := HL.out
    have hle2 := HLE.out
    generalize hbl : bodyL p = L2 at ho2 hle ⊢
    have HBQ := Lib.hid hbl
    have hl2 : L2.length ≤ 8192 := by omega
    have HLL := Lib.hid hle
    clear hbl hle hle2
    have r2 := heap_below hb2 r1
    have B2 : Below w.heap.size w _ := thn B1 hb2
    go_wp2_with fail
    refine (rput_any (L2.length : Int) (by omega) (by omega) w2).mono ?_
    rintro e w3 ⟨AZ, cZ, rfl, hZ, hb3⟩
    have r3 := heap_below hb3 r2
    have B3 : Below w.heap.size w w3 := thn B2 hb3
    have z1 := putL_len (L2.length : Int)
    have z2 := putL_pos (L2.length : Int) (by omega) (by omega)
    generalize hZe : putL (L2.length : Int) = Z at hZ z1 z2 ⊢
    have HZ := Lib.hid hZe
    clear hZe
    have C3 := row_cells r3
    have hg3 : w.heap.size < w3.heap.size := (Array.getElem?_eq_some_iff.1 r3).1
    have g3 : 0 ≤ 16 * p.kind := by omega
    have g4 : 16 * p.kind ≤ 255 := by omega
    have ho3 := own_new w.heap.size w3 [UInt8.ofNat (16 * p.kind).toNat] #[.int .u8 (16 * p.kind)] (one_cell g3 g4) B3.size (by simp [maxLen])
    have hZ3 := hZ.on ((Below.refl _ _).alloc (Nat.le_refl _) (.cells #[.int .u8 (16 * p.kind)] 5 (0, 0)))
    have hy2 := ((ownsBytes ho2).to (Nat.le_refl _) hb3).to hb3.size ((Below.refl _ _).alloc (Nat.le_refl _) (.cells #[.int .u8 (16 * p.kind)] 5 (0, 0)))
    have hn2 := own_nz2 ho2
    have hw23 : w2.heap.size ≤ w3.heap.size := hb3.size
    go_wp2_with (at_builtin; go_must (refine ap_bytes w.heap.size (some ⟨w3.heap.size, 0, none⟩) 1 1 [UInt8.ofNat (16 * p.kind).toNat] _ AZ cZ Z.length Z (by rfl) (by rfl) ho3 hZ3 (hZ.nz z2) (by omega) (by simp; omega) ?_))
    intro A4 c4 w4 ho4 ha4
    have B4 : Below w.heap.size w w4 := (alB B3 _).trans (ha4.below w.heap.size (by simp; omega) (by simp [Value.ownBlock]; omega))
    have hy4 := hy2.below ((ha4.below w3.heap.size (by simp) (by simp [Value.ownBlock])).mono hw23)
    have hsz4 : w.heap.size ≤ w4.heap.size := B4.size
    have e4 : ([UInt8.ofNat (16 * p.kind).toNat] ++ Z).length = 1 + Z.length := by simp; omega
    have k4 : 1 + Z.length ≤ 5 := by omega
    have HE4 := Lib.hid e4
    clear e4 ho3 hZ3 hZ ha4 r2 r3 hy2
    go_wp2_with (at_builtin; go_must (refine ap_bytes w.heap.size A4 c4 (1 + Z.length) ([UInt8.ofNat (16 * p.kind).toNat] ++ Z) _ A2 c2 L2.length L2 (by rfl) (by rfl) ho4 hy4 hn2 (by omega) hsz4 ?_))
    intro A5 c5 w5 ho5 ha5
    have B5 := B4.trans (ha5.below w.heap.size hsz4 (fun k hk => (ho4.lt k hk).1))
    have e5 : encP p = [UInt8.ofNat (16 * p.kind).toNat] ++ Z ++ L2 := by rw [← HZ.out, ← HBQ.out, HX.out]; unfold encP; rw [HL.out]
    have n5 : ([UInt8.ofNat (16 * p.kind).toNat] ++ Z ++ L2).length = 1 + Z.length + L2.length := by simp; omega
    have E5 := Lib.hid e5
    have N5 := Lib.hid n5
    clear e5 n5
    go_wp2_with fail
    go_ret2
    unfold PutPost
    rw [E5.out, N5.out]
    exact ⟨A5, c5, rfl, ho5, B5⟩
  · have HX : Hid (16 * p.kind + (flagI p.dup 8 + 2 * p.qos + flagI p.ret 1) = headP p) := by
        refine Lib.hid ?_
        unfold headP
        simp [e3]; omega
    go_enter Try.func18, Try.ntmps18
    go_wp2_with ((with_reducible show wpList _ _ _ ({ dst := _, op := Op.load 28 _, type := _, pos := _, after := _, guard := _ } :: _) _ _); refine ld_pk (w.heap.size) (by rfl) (by rfl) _ _ _ (by (first | assumption | exact heap_alloc_last _ _ | (repeat (first | assumption | exact heap_alloc_last _ _ | exact heap_last2 _ _ _ | refine heap_keep ?_ | refine heap_below (by assumption) ?_)))) (by rfl) ?_)
    refine (HR.out _ (HP.out.to hB hbw) (by simp; omega)).mono ?_
    rintro e w1 ⟨rfl, hb1⟩
    have r1 := heap_below hb1 (heap_alloc_last _ _)
    have B1 : Below w.heap.size w w1 := thn hbw hb1
    have C1 := row_cells r1
    go_wp2_with ((with_reducible show wpList _ _ _ ({ dst := _, op := Op.load 28 _, type := _, pos := _, after := _, guard := _ } :: _) _ _); refine ld_pk (w.heap.size) (by rfl) (by rfl) _ _ _ (by (first | assumption | exact heap_alloc_last _ _ | (repeat (first | assumption | exact heap_alloc_last _ _ | exact heap_last2 _ _ _ | refine heap_keep ?_ | refine heap_below (by assumption) ?_)))) (by rfl) ?_)
    go_quiet ((go_at_call 38; exact Calls.quiet_of_same (rbit_q _ _ _)))
    have B1 : Below w.heap.size w (w1.drewN nq) := dwN B1 _
    have r1 : (w1.drewN nq).heap[w.heap.size]? = some (.cells (pkC p s) 28 (0, 0)) := r1
    generalize w1.drewN nq = w1 at *
    go_wp2_with ((with_reducible show wpList _ _ _ ({ dst := _, op := Op.load 28 _, type := _, pos := _, after := _, guard := _ } :: _) _ _); refine ld_pk (w.heap.size) (by rfl) (by rfl) _ _ _ (by (first | assumption | exact heap_alloc_last _ _ | (repeat (first | assumption | exact heap_alloc_last _ _ | exact heap_last2 _ _ _ | refine heap_keep ?_ | refine heap_below (by assumption) ?_)))) (by rfl) ?_)
    refine (HBD.out _ (HP.out.to hB B1) (Nat.le_trans hB B1.size)).mono ?_
    rintro e w2 ⟨A2, c2, rfl, ho2, hb2⟩
    have hle : ((bodyL p).length : Int) = lenP p := HL.out
    have hle2 := HLE.out
    generalize hbl : bodyL p = L2 at ho2 hle ⊢
    have HBQ := Lib.hid hbl
    have hl2 : L2.length ≤ 8192 := by omega
    have HLL := Lib.hid hle
    clear hbl hle hle2
    have r2 := heap_below hb2 r1
    have B2 : Below w.heap.size w _ := thn B1 hb2
    go_wp2_with fail
    refine (rput_any (L2.length : Int) (by omega) (by omega) w2).mono ?_
    rintro e w3 ⟨AZ, cZ, rfl, hZ, hb3⟩
    have r3 := heap_below hb3 r2
    have B3 : Below w.heap.size w w3 := thn B2 hb3
    have z1 := putL_len (L2.length : Int)
    have z2 := putL_pos (L2.length : Int) (by omega) (by omega)
    generalize hZe : putL (L2.length : Int) = Z at hZ z1 z2 ⊢
    have HZ := Lib.hid hZe
    clear hZe
    have C3 := row_cells r3
    have hg3 : w.heap.size < w3.heap.size := (Array.getElem?_eq_some_iff.1 r3).1
    have g3 : 0 ≤ 16 * p.kind + (flagI p.dup 8 + 2 * p.qos + flagI p.ret 1) := by omega
    have g4 : 16 * p.kind + (flagI p.dup 8 + 2 * p.qos + flagI p.ret 1) ≤ 255 := by omega
    have ho3 := own_new w.heap.size w3 [UInt8.ofNat (16 * p.kind + (flagI p.dup 8 + 2 * p.qos + flagI p.ret 1)).toNat] #[.int .u8 (16 * p.kind + (flagI p.dup 8 + 2 * p.qos + flagI p.ret 1))] (one_cell g3 g4) B3.size (by simp [maxLen])
    have hZ3 := hZ.on ((Below.refl _ _).alloc (Nat.le_refl _) (.cells #[.int .u8 (16 * p.kind + (flagI p.dup 8 + 2 * p.qos + flagI p.ret 1))] 5 (0, 0)))
    have hy2 := ((ownsBytes ho2).to (Nat.le_refl _) hb3).to hb3.size ((Below.refl _ _).alloc (Nat.le_refl _) (.cells #[.int .u8 (16 * p.kind + (flagI p.dup 8 + 2 * p.qos + flagI p.ret 1))] 5 (0, 0)))
    have hn2 := own_nz2 ho2
    have hw23 : w2.heap.size ≤ w3.heap.size := hb3.size
    go_wp2_with (at_builtin; go_must (refine ap_bytes w.heap.size (some ⟨w3.heap.size, 0, none⟩) 1 1 [UInt8.ofNat (16 * p.kind + (flagI p.dup 8 + 2 * p.qos + flagI p.ret 1)).toNat] _ AZ cZ Z.length Z (by rfl) (by rfl) ho3 hZ3 (hZ.nz z2) (by omega) (by simp; omega) ?_))
    intro A4 c4 w4 ho4 ha4
    have B4 : Below w.heap.size w w4 := (alB B3 _).trans (ha4.below w.heap.size (by simp; omega) (by simp [Value.ownBlock]; omega))
    have hy4 := hy2.below ((ha4.below w3.heap.size (by simp) (by simp [Value.ownBlock])).mono hw23)
    have hsz4 : w.heap.size ≤ w4.heap.size := B4.size
    have e4 : ([UInt8.ofNat (16 * p.kind + (flagI p.dup 8 + 2 * p.qos + flagI p.ret 1)).toNat] ++ Z).length = 1 + Z.length := by simp; omega
    have k4 : 1 + Z.length ≤ 5 := by omega
    have HE4 := Lib.hid e4
    clear e4 ho3 hZ3 hZ ha4 r2 r3 hy2
    go_wp2_with (at_builtin; go_must (refine ap_bytes w.heap.size A4 c4 (1 + Z.length) ([UInt8.ofNat (16 * p.kind + (flagI p.dup 8 + 2 * p.qos + flagI p.ret 1)).toNat] ++ Z) _ A2 c2 L2.length L2 (by rfl) (by rfl) ho4 hy4 hn2 (by omega) hsz4 ?_))
    intro A5 c5 w5 ho5 ha5
    have B5 := B4.trans (ha5.below w.heap.size hsz4 (fun k hk => (ho4.lt k hk).1))
    have e5 : encP p = [UInt8.ofNat (16 * p.kind + (flagI p.dup 8 + 2 * p.qos + flagI p.ret 1)).toNat] ++ Z ++ L2 := by rw [← HZ.out, ← HBQ.out, HX.out]; unfold encP; rw [HL.out]
    have n5 : ([UInt8.ofNat (16 * p.kind + (flagI p.dup 8 + 2 * p.qos + flagI p.ret 1)).toNat] ++ Z ++ L2).length = 1 + Z.length + L2.length := by simp; omega
    have E5 := Lib.hid e5
    have N5 := Lib.hid n5
    clear e5 n5
    go_wp2_with fail
    go_ret2
    unfold PutPost
    rw [E5.out, N5.out]
    exact ⟨A5, c5, rfl, ho5, B5⟩
end Go.Proofs.Ytkeocnobninaaaa
