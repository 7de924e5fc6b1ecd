/- A packet that comes in as an argument, opened. -/
import Derived.Test.YtpjlnienakiihaaDoorPkt
import Derived.Test.YtpjlnienakiihaaDoorRowConv
import Derived.Deep.Slices
import Derived.ChangeSame
import Derived.ChangeSlices
import Derived.WideShapes
import Derived.SizedLaws
namespace Go.Proofs.YtpjlnienakiihaaDoor
open Go.RowKit Go.Lib Go.ChangeShapes Go.WideShapes Go.Deep

/-- What is known of the numbers and texts of a packet that came in. -/
structure PkIn (p : Pk) : Prop where
  kind : i64In p.kind
  qos : i64In p.qos
  id : i64In p.id
  level : i64In p.level
  keep : i64In p.keep
  wqos : i64In p.wqos
  code : i64In p.code
  top : p.top.size ≤ maxLen
  pay : p.pay.length ≤ maxLen
  cli : p.cli.size ≤ maxLen
  wtop : p.wtop.size ≤ maxLen
  wpay : p.wpay.length ≤ maxLen
  user : p.user.size ≤ maxLen
  pass : p.pass.length ≤ maxLen
  subs : p.subs.length ≤ maxLen
  codes : p.codes.length ≤ maxLen
  sub : ∀ x ∈ p.subs, x.1.size ≤ maxLen ∧ i64In x.2
  cod : ∀ x ∈ p.codes, i64In x

/-- What memory can hold at once, of each of its texts. -/
structure PkReach (p : Pk) : Prop where
  top : p.top.size ≤ reachBytes
  pay : p.pay.length ≤ reachBytes
  cli : p.cli.size ≤ reachBytes
  wtop : p.wtop.size ≤ reachBytes
  wpay : p.wpay.length ≤ reachBytes
  user : p.user.size ≤ reachBytes
  pass : p.pass.length ≤ reachBytes

theorem i64_wf {n : Int} (h : (Lit.int .i64 n).wf = true) : i64In n := by
  have e1 : IntKind.i64.min = -9223372036854775808 := rfl
  have e2 : IntKind.i64.max = 9223372036854775807 := rfl
  simp only [Lit.wf, Bool.and_eq_true, decide_eq_true_eq, e1, e2] at h
  exact h

theorem nil_bytes' (w : World) (B : Nat) : BytesAt w B (.slice none 0 0) [] := ⟨none, 0, rfl, by simp, by decide, fun _ => rfl, by simp, by simp⟩
section
variable {H : Type} {enc : TypeId × Value → H} {w : World} {base : Nat} {spare : Nat → Bool} {held : Bool}

theorem bytes_of_trod {fuel : Nat} {cs : List Value} {x : DataW H × List MemPlace} (h : DataW.trod enc Tryd.prog w base spare held fuel 22 cs = some x) :
    ∃ (A : Option Addr) (c : Nat) (l : List UInt8), cs = [.slice A l.length c] ∧ BytesAt w w.heap.size (.slice A l.length c) l ∧ (A = none → c = 0) ∧ l.length ≤ maxLen ∧ ((∀ n ∈ x.1.weights Tryd.prog 22, n ≤ reachBytes) → l.length ≤ reachBytes) := by
  rcases open_ints Tryd.underlying22 Tryd.underlying5 (by kernel_rfl) h with ⟨rfl, _⟩ | ⟨a, len, cap, zs, rfl, _, hl, hm, hz, hx, hcell, hwz⟩
  · exact ⟨none, 0, [], rfl, nil_bytes' w _, fun _ => rfl, by simp, by simp⟩
  · have hzl : len ≤ zs.length := by rw [hz]; split <;> omega
    obtain ⟨l, h1, h2⟩ : ∃ l : List UInt8, l.length = len ∧ BytesAt w w.heap.size (.slice (some a) l.length cap) l := by
      have hlen : ((zs.take len).map fun n => UInt8.ofNat n.toNat).length = len := by rw [List.length_map, List.length_take]; omega
      have hcell' : ∀ (j : Nat) (y : UInt8), ((zs.take len).map fun n => UInt8.ofNat n.toNat)[j]? = some y → w.cell? (a.add j) = some (.int .u8 (y.toNat : Int)) := by
        intro j y hj
        have hjl : j < len := by rw [← hlen]; exact (List.getElem?_eq_some_iff.1 hj).1
        have hjz : j < zs.length := by omega
        rw [List.getElem?_map, List.getElem?_take, if_pos hjl, List.getElem?_eq_getElem hjz] at hj
        have hy : UInt8.ofNat zs[j].toNat = y := by simpa using hj
        obtain ⟨m, hm1, hm2⟩ := u8_of (hwz zs[j] (List.getElem_mem hjz))
        rw [hcell j hjz, ← hy]
        have : zs.getD j 0 = zs[j] := by simp [List.getD, List.getElem?_eq_getElem hjz]
        rw [this, hm2]
        simp
        omega
      refine ⟨_, hlen, some a, cap, by rw [hlen], by omega, hm, by simp, fun ad had hne => ?_, fun ad had j y hj => ?_⟩
      · injection had with had; subst had
        have h0 : 0 < len := by rw [← hlen]; exact List.length_pos_iff.2 hne
        have := World.block_lt_of_cell? w (a.add 0) (hcell 0 (by omega))
        rwa [add_block] at this
      · injection had with had; subst had
        exact hcell' j y hj
    subst h1
    refine ⟨some a, cap, l, rfl, h2, by simp, by omega, fun hw => ?_⟩
    have hb : Tryd.prog.bytesOf 5 = 1 := by kernel_rfl
    rw [hx] at hw
    have := hw (((lits .u8 (zs.take l.length) : List (DataW H)).length + (lits .u8 (zs.drop l.length) : List (DataW H)).length) * 1) (by simp only [DataW.weights, Tryd.underlying22, hb]; exact List.mem_cons_self)
    have e1 : (lits .u8 (zs.take l.length) : List (DataW H)).length = (zs.take l.length).length := by simp [lits]
    rw [e1, List.length_take] at this
    omega
theorem ints_of_trod {fuel : Nat} {cs : List Value} {x : DataW H × List MemPlace} (h : DataW.trod enc Tryd.prog w base spare held fuel 26 cs = some x) :
    ∃ (A : Option Addr) (c : Nat) (l : List Int), cs = [.slice A l.length c] ∧ IntsAt w w.heap.size (.slice A l.length c) l ∧ (A = none → c = 0) ∧ l.length ≤ maxLen ∧ ∀ x ∈ l, i64In x := by
  rcases open_ints Tryd.underlying26 Tryd.underlying3 (by kernel_rfl) h with ⟨rfl, _⟩ | ⟨a, len, cap, zs, rfl, _, hl, hm, hz, _, hcell, hwz⟩
  · exact ⟨none, 0, [], rfl, ⟨none, 0, rfl, by simp, by decide, fun _ => rfl, by simp, by simp⟩, fun _ => rfl, by simp, by simp⟩
  · have hzl : len ≤ zs.length := by rw [hz]; split <;> omega
    have hlen : (zs.take len).length = len := by rw [List.length_take]; omega
    refine ⟨some a, cap, zs.take len, by rw [hlen], ⟨some a, cap, rfl, by omega, hm, by simp, fun ad had hne => ?_, fun ad had j y hj => ?_⟩, by simp, by omega, fun y hy => i64_wf (hwz y (List.mem_of_mem_take hy))⟩
    · injection had with had; subst had
      have h0 : 0 < len := by rw [← hlen]; exact List.length_pos_iff.2 hne
      have := World.block_lt_of_cell? w (a.add 0) (hcell 0 (by omega))
      rwa [add_block] at this
    · injection had with had; subst had
      have hjl : j < len := by rw [← hlen]; exact (List.getElem?_eq_some_iff.1 hj).1
      have hjz : j < zs.length := by omega
      rw [List.getElem?_take, if_pos hjl, List.getElem?_eq_getElem hjz] at hj
      injection hj with hj
      rw [hcell j hjz, ← hj]
      simp [List.getD, List.getElem?_eq_getElem hjz]
theorem Tryd.cellsSub : Tryd.prog.cellsOf 58 = 2 := by kernel_rfl
theorem Tryd.cellsTxt : Tryd.prog.cellsOf 9 = 1 := by kernel_rfl
theorem Tryd.cellsNum : Tryd.prog.cellsOf 3 = 1 := by kernel_rfl
theorem Tryd.cellsBool : Tryd.prog.cellsOf 4 = 1 := by kernel_rfl
theorem Tryd.cellsBs : Tryd.prog.cellsOf 22 = 1 := by kernel_rfl
theorem Tryd.cellsSubs : Tryd.prog.cellsOf 25 = 1 := by kernel_rfl
theorem Tryd.cellsInts : Tryd.prog.cellsOf 26 = 1 := by kernel_rfl
theorem Tryd.cellsWill : Tryd.prog.cellsOf 24 = 4 := by kernel_rfl
theorem Tryd.cellsPk : Tryd.prog.cellsOf 28 = 24 := by kernel_rfl

theorem sub_of_trod {fuel : Nat} {cs : List Value} {x : DataW H × List MemPlace} (h : DataW.trod enc Tryd.prog w base spare held fuel 58 cs = some x) :
    ∃ (f : ByteArray) (q : Int), cs = [.string f, .int .i64 q] ∧ f.size ≤ maxLen ∧ i64In q := by
  obtain ⟨xs, n, _, rfl, hl, hlen, hf⟩ := DataW.trod_struct Tryd.underlying58 h
  rw [Tryd.cellsSub] at hl
  obtain ⟨c0, c1, rfl⟩ : ∃ c0 c1, cs = [c0, c1] := by
    match cs, hl with
    | [a, b], _ => exact ⟨a, b, rfl⟩
  obtain ⟨y0, y1, rfl⟩ : ∃ y0 y1, xs = [y0, y1] := by
    match xs, hlen with
    | [a, b], _ => exact ⟨a, b, rfl⟩
  have h0 : DataW.trod enc Tryd.prog w base spare held n 9 (List.take (Tryd.prog.cellsOf 9) (List.drop 0 [c0, c1])) = some y0 := hf 0 _ rfl
  have h1 : DataW.trod enc Tryd.prog w base spare held n 3 (List.take (Tryd.prog.cellsOf 3) (List.drop 1 [c0, c1])) = some y1 := hf 1 _ rfl
  rw [Tryd.cellsTxt] at h0
  rw [Tryd.cellsNum] at h1
  change DataW.trod enc Tryd.prog w base spare held n 9 [c0] = some y0 at h0
  change DataW.trod enc Tryd.prog w base spare held n 3 [c1] = some y1 at h1
  obtain ⟨f, e0, _, hs⟩ := DataW.trod_string Tryd.underlying9 h0
  obtain ⟨q, e1, _, hq⟩ := DataW.trod_int Tryd.underlying3 h1
  injection e0 with e0; injection e1 with e1
  subst e0; subst e1
  exact ⟨f, q, rfl, hs, i64_wf hq⟩

theorem subs_list (a : Addr) (len : Nat) (hi : ∀ i, i < len → ∃ (f : ByteArray) (q : Int), w.cell? (a.add (i * 2)) = some (.string f) ∧ w.cell? (a.add (i * 2 + 1)) = some (.int .i64 q) ∧ f.size ≤ maxLen ∧ i64In q) :
    ∃ l : List (ByteArray × Int), l.length = len ∧ (∀ (j : Nat) (x : ByteArray × Int), l[j]? = some x → w.cell? (a.add (j * 2)) = some (.string x.1) ∧ w.cell? (a.add (j * 2 + 1)) = some (.int .i64 x.2)) ∧ ∀ x ∈ l, x.1.size ≤ maxLen ∧ i64In x.2 := by
  induction len with
  | zero => exact ⟨[], rfl, by simp, by simp⟩
  | succ n ih =>
    obtain ⟨l, h1, h2, h3⟩ := ih fun i hin => hi i (by omega)
    obtain ⟨f, q, c1, c2, b1, b2⟩ := hi n (by omega)
    refine ⟨l ++ [(f, q)], by simp [h1], fun j x hj => ?_, fun x hx => ?_⟩
    · by_cases hjl : j < l.length
      · rw [List.getElem?_append_left hjl] at hj; exact h2 j x hj
      · rw [List.getElem?_append_right (by omega)] at hj
        have hj0 : j - l.length = 0 := by have := (List.getElem?_eq_some_iff.1 hj).1; simp at this; omega
        rw [hj0] at hj
        simp at hj; subst hj
        have : j = n := by omega
        subst this
        exact ⟨c1, c2⟩
    · simp at hx
      rcases hx with hx | rfl
      · exact h3 x hx
      · exact ⟨b1, b2⟩
theorem subs_of_trod {fuel : Nat} {cs : List Value} {x : DataW H × List MemPlace} (h : DataW.trod enc Tryd.prog w base spare held fuel 25 cs = some x) :
    ∃ (A : Option Addr) (c : Nat) (l : List (ByteArray × Int)), cs = [.slice A l.length c] ∧ SubsAt w w.heap.size (.slice A l.length c) l ∧ (A = none → c = 0) ∧ l.length ≤ maxLen ∧ ∀ x ∈ l, x.1.size ≤ maxLen ∧ i64In x.2 := by
  rcases open_slice Tryd.underlying25 h with ⟨rfl, _⟩ | ⟨a, len, cap, m, n, D, Pl, rfl, hb, hl, hm, hmm, _, hi⟩
  · exact ⟨none, 0, [], rfl, ⟨none, 0, rfl, by simp, by decide, fun _ => rfl, by simp, by simp⟩, fun _ => rfl, by simp, by simp⟩
  · have hlm : len ≤ m := by rw [hmm]; split <;> omega
    obtain ⟨l, h1, h2, h3⟩ := subs_list (w := w) a len fun i hil => by
      obtain ⟨cs', hc, ht'⟩ := hi i (by omega)
      rw [Tryd.cellsSub] at hc
      obtain ⟨f, q, rfl, b1, b2⟩ := sub_of_trod ht'
      obtain ⟨_, hcl, hat⟩ := World.cells?_some hc
      have e0 := hat 0 (by omega)
      have e1 := hat 1 (by omega)
      rw [add_add] at e0 e1
      exact ⟨f, q, by simpa using e0, by simpa using e1, b1, b2⟩
    subst h1
    refine ⟨some a, cap, l, rfl, ⟨some a, cap, rfl, hl, hm, by simp, fun ad had hne => ?_, fun ad had j y hj => ?_⟩, by simp, by omega, h3⟩
    · injection had with had; subst had
      obtain ⟨y, hy⟩ : ∃ y, l[0]? = some y := ⟨l[0]'(List.length_pos_iff.2 hne), List.getElem?_eq_getElem _⟩
      have := World.block_lt_of_cell? w _ (h2 0 y hy).1
      rwa [add_block] at this
    · injection had with had; subst had
      exact h2 j y hj

theorem list24 {α : Type} (l : List α) (h : l.length = 24) : ∃ c0 c1 c2 c3 c4 c5 c6 c7 c8 c9 c10 c11 c12 c13 c14 c15 c16 c17 c18 c19 c20 c21 c22 c23, l = [c0, c1, c2, c3, c4, c5, c6, c7, c8, c9, c10, c11, c12, c13, c14, c15, c16, c17, c18, c19, c20, c21, c22, c23] := by
  match l, h with
  | [c0, c1, c2, c3, c4, c5, c6, c7, c8, c9, c10, c11, c12, c13, c14, c15, c16, c17, c18, c19, c20, c21, c22, c23], _ => exact ⟨c0, c1, c2, c3, c4, c5, c6, c7, c8, c9, c10, c11, c12, c13, c14, c15, c16, c17, c18, c19, c20, c21, c22, c23, rfl⟩
theorem list21 {α : Type} (l : List α) (h : l.length = 21) : ∃ y0 y1 y2 y3 y4 y5 y6 y7 y8 y9 y10 y11 y12 y13 y14 y15 y16 y17 y18 y19 y20, l = [y0, y1, y2, y3, y4, y5, y6, y7, y8, y9, y10, y11, y12, y13, y14, y15, y16, y17, y18, y19, y20] := by
  match l, h with
  | [y0, y1, y2, y3, y4, y5, y6, y7, y8, y9, y10, y11, y12, y13, y14, y15, y16, y17, y18, y19, y20], _ => exact ⟨y0, y1, y2, y3, y4, y5, y6, y7, y8, y9, y10, y11, y12, y13, y14, y15, y16, y17, y18, y19, y20, rfl⟩
theorem will_of_trod {fuel : Nat} {c0 c1 c2 c3 : Value} {x : DataW H × List MemPlace} (h : DataW.trod enc Tryd.prog w base spare held fuel 24 [c0, c1, c2, c3] = some x) :
    ∃ (t : ByteArray) (A : Option Addr) (c : Nat) (l : List UInt8) (q : Int) (r : Bool), c0 = .string t ∧ c1 = .slice A l.length c ∧ c2 = .int .i64 q ∧ c3 = .bool r ∧ t.size ≤ maxLen ∧ BytesAt w w.heap.size (.slice A l.length c) l ∧ (A = none → c = 0) ∧ l.length ≤ maxLen ∧ i64In q ∧ ((∀ n ∈ x.1.weights Tryd.prog 24, n ≤ reachBytes) → t.size ≤ reachBytes ∧ l.length ≤ reachBytes) := by
  obtain ⟨xs, n, _, rfl, hl, hlen, hf⟩ := DataW.trod_struct Tryd.underlying24 h
  obtain ⟨y0, y1, y2, y3, rfl⟩ : ∃ y0 y1 y2 y3, xs = [y0, y1, y2, y3] := by
    match xs, hlen with
    | [a, b, c, d], _ => exact ⟨a, b, c, d, rfl⟩
  have h0 : DataW.trod enc Tryd.prog w base spare held n 9 (List.take (Tryd.prog.cellsOf 9) (List.drop 0 [c0, c1, c2, c3])) = some y0 := hf 0 _ rfl
  have h1 : DataW.trod enc Tryd.prog w base spare held n 22 (List.take (Tryd.prog.cellsOf 22) (List.drop 1 [c0, c1, c2, c3])) = some y1 := hf 1 _ rfl
  have h2 : DataW.trod enc Tryd.prog w base spare held n 3 (List.take (Tryd.prog.cellsOf 3) (List.drop 2 [c0, c1, c2, c3])) = some y2 := hf 2 _ rfl
  have h3 : DataW.trod enc Tryd.prog w base spare held n 4 (List.take (Tryd.prog.cellsOf 4) (List.drop 3 [c0, c1, c2, c3])) = some y3 := hf 3 _ rfl
  rw [Tryd.cellsTxt] at h0
  rw [Tryd.cellsBs] at h1
  rw [Tryd.cellsNum] at h2
  rw [Tryd.cellsBool] at h3
  change DataW.trod enc Tryd.prog w base spare held n 9 [c0] = some y0 at h0
  change DataW.trod enc Tryd.prog w base spare held n 22 [c1] = some y1 at h1
  change DataW.trod enc Tryd.prog w base spare held n 3 [c2] = some y2 at h2
  change DataW.trod enc Tryd.prog w base spare held n 4 [c3] = some y3 at h3
  obtain ⟨t, e0, x0, b0⟩ := DataW.trod_string Tryd.underlying9 h0
  obtain ⟨A, c, l, e1, b1, b2, b3, w3⟩ := bytes_of_trod h1
  obtain ⟨q, e2, _, b4⟩ := DataW.trod_int Tryd.underlying3 h2
  obtain ⟨r, e3, _⟩ := DataW.trod_bool Tryd.underlying4 h3
  injection e0 with e0; injection e1 with e1; injection e2 with e2; injection e3 with e3
  refine ⟨t, A, c, l, q, r, e0, e1, e2, e3, b0, b1, b2, b3, i64_wf b4, fun hw => ?_⟩
  have hm : ∀ (j : Nat) (t : TypeId) (d : DataW H), [9, 22, 3, 4][j]? = some t → [y0.1, y1.1, y2.1, y3.1][j]? = some d → ∀ n ∈ d.weights Tryd.prog t, n ≤ reachBytes := fun j t d ht hd n hn => hw n (by simp only [DataW.weights, Tryd.underlying24]; exact DataW.weights_mem_each ht hd n hn)
  refine ⟨?_, w3 (hm 1 _ _ rfl rfl)⟩
  have := hm 0 _ _ rfl rfl t.size (by rw [x0]; simp [DataW.weights])
  exact this

set_option maxRecDepth 100000 in
set_option maxHeartbeats 1000000 in
/-- The packet, its slices, and what lies behind them. -/
theorem open_pk {r : Reach} {b0 : Nat} {v : Value} {d : DataW H} {ps : List MemPlace} (hv : Value.okWide Tryd.prog w r b0 28 v) (h : DataW.Trod enc Tryd.prog w base spare held 28 v d ps) :
    ∃ (p : Pk) (s : Sv), v = pkV p s ∧ PkAt w w.heap.size p s ∧ NilOk s ∧ PkIn p ∧ ((∀ n ∈ d.weights Tryd.prog 28, n ≤ reachBytes) → PkReach p) := by
  obtain ⟨cs, rfl, hsz⟩ := okWide_struct Tryd.underlying28 hv
  obtain ⟨fuel, h⟩ := h
  obtain ⟨xs, n, _, hd, hl, hlen, hf⟩ := DataW.trod_struct Tryd.underlying28 h
  rw [Tryd.cellsPk] at hl
  obtain ⟨c0, c1, c2, c3, c4, c5, c6, c7, c8, c9, c10, c11, c12, c13, c14, c15, c16, c17, c18, c19, c20, c21, c22, c23, hcs⟩ := list24 _ hl
  obtain ⟨y0, y1, y2, y3, y4, y5, y6, y7, y8, y9, y10, y11, y12, y13, y14, y15, y16, y17, y18, y19, y20, rfl⟩ := list21 xs hlen
  rw [hcs] at hf
  have h0 : DataW.trod enc Tryd.prog w base spare held n 3 (List.take (Tryd.prog.cellsOf 3) (List.drop 0 [c0, c1, c2, c3, c4, c5, c6, c7, c8, c9, c10, c11, c12, c13, c14, c15, c16, c17, c18, c19, c20, c21, c22, c23])) = some y0 := hf 0 _ rfl
  rw [Tryd.cellsNum] at h0
  have h1 : DataW.trod enc Tryd.prog w base spare held n 4 (List.take (Tryd.prog.cellsOf 4) (List.drop 1 [c0, c1, c2, c3, c4, c5, c6, c7, c8, c9, c10, c11, c12, c13, c14, c15, c16, c17, c18, c19, c20, c21, c22, c23])) = some y1 := hf 1 _ rfl
  rw [Tryd.cellsBool] at h1
  have h2 : DataW.trod enc Tryd.prog w base spare held n 4 (List.take (Tryd.prog.cellsOf 4) (List.drop 2 [c0, c1, c2, c3, c4, c5, c6, c7, c8, c9, c10, c11, c12, c13, c14, c15, c16, c17, c18, c19, c20, c21, c22, c23])) = some y2 := hf 2 _ rfl
  rw [Tryd.cellsBool] at h2
  have h3 : DataW.trod enc Tryd.prog w base spare held n 3 (List.take (Tryd.prog.cellsOf 3) (List.drop 3 [c0, c1, c2, c3, c4, c5, c6, c7, c8, c9, c10, c11, c12, c13, c14, c15, c16, c17, c18, c19, c20, c21, c22, c23])) = some y3 := hf 3 _ rfl
  rw [Tryd.cellsNum] at h3
  have h4 : DataW.trod enc Tryd.prog w base spare held n 3 (List.take (Tryd.prog.cellsOf 3) (List.drop 4 [c0, c1, c2, c3, c4, c5, c6, c7, c8, c9, c10, c11, c12, c13, c14, c15, c16, c17, c18, c19, c20, c21, c22, c23])) = some y4 := hf 4 _ rfl
  rw [Tryd.cellsNum] at h4
  have h5 : DataW.trod enc Tryd.prog w base spare held n 9 (List.take (Tryd.prog.cellsOf 9) (List.drop 5 [c0, c1, c2, c3, c4, c5, c6, c7, c8, c9, c10, c11, c12, c13, c14, c15, c16, c17, c18, c19, c20, c21, c22, c23])) = some y5 := hf 5 _ rfl
  rw [Tryd.cellsTxt] at h5
  have h6 : DataW.trod enc Tryd.prog w base spare held n 22 (List.take (Tryd.prog.cellsOf 22) (List.drop 6 [c0, c1, c2, c3, c4, c5, c6, c7, c8, c9, c10, c11, c12, c13, c14, c15, c16, c17, c18, c19, c20, c21, c22, c23])) = some y6 := hf 6 _ rfl
  rw [Tryd.cellsBs] at h6
  have h7 : DataW.trod enc Tryd.prog w base spare held n 3 (List.take (Tryd.prog.cellsOf 3) (List.drop 7 [c0, c1, c2, c3, c4, c5, c6, c7, c8, c9, c10, c11, c12, c13, c14, c15, c16, c17, c18, c19, c20, c21, c22, c23])) = some y7 := hf 7 _ rfl
  rw [Tryd.cellsNum] at h7
  have h8 : DataW.trod enc Tryd.prog w base spare held n 9 (List.take (Tryd.prog.cellsOf 9) (List.drop 8 [c0, c1, c2, c3, c4, c5, c6, c7, c8, c9, c10, c11, c12, c13, c14, c15, c16, c17, c18, c19, c20, c21, c22, c23])) = some y8 := hf 8 _ rfl
  rw [Tryd.cellsTxt] at h8
  have h9 : DataW.trod enc Tryd.prog w base spare held n 4 (List.take (Tryd.prog.cellsOf 4) (List.drop 9 [c0, c1, c2, c3, c4, c5, c6, c7, c8, c9, c10, c11, c12, c13, c14, c15, c16, c17, c18, c19, c20, c21, c22, c23])) = some y9 := hf 9 _ rfl
  rw [Tryd.cellsBool] at h9
  have h10 : DataW.trod enc Tryd.prog w base spare held n 3 (List.take (Tryd.prog.cellsOf 3) (List.drop 10 [c0, c1, c2, c3, c4, c5, c6, c7, c8, c9, c10, c11, c12, c13, c14, c15, c16, c17, c18, c19, c20, c21, c22, c23])) = some y10 := hf 10 _ rfl
  rw [Tryd.cellsNum] at h10
  have h11 : DataW.trod enc Tryd.prog w base spare held n 4 (List.take (Tryd.prog.cellsOf 4) (List.drop 11 [c0, c1, c2, c3, c4, c5, c6, c7, c8, c9, c10, c11, c12, c13, c14, c15, c16, c17, c18, c19, c20, c21, c22, c23])) = some y11 := hf 11 _ rfl
  rw [Tryd.cellsBool] at h11
  have h12 : DataW.trod enc Tryd.prog w base spare held n 24 (List.take (Tryd.prog.cellsOf 24) (List.drop 12 [c0, c1, c2, c3, c4, c5, c6, c7, c8, c9, c10, c11, c12, c13, c14, c15, c16, c17, c18, c19, c20, c21, c22, c23])) = some y12 := hf 12 _ rfl
  rw [Tryd.cellsWill] at h12
  have h13 : DataW.trod enc Tryd.prog w base spare held n 4 (List.take (Tryd.prog.cellsOf 4) (List.drop 16 [c0, c1, c2, c3, c4, c5, c6, c7, c8, c9, c10, c11, c12, c13, c14, c15, c16, c17, c18, c19, c20, c21, c22, c23])) = some y13 := hf 13 _ rfl
  rw [Tryd.cellsBool] at h13
  have h14 : DataW.trod enc Tryd.prog w base spare held n 4 (List.take (Tryd.prog.cellsOf 4) (List.drop 17 [c0, c1, c2, c3, c4, c5, c6, c7, c8, c9, c10, c11, c12, c13, c14, c15, c16, c17, c18, c19, c20, c21, c22, c23])) = some y14 := hf 14 _ rfl
  rw [Tryd.cellsBool] at h14
  have h15 : DataW.trod enc Tryd.prog w base spare held n 9 (List.take (Tryd.prog.cellsOf 9) (List.drop 18 [c0, c1, c2, c3, c4, c5, c6, c7, c8, c9, c10, c11, c12, c13, c14, c15, c16, c17, c18, c19, c20, c21, c22, c23])) = some y15 := hf 15 _ rfl
  rw [Tryd.cellsTxt] at h15
  have h16 : DataW.trod enc Tryd.prog w base spare held n 22 (List.take (Tryd.prog.cellsOf 22) (List.drop 19 [c0, c1, c2, c3, c4, c5, c6, c7, c8, c9, c10, c11, c12, c13, c14, c15, c16, c17, c18, c19, c20, c21, c22, c23])) = some y16 := hf 16 _ rfl
  rw [Tryd.cellsBs] at h16
  have h17 : DataW.trod enc Tryd.prog w base spare held n 4 (List.take (Tryd.prog.cellsOf 4) (List.drop 20 [c0, c1, c2, c3, c4, c5, c6, c7, c8, c9, c10, c11, c12, c13, c14, c15, c16, c17, c18, c19, c20, c21, c22, c23])) = some y17 := hf 17 _ rfl
  rw [Tryd.cellsBool] at h17
  have h18 : DataW.trod enc Tryd.prog w base spare held n 3 (List.take (Tryd.prog.cellsOf 3) (List.drop 21 [c0, c1, c2, c3, c4, c5, c6, c7, c8, c9, c10, c11, c12, c13, c14, c15, c16, c17, c18, c19, c20, c21, c22, c23])) = some y18 := hf 18 _ rfl
  rw [Tryd.cellsNum] at h18
  have h19 : DataW.trod enc Tryd.prog w base spare held n 25 (List.take (Tryd.prog.cellsOf 25) (List.drop 22 [c0, c1, c2, c3, c4, c5, c6, c7, c8, c9, c10, c11, c12, c13, c14, c15, c16, c17, c18, c19, c20, c21, c22, c23])) = some y19 := hf 19 _ rfl
  rw [Tryd.cellsSubs] at h19
  have h20 : DataW.trod enc Tryd.prog w base spare held n 26 (List.take (Tryd.prog.cellsOf 26) (List.drop 23 [c0, c1, c2, c3, c4, c5, c6, c7, c8, c9, c10, c11, c12, c13, c14, c15, c16, c17, c18, c19, c20, c21, c22, c23])) = some y20 := hf 20 _ rfl
  rw [Tryd.cellsInts] at h20
  clear hf
  change DataW.trod enc Tryd.prog w base spare held n 3 [c0] = some y0 at h0
  change DataW.trod enc Tryd.prog w base spare held n 4 [c1] = some y1 at h1
  change DataW.trod enc Tryd.prog w base spare held n 4 [c2] = some y2 at h2
  change DataW.trod enc Tryd.prog w base spare held n 3 [c3] = some y3 at h3
  change DataW.trod enc Tryd.prog w base spare held n 3 [c4] = some y4 at h4
  change DataW.trod enc Tryd.prog w base spare held n 9 [c5] = some y5 at h5
  change DataW.trod enc Tryd.prog w base spare held n 22 [c6] = some y6 at h6
  change DataW.trod enc Tryd.prog w base spare held n 3 [c7] = some y7 at h7
  change DataW.trod enc Tryd.prog w base spare held n 9 [c8] = some y8 at h8
  change DataW.trod enc Tryd.prog w base spare held n 4 [c9] = some y9 at h9
  change DataW.trod enc Tryd.prog w base spare held n 3 [c10] = some y10 at h10
  change DataW.trod enc Tryd.prog w base spare held n 4 [c11] = some y11 at h11
  change DataW.trod enc Tryd.prog w base spare held n 24 [c12, c13, c14, c15] = some y12 at h12
  change DataW.trod enc Tryd.prog w base spare held n 4 [c16] = some y13 at h13
  change DataW.trod enc Tryd.prog w base spare held n 4 [c17] = some y14 at h14
  change DataW.trod enc Tryd.prog w base spare held n 9 [c18] = some y15 at h15
  change DataW.trod enc Tryd.prog w base spare held n 22 [c19] = some y16 at h16
  change DataW.trod enc Tryd.prog w base spare held n 4 [c20] = some y17 at h17
  change DataW.trod enc Tryd.prog w base spare held n 3 [c21] = some y18 at h18
  change DataW.trod enc Tryd.prog w base spare held n 25 [c22] = some y19 at h19
  change DataW.trod enc Tryd.prog w base spare held n 26 [c23] = some y20 at h20
  obtain ⟨kind, e0, _, b0⟩ := DataW.trod_int Tryd.underlying3 h0
  injection e0 with e0
  obtain ⟨dup, e1, _⟩ := DataW.trod_bool Tryd.underlying4 h1
  injection e1 with e1
  obtain ⟨ret, e2, _⟩ := DataW.trod_bool Tryd.underlying4 h2
  injection e2 with e2
  obtain ⟨qos, e3, _, b3⟩ := DataW.trod_int Tryd.underlying3 h3
  injection e3 with e3
  obtain ⟨id, e4, _, b4⟩ := DataW.trod_int Tryd.underlying3 h4
  injection e4 with e4
  obtain ⟨top, e5, x5, b5⟩ := DataW.trod_string Tryd.underlying9 h5
  injection e5 with e5
  obtain ⟨A6, C6, pay, e6, b6, n6, m6, w6⟩ := bytes_of_trod h6
  injection e6 with e6
  obtain ⟨level, e7, _, b7⟩ := DataW.trod_int Tryd.underlying3 h7
  injection e7 with e7
  obtain ⟨cli, e8, x8, b8⟩ := DataW.trod_string Tryd.underlying9 h8
  injection e8 with e8
  obtain ⟨clean, e9, _⟩ := DataW.trod_bool Tryd.underlying4 h9
  injection e9 with e9
  obtain ⟨keep, e10, _, b10⟩ := DataW.trod_int Tryd.underlying3 h10
  injection e10 with e10
  obtain ⟨hw, e11, _⟩ := DataW.trod_bool Tryd.underlying4 h11
  injection e11 with e11
  obtain ⟨wtop, A12, C12, wpay, wqos, wret, e12a, e12b, e12c, e12d, t12, b12, n12, m12, q12, w12⟩ := will_of_trod h12
  obtain ⟨hu, e13, _⟩ := DataW.trod_bool Tryd.underlying4 h13
  injection e13 with e13
  obtain ⟨hp, e14, _⟩ := DataW.trod_bool Tryd.underlying4 h14
  injection e14 with e14
  obtain ⟨user, e15, x15, b15⟩ := DataW.trod_string Tryd.underlying9 h15
  injection e15 with e15
  obtain ⟨A16, C16, pass, e16, b16, n16, m16, w16⟩ := bytes_of_trod h16
  injection e16 with e16
  obtain ⟨pres, e17, _⟩ := DataW.trod_bool Tryd.underlying4 h17
  injection e17 with e17
  obtain ⟨code, e18, _, b18⟩ := DataW.trod_int Tryd.underlying3 h18
  injection e18 with e18
  obtain ⟨A19, C19, subs, e19, b19, n19, m19, q19⟩ := subs_of_trod h19
  injection e19 with e19
  obtain ⟨A20, C20, codes, e20, b20, n20, m20, q20⟩ := ints_of_trod h20
  injection e20 with e20
  refine ⟨⟨kind, dup, ret, qos, id, top, pay, level, cli, clean, keep, hw, wtop, wpay, wqos, wret, hu, hp, user, pass, pres, code, subs, codes⟩, ⟨A6, C6, A12, C12, A16, C16, A19, C19, A20, C20⟩, ?_, ⟨b6, b12, b16, b19, b20⟩, ⟨n6, n12, n16, n19, n20⟩, ⟨i64_wf b0, i64_wf b3, i64_wf b4, i64_wf b7, i64_wf b10, q12, i64_wf b18, b5, m6, b8, t12, m12, b15, m16, m19, m20, q19, q20⟩, fun hw => ?_⟩
  rotate_left
  · injection hd with hd _
    have hm : ∀ (j : Nat) (t : TypeId) (dd : DataW H), [3, 4, 4, 3, 3, 9, 22, 3, 9, 4, 3, 4, 24, 4, 4, 9, 22, 4, 3, 25, 26][j]? = some t → [y0.1, y1.1, y2.1, y3.1, y4.1, y5.1, y6.1, y7.1, y8.1, y9.1, y10.1, y11.1, y12.1, y13.1, y14.1, y15.1, y16.1, y17.1, y18.1, y19.1, y20.1][j]? = some dd → ∀ n ∈ dd.weights Tryd.prog t, n ≤ reachBytes := fun j t dd ht hdd n hn => hw n (by rw [hd]; simp only [DataW.weights, Tryd.underlying28]; exact DataW.weights_mem_each (j := j) ht hdd n hn)
    have r5 := hm 5 _ _ rfl rfl top.size (by rw [x5]; simp [DataW.weights])
    have r8 := hm 8 _ _ rfl rfl cli.size (by rw [x8]; simp [DataW.weights])
    have r15 := hm 15 _ _ rfl rfl user.size (by rw [x15]; simp [DataW.weights])
    exact ⟨r5, w6 (hm 6 _ _ rfl rfl), r8, (w12 (hm 12 _ _ rfl rfl)).1, (w12 (hm 12 _ _ rfl rfl)).2, r15, w16 (hm 16 _ _ rfl rfl)⟩
  have hcz : cs.toList = [c0, c1, c2, c3, c4, c5, c6, c7, c8, c9, c10, c11, c12, c13, c14, c15, c16, c17, c18, c19, c20, c21, c22, c23] := hcs
  have ec : cs = cs.toList.toArray := by simp
  rw [ec, hcz]
  subst e0; subst e1; subst e2; subst e3; subst e4; subst e5; subst e6; subst e7; subst e8; subst e9; subst e10; subst e11; subst e13; subst e14; subst e15; subst e16; subst e17; subst e18; subst e19; subst e20; subst e12a; subst e12b; subst e12c; subst e12d
  rfl

end
end Go.Proofs.YtpjlnienakiihaaDoor
