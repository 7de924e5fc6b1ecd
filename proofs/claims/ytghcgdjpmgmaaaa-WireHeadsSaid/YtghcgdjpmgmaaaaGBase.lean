/- A text as its pieces (one a rune, broken bytes one by one): plain facts on lists of bytes, over the model's own reading of a rune. -/
import Derived.Lib.MapLaws
import Derived.Test.YtghcgdjpmgmaaaaRows
import Derived.WalkKit
import Derived.WalkSpells
import Derived.WalkLawsBesides
import Derived.Deep.LoopGhost
import Derived.LoopN
import Derived.Lib.OthersKept
import Derived.Lib.UnsafeStr
import Derived.Lib.AppendStr
import Derived.BigQuiet
import Derived.Deep.QuietTactic
import Derived.Laws.CopyOwn
import Derived.Laws.IdiomStrings
import Derived.Lib.Hide
import Derived.Lib.BufferWrite
import Derived.Laws.Cover4
import Derived.OpenShut
import Derived.Lib.RuneCount
namespace Go.Proofs.Ytghcgdjpmgmaaaa
open Go.Lib

set_option maxRecDepth 100000 in
set_option maxHeartbeats 4000000 in
theorem decodeN_cut (n m b0 b1 b2 b3 c1 c2 c3 : Nat) (hm : m ≤ n) (hw : (decodeN n b0 b1 b2 b3).2 ≤ m)
    (e1 : 1 < m → c1 = b1) (e2 : 2 < m → c2 = b2) (e3 : 3 < m → c3 = b3) : decodeN m b0 c1 c2 c3 = decodeN n b0 b1 b2 b3 := by
  rcases decodeN_shape m b0 c1 c2 c3 with ⟨p, q⟩ | ⟨p1, p2, p3, p4, q⟩ | ⟨p1, p2, p3, p4, p5, p6, q⟩ | ⟨p1, p2, p3, p4, p5, p6, p7, q⟩ | q
  · rw [q]; unfold decodeN; rw [if_pos p]
  · obtain rfl := e1 p2
    rw [q]; unfold decodeN
    rw [if_neg (by omega), if_pos ⟨p1, by omega, p3⟩, if_pos p4]
  · obtain rfl := e1 (by omega)
    obtain rfl := e2 p2
    rw [q]; unfold decodeN
    rw [if_neg (by omega), if_neg (by omega), if_pos ⟨p1, ⟨by omega, p3⟩, by omega, p4⟩, if_pos (by omega)]
  · obtain rfl := e1 (by omega)
    obtain rfl := e2 (by omega)
    obtain rfl := e3 p2
    rw [q]; unfold decodeN
    rw [if_neg (by omega), if_neg (by omega), if_neg (by omega), if_pos ⟨p1, ⟨by omega, p3⟩, ⟨by omega, p4⟩, by omega, p5⟩, if_pos (by omega)]
  · rcases decodeN_shape n b0 b1 b2 b3 with ⟨p, r⟩ | ⟨p1, p2, p3, p4, r⟩ | ⟨p1, p2, p3, p4, p5, p6, r⟩ | ⟨p1, p2, p3, p4, p5, p6, p7, r⟩ | r
    · rw [r]; unfold decodeN; rw [if_pos p]
    · rw [r] at hw
      have hw : 2 ≤ m := hw
      obtain rfl := e1 (by omega)
      rw [r]; unfold decodeN
      rw [if_neg (by omega), if_pos ⟨p1, by omega, p3⟩, if_pos p4]
    · rw [r] at hw
      have hw : 3 ≤ m := hw
      obtain rfl := e1 (by omega)
      obtain rfl := e2 (by omega)
      rw [r]; unfold decodeN
      rw [if_neg (by omega), if_neg (by omega), if_pos ⟨p1, ⟨by omega, p3⟩, by omega, p4⟩, if_pos (by omega)]
    · rw [r] at hw
      have hw : 4 ≤ m := hw
      obtain rfl := e1 (by omega)
      obtain rfl := e2 (by omega)
      obtain rfl := e3 (by omega)
      rw [r]; unfold decodeN
      rw [if_neg (by omega), if_neg (by omega), if_neg (by omega), if_pos ⟨p1, ⟨by omega, p3⟩, ⟨by omega, p4⟩, by omega, p5⟩, if_pos (by omega)]
    · rw [q, r]

theorem decodeL_take (l : List UInt8) (m : Nat) (hw : (decodeL l).2 ≤ m) : decodeL (l.take m) = decodeL l := by
  by_cases hm : l.length ≤ m
  · rw [List.take_of_length_le hm]
  · have hd : ∀ k, k < m → (l.take m).getD k 0 = l.getD k 0 := fun k hk => by simp [List.getD, hk]
    have w1 := decodeL_width l
    have m1 : 1 ≤ m := Nat.le_trans w1 hw
    rw [decodeL_N, decodeL_N l]
    rw [decodeL_N] at hw
    have hl : (l.take m).length = m := by simp; omega
    rw [hl, hd 0 (by omega)]
    exact decodeN_cut _ _ _ _ _ _ _ _ _ (by omega) hw (fun h => by rw [hd 1 h]) (fun h => by rw [hd 2 h]) (fun h => by rw [hd 3 h])

/-- The pieces of a text. -/
def pcs : Nat → List UInt8 → List (List UInt8)
  | 0, _ => []
  | f + 1, l => if l = [] then [] else l.take (decodeL l).2 :: pcs f (l.drop (decodeL l).2)
def ps (l : List UInt8) : List (List UInt8) := pcs l.length l

theorem pcs_nil (f : Nat) : pcs f [] = [] := by cases f <;> simp [pcs]
theorem ps_nil : ps [] = [] := rfl

theorem pcs_fuel : ∀ (f g : Nat) (l : List UInt8), l.length ≤ f → l.length ≤ g → pcs f l = pcs g l
  | 0, g, l, hf, _ => by
    have : l = [] := List.eq_nil_of_length_eq_zero (by omega)
    subst this; rw [pcs_nil, pcs_nil]
  | f + 1, 0, l, _, hg => by
    have : l = [] := List.eq_nil_of_length_eq_zero (by omega)
    subst this; rw [pcs_nil, pcs_nil]
  | f + 1, g + 1, l, hf, hg => by
    unfold pcs
    by_cases hl : l = []
    · rw [if_pos hl, if_pos hl]
    · rw [if_neg hl, if_neg hl]
      have w1 := decodeL_width l
      have e : (l.drop (decodeL l).2).length = l.length - (decodeL l).2 := List.length_drop
      rw [pcs_fuel f g _ (by omega) (by omega)]

theorem ps_cons (l : List UInt8) (h : l ≠ []) : ps l = l.take (decodeL l).2 :: ps (l.drop (decodeL l).2) := by
  have hl : 0 < l.length := List.length_pos_iff.2 h
  have w1 := decodeL_width l
  have e : (l.drop (decodeL l).2).length = l.length - (decodeL l).2 := List.length_drop
  unfold ps
  obtain ⟨n, hn⟩ : ∃ n, l.length = n + 1 := ⟨l.length - 1, by omega⟩
  rw [hn]
  conv => lhs; unfold pcs
  rw [if_neg h, pcs_fuel n (l.drop (decodeL l).2).length _ (by omega) (Nat.le_refl _)]

/-- Induction over a text, a rune at a time. -/
theorem ps_ind {P : List UInt8 → Prop} (h0 : P []) (h1 : ∀ l, l ≠ [] → P (l.drop (decodeL l).2) → P l) : ∀ l, P l := by
  have key : ∀ (n : Nat) (l : List UInt8), l.length ≤ n → P l := by
    intro n
    induction n with
    | zero => intro l hl; have : l = [] := List.eq_nil_of_length_eq_zero (by omega); subst this; exact h0
    | succ n ih =>
      intro l hl
      by_cases hne : l = []
      · subst hne; exact h0
      · have w1 := decodeL_width l
        have hp : 0 < l.length := List.length_pos_iff.2 hne
        exact h1 l hne (ih _ (by rw [List.length_drop]; omega))
  exact fun l => key l.length l (Nat.le_refl _)

theorem ps_flatten : ∀ l, (ps l).flatten = l := by
  apply ps_ind
  · rfl
  · intro l hne ih
    rw [ps_cons l hne, List.flatten_cons, ih, List.take_append_drop]

theorem ps_length_le : ∀ l, (ps l).length ≤ l.length := by
  apply ps_ind
  · simp [ps_nil]
  · intro l hne ih
    have w1 := decodeL_width l
    have hp : 0 < l.length := List.length_pos_iff.2 hne
    rw [ps_cons l hne, List.length_cons]
    rw [List.length_drop] at ih
    omega

/-- What is cut off at a rune's place has just its runes. -/
theorem ps_cut (n : Nat) : ∀ l, ps ((ps l).take n).flatten = (ps l).take n := by
  induction n with
  | zero => intro l; simp [ps_nil]
  | succ n ih =>
    intro l
    by_cases hne : l = []
    · subst hne; simp [ps_nil]
    · have w1 := decodeL_width l
      have w2 := decodeL_le l hne
      have hp : 0 < l.length := List.length_pos_iff.2 hne
      rw [ps_cons l hne, List.take_succ_cons, List.flatten_cons]
      generalize hF : ((ps (l.drop (decodeL l).2)).take n).flatten = F
      have hpre : ∃ G, l.drop (decodeL l).2 = F ++ G := by
        refine ⟨((ps (l.drop (decodeL l).2)).drop n).flatten, ?_⟩
        rw [← hF, ← List.flatten_append, List.take_append_drop, ps_flatten]
      obtain ⟨G, hG⟩ := hpre
      have hl : l = l.take (decodeL l).2 ++ (F ++ G) := by rw [← hG, List.take_append_drop]
      have ht : (l.take (decodeL l).2).length = (decodeL l).2 := by rw [List.length_take]; omega
      have hlt : l.take ((decodeL l).2 + F.length) = l.take (decodeL l).2 ++ F := by
        generalize (decodeL l).2 = w at *
        generalize l.take w = c at *
        subst hl
        rw [← List.append_assoc, List.take_append_of_le_length (by rw [List.length_append, ht]; omega), List.take_of_length_le (by rw [List.length_append, ht]; omega)]
      have hd : decodeL (l.take (decodeL l).2 ++ F) = decodeL l := by
        rw [← hlt]; exact decodeL_take l _ (by omega)
      have hne2 : l.take (decodeL l).2 ++ F ≠ [] := by
        intro h
        have := congrArg List.length h
        rw [List.length_append, ht] at this
        simp at this
        omega
      rw [ps_cons _ hne2, hd]
      have h1 : (l.take (decodeL l).2 ++ F).take (decodeL l).2 = l.take (decodeL l).2 := by
        rw [List.take_append_of_le_length (by omega), List.take_of_length_le (by omega)]
      have h2 : (l.take (decodeL l).2 ++ F).drop (decodeL l).2 = F := by
        rw [List.drop_append_of_le_length (by omega), List.drop_of_length_le (by omega), List.nil_append]
      rw [h1, h2]
      congr 1
      rw [← hF]
      exact ih _

theorem ps_rest (n : Nat) : ∀ l, ps ((ps l).drop n).flatten = (ps l).drop n := by
  induction n with
  | zero => intro l; simp [ps_flatten]
  | succ n ih =>
    intro l
    by_cases hne : l = []
    · subst hne; simp [ps_nil]
    · rw [ps_cons l hne, List.drop_succ_cons]
      exact ih _

/-- How many runes; the text ahead of the n-th one; its place. -/
def cnt (l : List UInt8) : Nat := (ps l).length
def cutL (n : Nat) (l : List UInt8) : List UInt8 := ((ps l).take n).flatten
def placeL (n : Nat) (l : List UInt8) : Nat := (cutL n l).length

theorem cnt_nil : cnt [] = 0 := rfl
theorem cnt_cons (l : List UInt8) (h : l ≠ []) : cnt l = cnt (l.drop (decodeL l).2) + 1 := by unfold cnt; rw [ps_cons l h]; rfl
theorem cnt_le (l : List UInt8) : cnt l ≤ l.length := ps_length_le l
theorem cut_zero (l : List UInt8) : cutL 0 l = [] := by simp [cutL]
theorem cut_nil (n : Nat) : cutL n [] = [] := by simp [cutL, ps_nil]
theorem cut_cons (n : Nat) (l : List UInt8) (h : l ≠ []) : cutL (n + 1) l = l.take (decodeL l).2 ++ cutL n (l.drop (decodeL l).2) := by
  unfold cutL; rw [ps_cons l h, List.take_succ_cons, List.flatten_cons]
theorem place_zero (l : List UInt8) : placeL 0 l = 0 := by simp [placeL, cut_zero]
theorem place_cons (n : Nat) (l : List UInt8) (h : l ≠ []) : placeL (n + 1) l = (decodeL l).2 + placeL n (l.drop (decodeL l).2) := by
  have w2 := decodeL_le l h
  unfold placeL
  rw [cut_cons n l h, List.length_append, List.length_take, Nat.min_eq_left w2]
theorem cut_append (n : Nat) (l : List UInt8) : cutL n l ++ ((ps l).drop n).flatten = l := by
  unfold cutL; rw [← List.flatten_append, List.take_append_drop, ps_flatten]
theorem cut_take (n : Nat) (l : List UInt8) : cutL n l = l.take (placeL n l) := by
  have h := cut_append n l
  unfold placeL
  conv => rhs; arg 2; rw [← h]
  rw [List.take_append_of_le_length (Nat.le_refl _), List.take_of_length_le (Nat.le_refl _)]
theorem place_le (n : Nat) (l : List UInt8) : placeL n l ≤ l.length := by
  have h := congrArg List.length (cut_append n l)
  rw [List.length_append] at h
  unfold placeL
  omega
theorem drop_place (n : Nat) (l : List UInt8) : l.drop (placeL n l) = ((ps l).drop n).flatten := by
  have h := cut_append n l
  unfold placeL
  conv => lhs; arg 2; rw [← h]
  rw [List.drop_append_of_le_length (Nat.le_refl _), List.drop_of_length_le (Nat.le_refl _), List.nil_append]
theorem cut_all (n : Nat) (l : List UInt8) (h : cnt l ≤ n) : cutL n l = l := by
  unfold cutL cnt at *
  rw [List.take_of_length_le h, ps_flatten]
theorem place_all (n : Nat) (l : List UInt8) (h : cnt l ≤ n) : placeL n l = l.length := by unfold placeL; rw [cut_all n l h]
theorem cnt_cut (n : Nat) (l : List UInt8) : cnt (cutL n l) = min n (cnt l) := by
  unfold cnt cutL; rw [ps_cut, List.length_take]
theorem cnt_rest (n : Nat) (l : List UInt8) : cnt (l.drop (placeL n l)) = cnt l - n := by
  rw [drop_place]; unfold cnt; rw [ps_rest, List.length_drop]
theorem cut_cut (n m : Nat) (l : List UInt8) : cutL m (cutL n l) = cutL (min m n) l := by
  unfold cutL; rw [ps_cut, List.take_take]
end Go.Proofs.Ytghcgdjpmgmaaaa

/- A base that no program's function is named in: results, bytes behind a slice, arguments as they come in. -/
namespace Go.Proofs.Ytghcgdjpmgmaaaa
open Go.RowKit Go.Lib

theorem ret_int {k : IntKind} {a b : Int} (h : a = b) : Ending.returned (.int k a) = .returned (.int k b) := by rw [h]
theorem ret_str {a b : ByteArray} (h : a = b) : Ending.returned (.string a) = .returned (.string b) := by rw [h]
theorem ret_bool {a b : Bool} (h : a = b) : Ending.returned (.bool a) = .returned (.bool b) := by rw [h]
theorem ofList (s : ByteArray) : (⟨s.data.toList.toArray⟩ : ByteArray) = s := by cases s; simp
theorem size_list (s : ByteArray) : s.data.toList.length = s.size := by simp
theorem Try.info5 : (Try.prog.info? 5).map (fun i => (i.zero, i.size, i.bytes)) = some (some (.int .u8 0), 1, 1) := by kernel_rfl
theorem thn {a b c : World} (h : Below a.heap.size a b) (k : Below b.heap.size b c) : Below a.heap.size a c := h.trans (k.mono h.size)
theorem alB {a w : World} (h : Below a.heap.size a w) (o : Obj) : Below a.heap.size a (w.alloc o) := h.alloc h.size o

/-- A slice value that reads as these bytes, in blocks below B. -/
def BytesAt (w : World) (B : Nat) (v : Value) (l : List UInt8) : Prop :=
  ∃ (A : Option Addr) (c : Nat), v = .slice A l.length c ∧ l.length ≤ c ∧ c ≤ maxLen ∧ (A = none → l = []) ∧ (∀ ad, A = some ad → l ≠ [] → ad.block < B) ∧ ∀ ad, A = some ad → ∀ (j : Nat) (x : UInt8), l[j]? = some x → w.cell? (ad.add j) = some (.int .u8 (x.toNat : Int))

theorem BytesAt.below {w w' : World} {B : Nat} {v : Value} {l : List UInt8} (h : BytesAt w B v l) (hb : Below B w w') : BytesAt w' B v l := by
  obtain ⟨A, c, hv, hc, hm, hn, hB, hx⟩ := h
  refine ⟨A, c, hv, hc, hm, hn, hB, fun ad had j x hj => ?_⟩
  have hne : l ≠ [] := by intro e; rw [e] at hj; simp at hj
  rw [hb.cell (p := ad.add j) (by simpa [Addr.add] using (by split <;> exact hB ad had hne))]
  exact hx ad had j x hj

theorem BytesAt.more {w : World} {B B' : Nat} {v : Value} {l : List UInt8} (h : BytesAt w B v l) (hB : B ≤ B') : BytesAt w B' v l := by
  obtain ⟨A, c, hv, hc, hm, hn, hb, hx⟩ := h
  exact ⟨A, c, hv, hc, hm, hn, fun ad had hne => Nat.lt_of_lt_of_le (hb ad had hne) hB, hx⟩
theorem BytesAt.on {w w' : World} {v : Value} {l : List UInt8} (h : BytesAt w w.heap.size v l) (hb : Below w.heap.size w w') : BytesAt w' w'.heap.size v l := (h.below hb).more hb.size
theorem BytesAt.drew {w : World} {B : Nat} {v : Value} {l : List UInt8} (h : BytesAt w B v l) : BytesAt w.drew B v l := h

theorem BytesAt.conv {w : World} {B : Nat} {v : Value} {l : List UInt8} (h : BytesAt w B v l) : (convert 22 9 v).run Try.prog w = .ok (.string ⟨l.toArray⟩) w := by
  obtain ⟨A, c, rfl, _, _, hn, _, hx⟩ := h
  cases A with
  | none =>
    have := hn rfl
    subst this
    rw [run_convert_bytes_string w _ _ 5 none _ c Try.underlying22 Try.underlying5 Try.underlying9]
    rfl
  | some ad =>
    exact run_convert_bytes_back w _ _ 5 ad c l Try.underlying22 Try.underlying5 Try.underlying9 (fun j hj => hx ad rfl j _ (List.getElem?_eq_getElem hj))

theorem bytesAt_new (w : World) (l : List UInt8) (C : Array Value) (fr : Nat × Nat) (hC : C = (l.map fun b => Value.int .u8 (b.toNat : Int)).toArray) (hm : l.length ≤ maxLen) :
    BytesAt (w.alloc (.cells C 5 fr)) (w.heap.size + 1) (.slice (some ⟨w.heap.size, 0, none⟩) l.length l.length) l := by
  refine ⟨_, _, rfl, Nat.le_refl _, hm, by simp, fun ad had _ => ?_, fun ad had j x hj => ?_⟩
  · injection had with had; subst had; simp
  · injection had with had; subst had
    rw [show (Addr.add ⟨w.heap.size, 0, none⟩ j) = ⟨w.heap.size, j, none⟩ by simp [Addr.add]; exact fun h => h.symm]
    rw [World.cell?_alloc_mark, hC]
    simp [hj]

theorem ownsBytes {w : World} {base : Nat} {v : Value} {l : List UInt8} (h : w.ownsRow base 5 1 v l.length (byteCells l)) : BytesAt w w.heap.size v l := by
  rcases h.2 with ⟨rfl, h0⟩ | ⟨g, cap, cur, rfl, _, hg, hc, hm, _, _⟩
  · have : l = [] := List.eq_nil_of_length_eq_zero h0
    subst this
    exact ⟨none, 0, rfl, by simp, by decide, fun _ => rfl, by simp, by simp⟩
  · refine ⟨_, cap, rfl, hc, hm, by simp, fun ad had _ => ?_, fun ad had j x hj => ?_⟩
    · injection had with had; subst had
      exact (h.lt g rfl).2
    · injection had with had; subst had
      exact h.cells rfl j _ (by rw [byteCells, List.getElem?_map, hj]; rfl)

theorem u8_of {n : Int} (h : (Lit.int .u8 n).wf = true) : ∃ a : Nat, a < 256 ∧ n = (a : Int) := by
  have e1 : IntKind.u8.min = 0 := rfl
  have e2 : IntKind.u8.max = 255 := rfl
  simp only [Lit.wf, Bool.and_eq_true, decide_eq_true_eq, e1, e2] at h
  exact ⟨n.toNat, by omega, by omega⟩

theorem int_le {n : Int} (h : (Lit.int .i64 n).wf = true) : n ≤ 9223372036854775807 := by
  have e1 : IntKind.i64.min = -9223372036854775808 := rfl
  have e2 : IntKind.i64.max = 9223372036854775807 := rfl
  simp only [Lit.wf, Bool.and_eq_true, decide_eq_true_eq, e1, e2] at h
  exact h.2

theorem bytes_of_row {w : World} {a : Option Addr} {len cap : Nat} {zs : List Int}
    (h : (a = none ∧ len = 0 ∧ cap = 0 ∧ zs = []) ∨ ∃ x, a = some x ∧ len ≤ cap ∧ cap ≤ maxLen ∧ zs.length = cap ∧ (∀ i, i < zs.length → w.cell? (x.add i) = some (.int .u8 (zs.getD i 0))) ∧ ∀ n ∈ zs, (Lit.int .u8 n).wf = true) :
    ∃ l : List UInt8, l.length = len ∧ BytesAt w w.heap.size (.slice a l.length cap) l := by
  rcases h with ⟨rfl, rfl, rfl, rfl⟩ | ⟨x, rfl, hl, hm, hz, hc, hw⟩
  · exact ⟨[], rfl, none, 0, rfl, by simp, by decide, fun _ => rfl, by simp, by simp⟩
  · have hlen : ((zs.take len).map fun n => UInt8.ofNat n.toNat).length = len := by rw [List.length_map, List.length_take]; omega
    have hcell : ∀ (j : Nat) (y : UInt8), ((zs.take len).map fun n => UInt8.ofNat n.toNat)[j]? = some y → w.cell? (x.add j) = some (.int .u8 (y.toNat : Int)) := by
      intro j y hj
      have hjl : j < len := by rw [← hlen]; exact (List.getElem?_eq_some_iff.1 hj).1
      have hjz : j < zs.length := by omega
      rw [List.getElem?_map, List.getElem?_take, if_pos hjl, List.getElem?_eq_getElem hjz] at hj
      have hy : UInt8.ofNat zs[j].toNat = y := by simpa using hj
      obtain ⟨m, hm1, hm2⟩ := u8_of (hw zs[j] (List.getElem_mem hjz))
      rw [hc j hjz, ← hy]
      have : zs.getD j 0 = zs[j] := by simp [List.getD, List.getElem?_eq_getElem hjz]
      rw [this, hm2]
      simp
      omega
    refine ⟨_, hlen, some x, cap, by rw [hlen], by omega, hm, by simp, fun ad had hne => ?_, fun ad had j y hj => ?_⟩
    · injection had with had; subst had
      have h0 : 0 < len := by rw [← hlen]; exact List.length_pos_iff.2 hne
      have := World.block_lt_of_cell? w (x.add 0) (hc 0 (by omega))
      simpa [Addr.add] using this
    · injection had with had; subst had
      exact hcell j y hj

end Go.Proofs.Ytghcgdjpmgmaaaa

/- What utf.Check comes to (over the base of packets). -/
namespace Go.Proofs.Ytghcgdjpmgmaaaa
open Go.RowKit Go.Lib

/-- A string's bytes from a place on. -/
def from_ (s : ByteArray) (p : Nat) : List UInt8 := s.data.toList.drop p
theorem from_zero (s : ByteArray) : from_ s 0 = s.data.toList := rfl
theorem from_nil (s : ByteArray) (p : Nat) (h : ¬ p < s.size) : from_ s p = [] := List.drop_of_length_le (by simpa using h)
theorem from_ne (s : ByteArray) (p : Nat) (h : p < s.size) : from_ s p ≠ [] := by
  intro e
  have := congrArg List.length e
  simp [from_] at this
  omega
theorem from_step (s : ByteArray) (p : Nat) : (from_ s p).drop (decodeL (from_ s p)).2 = from_ s (p + (Utf8.decode s p).2) := by
  unfold from_; rw [decodeL_drop, List.drop_drop]
theorem from_width (s : ByteArray) (p : Nat) : (decodeL (from_ s p)).2 = (Utf8.decode s p).2 := by unfold from_; rw [decodeL_drop]
theorem from_rune (s : ByteArray) (p : Nat) : (decodeL (from_ s p)).1 = (Utf8.decode s p).1 := by unfold from_; rw [decodeL_drop]
theorem from_length (s : ByteArray) (p : Nat) : (from_ s p).length = s.size - p := by simp [from_]
theorem iterPos_of {w : World} {k : Nat} {s : ByteArray} {p : Nat} (h : w.heap[k]? = some (.stringIter s p)) : w.iterPos k = p := by simp [World.iterPos, h]

/-- Is a piece what a text may not have? -/
def badP (c : List UInt8) : Bool := (decodeL c).1 == 0 || ((decodeL c).1 == 65533 && !(c == [239, 191, 189]))
/-- Where the first such piece stands. -/
def chkP : List (List UInt8) → Nat → Int
  | [], _ => -1
  | c :: r, o => if badP c then (o : Int) else chkP r (o + c.length)
def chkL (l : List UInt8) : Int := chkP (ps l) 0

set_option maxRecDepth 100000 in
set_option maxHeartbeats 400000 in
theorem begins_any (s : ByteArray) (w : World) (hs : s.size ≤ 140737488355328) :
    Calls Try.prog 106 #[.string s] w fun e w' => e = .returned (.bool (s.data.toList.take 3 == [239, 191, 189])) ∧ w = w' := by
  by_cases h3 : 3 ≤ s.size
  · go_enter Try.func106, Try.ntmps106
    go_wp2
    go_ret
    refine ⟨ret_bool ?_, rfl⟩
    show ((s.extract 0 3).toList == [239, 191, 189]) = _
    rw [ByteArray.toList_eq, ByteArray.data_extract, Array.toList_extract]
    simp
  · go_enter Try.func106, Try.ntmps106
    go_wp2
    go_ret
    refine ⟨ret_bool ?_, rfl⟩
    show false = _
    symm
    rw [beq_eq_false_iff_ne]
    intro e
    have := congrArg List.length e
    simp at this
    omega

theorem ext_from (s : ByteArray) (p : Nat) : (s.extract p s.size).data.toList = from_ s p := by
  rw [ByteArray.data_extract, Array.toList_extract]
  show List.take (s.size - p) (List.drop p s.data.toList) = _
  rw [List.take_of_length_le (by simp)]
  rfl

theorem dec_repl (t : List UInt8) : decodeL (239 :: 191 :: 189 :: t) = (65533, 3) := by
  rw [decodeL_N]
  show decodeN (t.length + 1 + 1 + 1) 239 191 189 _ = _
  unfold decodeN
  rw [if_neg (by omega), if_neg (by omega), if_pos ⟨by omega, ⟨by omega, by omega⟩, by omega, by omega⟩, if_pos (by omega)]

/-- Of a piece that reads as U+FFFD: it is that rune's own three bytes just if the text goes on so. -/
theorem begins_piece (l : List UInt8) : (l.take (decodeL l).2 == [239, 191, 189]) = (l.take 3 == [239, 191, 189]) := by
  rw [Bool.eq_iff_iff, beq_iff_eq, beq_iff_eq]
  constructor
  · intro h
    have hl := congrArg List.length h
    simp at hl
    have h2 : l = [239, 191, 189] ++ l.drop (decodeL l).2 := by rw [← h, List.take_append_drop]
    rw [h2]
    simp
  · intro h
    have h2 : l = 239 :: 191 :: 189 :: l.drop 3 := by
      have := (List.take_append_drop 3 l).symm
      rw [h] at this
      exact this
    have e : (decodeL l).2 = 3 := by rw [h2, dec_repl]
    rw [e, h]

theorem badP_eq (l : List UInt8) : badP (l.take (decodeL l).2) = ((decodeL l).1 == 0 || ((decodeL l).1 == 65533 && !(l.take 3 == [239, 191, 189]))) := by
  unfold badP
  rw [decodeL_take l _ (Nat.le_refl _), begins_piece]

theorem chk_step (s : ByteArray) (p : Nat) (h : p < s.size) : chkP (ps (from_ s p)) p =
    if ((Utf8.decode s p).1 == 0 || ((Utf8.decode s p).1 == 65533 && !((from_ s p).take 3 == [239, 191, 189]))) then (p : Int) else chkP (ps (from_ s (p + (Utf8.decode s p).2))) (p + (Utf8.decode s p).2) := by
  have hne := from_ne s p h
  have hle := decodeL_le _ hne
  rw [ps_cons _ hne, from_step]
  show (if badP _ = true then _ else chkP _ (p + _)) = _
  rw [badP_eq, from_rune, List.length_take, Nat.min_eq_left hle, from_width]

set_option maxRecDepth 100000 in
set_option maxHeartbeats 1000000 in
/-- utf.Check: where a text goes wrong. -/
theorem check_any (v : Value) (l : List UInt8) (w : World) (hv : BytesAt w w.heap.size v l) (hs : l.length ≤ 140737488355328) :
    Calls Try.prog 105 #[v] w fun e w' => e = .returned (.int .i64 (chkL l)) ∧ Below w.heap.size w w' := by
  have hcv := hv.conv
  clear hv
  generalize hs' : (⟨l.toArray⟩ : ByteArray) = s at *
  have hl : l = s.data.toList := by rw [← hs']
  have hsz : s.size ≤ 140737488355328 := by rw [← size_list, ← hl]; exact hs
  subst hl
  clear hs' hs
  go_enter Try.func105, Try.ntmps105
  go_wp2
  go_loopw [4, 5] (fun _ _ w' => ∃ (pos : Nat), w' = w.iter s pos ∧ pos ≤ s.size ∧ Hid (chkP (ps (from_ s pos)) pos = chkL s.data.toList)) (fun _ _ w' => s.size - w'.iterPos w.heap.size)
  case atStart => exact ⟨0, rfl, Nat.zero_le _, rfl⟩
  case round =>
    obtain ⟨pos, rfl, hps, hc⟩ := hrel
    by_cases hp : pos < s.size
    · have hnx : ∀ ty, (Instr.next (.pointer (some ⟨w.heap.size, 0, none⟩)) true ty).run Try.prog (w.iter s pos) = _ := fun ty => run_next_any w s pos ty hp
      have hwd := Lib.decode_width_pos s pos hp
      have hst := Lib.hid (chk_step s pos hp)
      have hwl : pos + (Utf8.decode s pos).2 ≤ s.size := by
        have := decodeL_le _ (from_ne s pos hp)
        rw [from_width, from_length] at this
        omega
      generalize (Utf8.decode s pos).2 = wd at *
      generalize (Utf8.decode s pos).1 = r at *
      have hb := fun W => begins_any (s.extract pos s.size) W (by rw [ByteArray.size_extract]; omega)
      have hst := hst
      rw [ext_from] at hb
      generalize ((from_ s pos).take 3 == [239, 191, 189]) = bg at *
      by_cases h0 : r = 0
      · subst h0
        have hfin : Hid (chkL s.data.toList = (pos : Int)) := by
          have hc := hc.out
          rw [hst.out] at hc
          exact hc.symm
        go_wp2_with fail
        go_ret
        exact ⟨ret_int (by rw [hfin.out]), (Below.refl _ _).alloc (Nat.le_refl _) _⟩
      · have h0b : ((r : Int) == 0) = false := beq_eq_false_iff_ne.2 (by omega)
        by_cases h1 : r = 65533
        · subst h1
          cases bg with
          | true =>
            have hfin : Hid (chkP (ps (from_ s (pos + wd))) (pos + wd) = chkL s.data.toList) := by
              have hc := hc.out
              rw [hst.out] at hc
              exact hc
            go_wp2_with (go_at_call 106; refine (hb _).mono ?_; rintro e w' ⟨rfl, rfl⟩)
            go_roundw
            case rel => exact ⟨pos + wd, rfl, hwl, hfin⟩
            case measure => simp; omega
          | false =>
            have hfin : Hid (chkL s.data.toList = (pos : Int)) := by
              have hc := hc.out
              rw [hst.out] at hc
              exact hc.symm
            go_wp2_with (go_at_call 106; refine (hb _).mono ?_; rintro e w' ⟨rfl, rfl⟩)
            go_ret
            exact ⟨ret_int (by rw [hfin.out]), (Below.refl _ _).alloc (Nat.le_refl _) _⟩
        · have h1b : ((r : Int) == 65533) = false := beq_eq_false_iff_ne.2 (by omega)
          have hfin : Hid (chkP (ps (from_ s (pos + wd))) (pos + wd) = chkL s.data.toList) := by
            have hc := hc.out
            rw [hst.out, if_neg (by simp [h0, h1])] at hc
            exact hc
          go_wp2_with fail
          go_roundw
          case rel => exact ⟨pos + wd, rfl, hwl, hfin⟩
          case measure => simp; omega
    · have hnx : ∀ ty, (Instr.next (.pointer (some ⟨w.heap.size, 0, none⟩)) true ty).run Try.prog (w.iter s pos) = _ := fun ty => run_next_end w s pos ty hp
      go_wp2
      go_ret
      have hc := hc.out
      rw [from_nil s pos hp] at hc
      exact ⟨ret_int (by rw [← hc]; rfl), (Below.refl _ _).alloc (Nat.le_refl _) _⟩

/-- A text's runes, as the model lays them. -/
def rnsL (l : List UInt8) : List Int := (ps l).map fun c => ((decodeL c).1 : Int)

theorem rnsL_cons (l : List UInt8) (h : l ≠ []) : rnsL l = ((decodeL l).1 : Int) :: rnsL (l.drop (decodeL l).2) := by
  unfold rnsL
  rw [ps_cons l h, List.map_cons, decodeL_take l _ (Nat.le_refl _)]

theorem runesFrom_eq (s : ByteArray) : ∀ (f p : Nat) (acc : Array Value), s.size ≤ p + f → Conv.runesFrom s f p acc = acc ++ ((rnsL (from_ s p)).map (Value.int .i32)).toArray
  | 0, p, acc, h => by
    rw [from_nil s p (by omega)]
    simp [Conv.runesFrom, rnsL, ps_nil]
  | f + 1, p, acc, h => by
    unfold Conv.runesFrom
    by_cases hp : p < s.size
    · rw [if_pos hp]
      have hwd := Lib.decode_width_pos s p hp
      show Conv.runesFrom s f (p + (Utf8.decode s p).2) (acc.push (.int .i32 (Int.ofNat (Utf8.decode s p).1))) = _
      rw [runesFrom_eq s f _ _ (by omega), rnsL_cons _ (from_ne s p hp), from_step, from_rune]
      simp
    · rw [if_neg hp, from_nil s p hp]
      simp [rnsL, ps_nil]

end Go.Proofs.Ytghcgdjpmgmaaaa

/- Runes as bytes and back: plain facts. -/
namespace Go.Proofs.Ytghcgdjpmgmaaaa
open Go.RowKit Go.Lib

/-- A rune's bytes, as a list. -/
def encL (r : Int) : List UInt8 := (Utf8.encode r).data.toList

theorem byte_eq {n : Nat} {b : UInt8} (h : n = b.toNat) : UInt8.ofNat n = b := by rw [h]; simp

set_option maxRecDepth 100000 in
theorem enc1 (r : Nat) (h : r < 128) : encL r = [UInt8.ofNat r] := by
  have hv : Utf8.valid (r : Int) = true := by rw [validRune_eq]; unfold validRune; exact decide_eq_true (by omega)
  unfold encL Utf8.encode
  simp only [hv, if_true, Int.toNat_natCast]
  rw [if_pos h]
set_option maxRecDepth 100000 in
theorem enc2 (r : Nat) (h : 128 ≤ r) (h2 : r < 2048) : encL r = [UInt8.ofNat (192 + r / 64), UInt8.ofNat (128 + r % 64)] := by
  have hv : Utf8.valid (r : Int) = true := by rw [validRune_eq]; unfold validRune; exact decide_eq_true (by omega)
  unfold encL Utf8.encode
  simp only [hv, if_true, Int.toNat_natCast]
  rw [if_neg (by omega), if_pos h2]
set_option maxRecDepth 100000 in
theorem enc3 (r : Nat) (h : 2048 ≤ r) (h2 : r < 65536) (hs : r < 55296 ∨ 57343 < r) : encL r = [UInt8.ofNat (224 + r / 4096), UInt8.ofNat (128 + r / 64 % 64), UInt8.ofNat (128 + r % 64)] := by
  have hv : Utf8.valid (r : Int) = true := by rw [validRune_eq]; unfold validRune; exact decide_eq_true (by omega)
  unfold encL Utf8.encode
  simp only [hv, if_true, Int.toNat_natCast]
  rw [if_neg (by omega), if_neg (by omega), if_pos h2]
set_option maxRecDepth 100000 in
theorem enc4 (r : Nat) (h : 65536 ≤ r) (h2 : r ≤ 1114111) : encL r = [UInt8.ofNat (240 + r / 262144), UInt8.ofNat (128 + r / 4096 % 64), UInt8.ofNat (128 + r / 64 % 64), UInt8.ofNat (128 + r % 64)] := by
  have hv : Utf8.valid (r : Int) = true := by rw [validRune_eq]; unfold validRune; exact decide_eq_true (by omega)
  unfold encL Utf8.encode
  simp only [hv, if_true, Int.toNat_natCast]
  rw [if_neg (by omega), if_neg (by omega), if_neg (by omega)]
set_option maxRecDepth 100000 in
theorem encBad (r : Int) (h : r < 0 ∨ (55296 ≤ r ∧ r ≤ 57343) ∨ 1114111 < r) : encL r = [239, 191, 189] := by
  have hv : Utf8.valid r = false := by rw [validRune_eq]; unfold validRune; exact decide_eq_false (by omega)
  unfold encL Utf8.encode
  rw [hv]
  simp only [Bool.false_eq_true, if_false]
  decide

theorem one_of (l : List UInt8) (h : 1 ≤ l.length) : ∃ b0 t, l = b0 :: t := by
  cases l with
  | nil => simp at h
  | cons b t => exact ⟨b, t, rfl⟩
theorem two_of (l : List UInt8) (h : 2 ≤ l.length) : ∃ b0 b1 t, l = b0 :: b1 :: t := by
  obtain ⟨b, t, rfl⟩ := one_of l (by omega)
  obtain ⟨c, t, rfl⟩ := one_of t (by simp at h; omega)
  exact ⟨b, c, t, rfl⟩
theorem three_of (l : List UInt8) (h : 3 ≤ l.length) : ∃ b0 b1 b2 t, l = b0 :: b1 :: b2 :: t := by
  obtain ⟨b, t, rfl⟩ := one_of l (by omega)
  obtain ⟨c, d, t, rfl⟩ := two_of t (by simp at h; omega)
  exact ⟨b, c, d, t, rfl⟩
theorem four_of (l : List UInt8) (h : 4 ≤ l.length) : ∃ b0 b1 b2 b3 t, l = b0 :: b1 :: b2 :: b3 :: t := by
  obtain ⟨b, t, rfl⟩ := one_of l (by omega)
  obtain ⟨c, d, e, t, rfl⟩ := three_of t (by simp at h; omega)
  exact ⟨b, c, d, e, t, rfl⟩

theorem byte0 (b0 : UInt8) (p : b0.toNat < 128) : encL ((b0.toNat : Nat) : Int) = [b0] := by rw [enc1 _ p, byte_eq rfl]
set_option maxRecDepth 100000 in
theorem byte2 (b0 b1 : UInt8) (p1 : b0.toNat / 32 = 6) (p3 : b1.toNat / 64 = 2) (p4 : 128 ≤ b0.toNat % 32 * 64 + b1.toNat % 64) : encL ((b0.toNat % 32 * 64 + b1.toNat % 64 : Nat) : Int) = [b0, b1] := by
  have k0 := b0.toNat_lt
  have k1 := b1.toNat_lt
  rw [enc2 _ p4 (by omega), byte_eq (b := b0) (by omega), byte_eq (b := b1) (by omega)]
set_option maxRecDepth 100000 in
theorem byte3 (b0 b1 b2 : UInt8) (p1 : b0.toNat / 16 = 14) (p3 : b1.toNat / 64 = 2) (p4 : b2.toNat / 64 = 2) (p5 : 2048 ≤ b0.toNat % 16 * 4096 + b1.toNat % 64 * 64 + b2.toNat % 64)
    (p6 : b0.toNat % 16 * 4096 + b1.toNat % 64 * 64 + b2.toNat % 64 < 55296 ∨ 57344 ≤ b0.toNat % 16 * 4096 + b1.toNat % 64 * 64 + b2.toNat % 64) :
    encL ((b0.toNat % 16 * 4096 + b1.toNat % 64 * 64 + b2.toNat % 64 : Nat) : Int) = [b0, b1, b2] := by
  have k0 := b0.toNat_lt
  have k1 := b1.toNat_lt
  have k2 := b2.toNat_lt
  rw [enc3 _ p5 (by omega) (by omega), byte_eq (b := b0) (by omega), byte_eq (b := b1) (by omega), byte_eq (b := b2) (by omega)]
set_option maxRecDepth 100000 in
theorem byte4 (b0 b1 b2 b3 : UInt8) (p1 : b0.toNat / 8 = 30) (p3 : b1.toNat / 64 = 2) (p4 : b2.toNat / 64 = 2) (p5 : b3.toNat / 64 = 2) (p6 : 65536 ≤ b0.toNat % 8 * 262144 + b1.toNat % 64 * 4096 + b2.toNat % 64 * 64 + b3.toNat % 64)
    (p7 : b0.toNat % 8 * 262144 + b1.toNat % 64 * 4096 + b2.toNat % 64 * 64 + b3.toNat % 64 ≤ 1114111) :
    encL ((b0.toNat % 8 * 262144 + b1.toNat % 64 * 4096 + b2.toNat % 64 * 64 + b3.toNat % 64 : Nat) : Int) = [b0, b1, b2, b3] := by
  have k0 := b0.toNat_lt
  have k1 := b1.toNat_lt
  have k2 := b2.toNat_lt
  have k3 := b3.toNat_lt
  rw [enc4 _ p6 p7, byte_eq (b := b0) (by omega), byte_eq (b := b1) (by omega), byte_eq (b := b2) (by omega), byte_eq (b := b3) (by omega)]

/-- What was read comes back, if it was no broken byte. -/
theorem enc_dec (l : List UInt8) (hne : l ≠ []) (hok : (decodeL l).1 = 65533 → l.take (decodeL l).2 = [239, 191, 189]) : encL ((decodeL l).1 : Nat) = l.take (decodeL l).2 := by
  have hL := decodeL_le l hne
  have hN := decodeL_N l
  rcases decodeN_shape l.length (l.getD 0 0).toNat (l.getD 1 0).toNat (l.getD 2 0).toNat (l.getD 3 0).toNat with ⟨p, q⟩ | ⟨p1, p2, p3, p4, q⟩ | ⟨p1, p2, p3, p4, p5, p6, q⟩ | ⟨p1, p2, p3, p4, p5, p6, p7, q⟩ | q
  · rw [q] at hN
    rw [hN] at hL ⊢
    obtain ⟨b0, t, rfl⟩ := one_of l hL
    exact byte0 b0 p
  · rw [q] at hN
    rw [hN] at hL ⊢
    obtain ⟨b0, b1, t, rfl⟩ := two_of l hL
    exact byte2 b0 b1 p1 p3 p4
  · rw [q] at hN
    rw [hN] at hL ⊢
    obtain ⟨b0, b1, b2, t, rfl⟩ := three_of l hL
    exact byte3 b0 b1 b2 p1 p3 p4 p5 p6
  · rw [q] at hN
    rw [hN] at hL ⊢
    obtain ⟨b0, b1, b2, b3, t, rfl⟩ := four_of l hL
    exact byte4 b0 b1 b2 b3 p1 p3 p4 p5 p6 p7
  · rw [q] at hN
    rw [hN] at hok
    have h := congrArg List.length (hok rfl)
    rw [List.length_take] at h
    simp at h
    omega

/-- Of a text's pieces each is one rune's, whole. -/
theorem piece_whole : ∀ l, ∀ c ∈ ps l, c ≠ [] ∧ (decodeL c).2 = c.length := by
  apply ps_ind
  · simp [ps_nil]
  · intro l hne ih c hc
    rw [ps_cons l hne] at hc
    rcases List.mem_cons.1 hc with rfl | hc
    · have w1 := decodeL_width l
      have w2 := decodeL_le l hne
      rw [decodeL_take l _ (Nat.le_refl _), List.length_take, Nat.min_eq_left w2]
      refine ⟨fun e => ?_, rfl⟩
      have := congrArg List.length e
      rw [List.length_take, Nat.min_eq_left w2] at this
      simp at this
      omega
    · exact ih c hc

theorem chkP_neg : ∀ (cs : List (List UInt8)) (o : Nat), chkP cs o < 0 → ∀ c ∈ cs, badP c = false
  | [], _, _, c, hc => by cases hc
  | d :: cs, o, h, c, hc => by
    unfold chkP at h
    cases hb : badP d with
    | true => rw [hb, if_pos rfl] at h; omega
    | false =>
      rw [hb, if_neg (by simp)] at h
      rcases List.mem_cons.1 hc with rfl | hc
      · exact hb
      · exact chkP_neg cs _ h c hc

theorem runesBytes_list (ns : List Int) : (runesBytes ns).data.toList = ns.flatMap encL := by
  have key : ∀ (ns : List Int) (s : ByteArray), (ns.foldl (fun r n => r ++ Utf8.encode n) s).data.toList = s.data.toList ++ ns.flatMap encL := by
    intro ns
    induction ns with
    | nil => intro s; simp
    | cons n ns ih =>
      intro s
      rw [List.foldl_cons, ih, ByteArray.data_append, Array.toList_append, List.flatMap_cons, List.append_assoc]
      rfl
  unfold runesBytes
  rw [key]
  rfl

theorem back_runes (s : ByteArray) (h : chkL s.data.toList < 0) : runesBytes (rnsL s.data.toList) = s := by
  apply ByteArray.ext
  apply Array.toList_inj.1
  rw [runesBytes_list]
  have hb := chkP_neg _ _ h
  have hw := piece_whole s.data.toList
  have key : ∀ cs : List (List UInt8), (∀ c ∈ cs, badP c = false) → (∀ c ∈ cs, c ≠ [] ∧ (decodeL c).2 = c.length) → (cs.map fun c => ((decodeL c).1 : Int)).flatMap encL = cs.flatten := by
    intro cs
    induction cs with
    | nil => intro _ _; rfl
    | cons c cs ih =>
      intro h1 h2
      have g1 := h1 c (List.mem_cons_self ..)
      have g2 := h2 c (List.mem_cons_self ..)
      rw [List.map_cons, List.flatMap_cons, List.flatten_cons, ih (fun d hd => h1 d (List.mem_cons_of_mem _ hd)) (fun d hd => h2 d (List.mem_cons_of_mem _ hd))]
      have e := enc_dec c g2.1 (fun hr => by
        rw [g2.2, List.take_length]
        unfold badP at g1
        rw [hr] at g1
        simpa using g1)
      rw [g2.2, List.take_length] at e
      rw [e]
  unfold rnsL
  rw [key _ hb hw, ps_flatten]
end Go.Proofs.Ytghcgdjpmgmaaaa

/- Texts made of runes, and what stands behind them: plain facts. -/
namespace Go.Proofs.Ytghcgdjpmgmaaaa
open Go.RowKit Go.Lib

theorem ofNat_toNat {n : Nat} (h : n < 256) : (UInt8.ofNat n).toNat = n := by simp; omega

set_option maxRecDepth 100000 in
theorem decN1 (n b0 b1 b2 b3 : Nat) (h : b0 < 128) : decodeN n b0 b1 b2 b3 = (b0, 1) := by unfold decodeN; rw [if_pos h]
set_option maxRecDepth 100000 in
theorem decN2 (n r b2 b3 : Nat) (hn : 1 < n) (h : 128 ≤ r) (h2 : r < 2048) : decodeN n (192 + r / 64) (128 + r % 64) b2 b3 = (r, 2) := by
  unfold decodeN
  rw [if_neg (by omega), if_pos ⟨by omega, hn, by omega⟩, if_pos (by omega)]
  exact Prod.ext (by show _ = r; omega) rfl
set_option maxRecDepth 100000 in
theorem decN3 (n r b3 : Nat) (hn : 2 < n) (h : 2048 ≤ r) (h2 : r < 65536) (hs : r < 55296 ∨ 57343 < r) : decodeN n (224 + r / 4096) (128 + r / 64 % 64) (128 + r % 64) b3 = (r, 3) := by
  have e : (224 + r / 4096) % 16 * 4096 + (128 + r / 64 % 64) % 64 * 64 + (128 + r % 64) % 64 = r := by omega
  unfold decodeN
  rw [e, if_neg (by omega), if_neg (by omega), if_pos ⟨by omega, ⟨by omega, by omega⟩, hn, by omega⟩, if_pos ⟨by omega, by omega⟩]
set_option maxRecDepth 100000 in
theorem decN4 (n r : Nat) (hn : 3 < n) (h : 65536 ≤ r) (h2 : r ≤ 1114111) : decodeN n (240 + r / 262144) (128 + r / 4096 % 64) (128 + r / 64 % 64) (128 + r % 64) = (r, 4) := by
  have e : (240 + r / 262144) % 8 * 262144 + (128 + r / 4096 % 64) % 64 * 4096 + (128 + r / 64 % 64) % 64 * 64 + (128 + r % 64) % 64 = r := by omega
  unfold decodeN
  rw [e, if_neg (by omega), if_neg (by omega), if_neg (by omega), if_pos ⟨by omega, ⟨by omega, by omega⟩, ⟨by omega, by omega⟩, hn, by omega⟩, if_pos ⟨by omega, by omega⟩]

/-- The rune that a number stands for. -/
def asRune (r : Int) : Nat := if Utf8.valid r then r.toNat else 65533
theorem encL_len (r : Int) : 1 ≤ (encL r).length ∧ (encL r).length ≤ 4 := by
  unfold encL Utf8.encode
  simp only
  repeat' split
  all_goals simp

theorem enc_cases (r : Int) : (∃ n : Nat, r = n ∧ n < 128 ∧ Utf8.valid r = true) ∨ (∃ n : Nat, r = n ∧ 128 ≤ n ∧ n < 2048 ∧ Utf8.valid r = true) ∨ (∃ n : Nat, r = n ∧ 2048 ≤ n ∧ n < 65536 ∧ (n < 55296 ∨ 57343 < n) ∧ Utf8.valid r = true) ∨
    (∃ n : Nat, r = n ∧ 65536 ≤ n ∧ n ≤ 1114111 ∧ Utf8.valid r = true) ∨ ((r < 0 ∨ (55296 ≤ r ∧ r ≤ 57343) ∨ 1114111 < r) ∧ Utf8.valid r = false) := by
  have hv : ((0 ≤ r ∧ r < 55296) ∨ (57343 < r ∧ r ≤ 1114111)) → Utf8.valid r = true := fun h => by rw [validRune_eq]; unfold validRune; exact decide_eq_true h
  have hb : ¬ ((0 ≤ r ∧ r < 55296) ∨ (57343 < r ∧ r ≤ 1114111)) → Utf8.valid r = false := fun h => by rw [validRune_eq]; unfold validRune; exact decide_eq_false h
  by_cases h0 : r < 0 ∨ (55296 ≤ r ∧ r ≤ 57343) ∨ 1114111 < r
  · exact .inr (.inr (.inr (.inr ⟨h0, hb (by omega)⟩)))
  · have hv := hv (by omega)
    have e : r = (r.toNat : Int) := by omega
    by_cases h1 : r < 128
    · exact .inl ⟨r.toNat, e, by omega, hv⟩
    · by_cases h2 : r < 2048
      · exact .inr (.inl ⟨r.toNat, e, by omega, by omega, hv⟩)
      · by_cases h3 : r < 65536
        · exact .inr (.inr (.inl ⟨r.toNat, e, by omega, by omega, by omega, hv⟩))
        · exact .inr (.inr (.inr (.inl ⟨r.toNat, e, by omega, by omega, hv⟩)))

theorem asRune_of {r : Int} {n : Nat} (h : r = n) (hv : Utf8.valid r = true) : asRune r = n := by unfold asRune; rw [hv, if_pos rfl, h]; rfl

/-- A rune's bytes are read as that rune, whatever stands behind them. -/
theorem dec_enc (r : Int) (t : List UInt8) : decodeL (encL r ++ t) = (asRune r, (encL r).length) := by
  rcases enc_cases r with ⟨n, e, h1, hv⟩ | ⟨n, e, h1, h2, hv⟩ | ⟨n, e, h1, h2, hs, hv⟩ | ⟨n, e, h1, h2, hv⟩ | ⟨h, hv⟩
  · rw [asRune_of e hv, e, enc1 n h1, decodeL_N]
    show decodeN _ (UInt8.ofNat n).toNat _ _ _ = (n, 1)
    rw [ofNat_toNat (by omega), decN1 _ _ _ _ _ h1]
  · rw [asRune_of e hv, e, enc2 n h1 h2, decodeL_N]
    show decodeN (t.length + 1 + 1) (UInt8.ofNat (192 + n / 64)).toNat (UInt8.ofNat (128 + n % 64)).toNat _ _ = (n, 2)
    rw [ofNat_toNat (by omega), ofNat_toNat (by omega), decN2 _ _ _ _ (by omega) h1 h2]
  · rw [asRune_of e hv, e, enc3 n h1 h2 hs, decodeL_N]
    show decodeN (t.length + 1 + 1 + 1) (UInt8.ofNat (224 + n / 4096)).toNat (UInt8.ofNat (128 + n / 64 % 64)).toNat (UInt8.ofNat (128 + n % 64)).toNat _ = (n, 3)
    rw [ofNat_toNat (by omega), ofNat_toNat (by omega), ofNat_toNat (by omega), decN3 _ _ _ (by omega) h1 h2 hs]
  · rw [asRune_of e hv, e, enc4 n h1 h2, decodeL_N]
    show decodeN (t.length + 1 + 1 + 1 + 1) (UInt8.ofNat (240 + n / 262144)).toNat (UInt8.ofNat (128 + n / 4096 % 64)).toNat (UInt8.ofNat (128 + n / 64 % 64)).toNat (UInt8.ofNat (128 + n % 64)).toNat = (n, 4)
    rw [ofNat_toNat (by omega), ofNat_toNat (by omega), ofNat_toNat (by omega), ofNat_toNat (by omega), decN4 _ _ (by omega) h1 h2]
  · have e : asRune r = 65533 := by unfold asRune; rw [hv]; rfl
    rw [e, encBad r h]
    exact dec_repl t

theorem ps_enc (r : Int) (t : List UInt8) : ps (encL r ++ t) = encL r :: ps t := by
  have hl := encL_len r
  have hne : encL r ++ t ≠ [] := by
    intro e
    have := congrArg List.length e
    rw [List.length_append, List.length_nil] at this
    omega
  rw [ps_cons _ hne, dec_enc]
  show (encL r ++ t).take (encL r).length :: ps ((encL r ++ t).drop (encL r).length) = _
  rw [List.take_append_of_le_length (Nat.le_refl _), List.take_of_length_le (Nat.le_refl _), List.drop_append_of_le_length (Nat.le_refl _), List.drop_of_length_le (Nat.le_refl _), List.nil_append]

theorem ps_encs (l : List Int) (t : List UInt8) : ps (l.flatMap encL ++ t) = l.map encL ++ ps t := by
  induction l with
  | nil => rfl
  | cons r l ih => rw [List.flatMap_cons, List.append_assoc, ps_enc, ih]; rfl

theorem dec_enc0 (r : Int) : (decodeL (encL r)).1 = asRune r := by
  have h := dec_enc r []
  rw [List.append_nil] at h
  rw [h]

/-- A text of runes and a text behind it. -/
theorem joins_cnt (l : List Int) (t : List UInt8) : cnt (l.flatMap encL ++ t) = l.length + cnt t := by
  unfold cnt; rw [ps_encs, List.length_append, List.length_map]
theorem joins_cut (l : List Int) (t : List UInt8) : cutL l.length (l.flatMap encL ++ t) = l.flatMap encL := by
  unfold cutL
  rw [ps_encs, List.take_append_of_le_length (by simp), List.take_of_length_le (by simp), List.flatMap_def]
theorem joins_rns (l : List Int) (t : List UInt8) : rnsL (l.flatMap encL ++ t) = rnsL (l.flatMap encL) ++ rnsL t := by
  have h := ps_encs l []
  rw [List.append_nil, ps_nil, List.append_nil] at h
  unfold rnsL
  rw [ps_encs, h, List.map_append]
theorem flat_len (l : List Int) : (l.flatMap encL).length ≤ 4 * l.length := by
  induction l with
  | nil => simp
  | cons r l ih =>
    have := (encL_len r).2
    rw [List.flatMap_cons, List.length_append, List.length_cons]
    omega
end Go.Proofs.Ytghcgdjpmgmaaaa
