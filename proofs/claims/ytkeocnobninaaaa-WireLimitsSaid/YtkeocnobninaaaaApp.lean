/- Bytes appended to a row of the call's own: what grows, and whose the row is then. -/
import Derived.Test.YtkeocnobninaaaaPkt
import Derived.Maps.AppendAt
import Derived.Laws.AppendOwnNone
import Derived.Lib.AppendStr
namespace Go.Proofs.Ytkeocnobninaaaa
open Go.RowKit Go.Lib

/-- From v in w on to v' in w': nothing but v's own row, and new blocks; v' has v's row or a new one. -/
structure App (w w' : World) (v v' : Value) : Prop where
  grew : w.grownBy w' v.ownBlock
  own : v'.ownBlock = v.ownBlock ∨ ∃ g, v'.ownBlock = some g ∧ w.heap.size ≤ g
theorem App.refl (w : World) (v : Value) : App w w v v := ⟨World.grownBy.refl _ _, .inl rfl⟩
theorem App.trans {w w1 w2 : World} {v v1 v2 : Value} (h : App w w1 v v1) (k : App w1 w2 v1 v2) : App w w2 v v2 := by
  refine ⟨⟨k.grew.os.trans h.grew.os, k.grew.tape.trans h.grew.tape, k.grew.output.trans h.grew.output, Nat.le_trans h.grew.size k.grew.size, fun j hj hne => ?_⟩, ?_⟩
  · rw [k.grew.block j (Nat.lt_of_lt_of_le hj h.grew.size) ?_, h.grew.block j hj hne]
    rcases h.own with e | ⟨g, e, hg⟩
    · rw [e]; exact hne
    · rw [e]; intro q; injection q with q; omega
  · rcases k.own with e | ⟨g, e, hg⟩
    · rw [e]; exact h.own
    · exact .inr ⟨g, e, Nat.le_trans h.grew.size hg⟩
/-- A step that only makes memory, ahead. -/
theorem App.pre {w w1 w2 : World} {v v2 : Value} (h : Below w.heap.size w w1) (k : App w1 w2 v v2) : App w w2 v v2 := by
  refine ⟨⟨k.grew.os.trans h.os, k.grew.tape.trans h.tape, k.grew.output.trans h.output, Nat.le_trans h.size k.grew.size, fun j hj hne => ?_⟩, ?_⟩
  · rw [k.grew.block j (Nat.lt_of_lt_of_le hj h.size) hne, h.block j hj]
  · rcases k.own with e | ⟨g, e, hg⟩
    · exact .inl e
    · exact .inr ⟨g, e, Nat.le_trans h.size hg⟩
theorem App.below {w w' : World} {v v' : Value} (h : App w w' v v') (B : Nat) (hB : B ≤ w.heap.size) (ho : ∀ k, v.ownBlock = some k → B ≤ k) : Below B w w' :=
  (Below.refl B w).grown h.grew hB ho

/-- Whose the row is behind the append of a string. -/
theorem own_string {w w' : World} {v' : Value} {g n cap : Nat} {cur : Array Value} (ty : TypeId) (hg : w.heap[g]? = some (.cells cur 5 (0, 0))) (hn : n ≤ cap) (hcur : cur.size = cap)
    (s : ByteArray) (hs : n + s.size ≤ 100000000) (hr : (Builtin.append_ #[22, 9] ty #[.slice (some ⟨g, 0, none⟩) n cap, .string s]).run Try.prog w = .ok v' w') :
    v'.ownBlock = some g ∨ v'.ownBlock = some w.heap.size := by
  obtain ⟨i0, hi, hz0, hz1, hz2⟩ := info_parts Try.info5
  by_cases hroom : n + s.size ≤ cap
  · rw [run_append_room_string (P := Try.prog) w 22 9 ty 5 i0 Try.underlying22 Try.underlying9 hi hz1 g n cap cur hg s hroom (by omega)] at hr
    injection hr with e1 e2
    exact .inl (by rw [← e1]; rfl)
  · have holds : ∀ j u, (cur.toList.take n)[j]? = some u → w.cell? ((⟨g, 0, none⟩ : Addr).add j) = some u := fun j u hj => by
      have hadd : (⟨g, 0, none⟩ : Addr).add j = ⟨g, j, none⟩ := by unfold Addr.add; split <;> simp_all
      rw [hadd, cell_of_row w g j cur _ _ hg]
      have hjl : j < n := by have := (List.getElem?_eq_some_iff.1 hj).1; simp at this; omega
      rw [List.getElem?_take_of_lt hjl] at hj
      simpa using hj
    rw [run_append_grow_string (P := Try.prog) w 22 9 ty 5 i0 _ Try.underlying22 Try.underlying9 hi hz0 ⟨g, 0, none⟩ n cap (cur.toList.take n) (by rw [hz1]; simp; omega) holds s (by omega) (by omega) (by rw [hz2]; exact growslice_fits (by omega) (by omega))] at hr
    injection hr with e1 e2
    exact .inr (by rw [← e1]; rfl)

/-- 'append(b, s...)', for the walk. -/
theorem ap_str {ops : Array Oper} {rest : List Oper} {a : Act} {w : World} {Q : Exit → Act → World → Prop} {d : Tmp} {x y : Operand} {ty : TypeId} {ps : String} {af : Array Edge}
    (base : Nat) (A : Option Addr) (c n : Nat) (l : List UInt8) (s : ByteArray) (hx : a.eval x = .slice A n c) (hy : a.eval y = .string s) (hown : w.ownsRow base 5 1 (.slice A n c) n (Lib.byteCells l)) (h0 : 0 < n)
    (hs : n + s.size ≤ 100000000) (hb : base ≤ w.heap.size)
    (h : ∀ (A' : Option Addr) (c' : Nat) (w' : World), w'.ownsRow base 5 1 (.slice A' (n + s.size) c') (n + s.size) (Lib.byteCells (l ++ s.data.toList)) → App w w' (.slice A n c) (.slice A' (n + s.size) c') → wpList Try.prog ops Q rest (a.put (some d) (.slice A' (n + s.size) c')) w') :
    wpList Try.prog ops Q ({ dst := some d, op := .call { callee := .builtin .append, args := #[x, y], argTypes := #[22, 9] }, type := ty, pos := ps, after := af, guard := none } :: rest) a w := by
  obtain ⟨i0, hi, hz0, hz1, hz2⟩ := info_parts Try.info5
  refine wpList_plain rfl fun K hK => ?_
  obtain ⟨v', w', hr, h2, h3, h4⟩ := run_append_own_string (P := Try.prog) w base 22 9 ty 5 i0 Try.underlying22 Try.underlying9 hi hz0 hz1 hz2 _ n _ hown s (by unfold maxLen; omega) (by omega) hb
  unfold Oper.wp execOp
  simp only [resolve, invoke, builtin, Sem.run_bind, Sem.run_pure, Result.andThen_ok, List.map_toArray, List.map_cons, List.map_nil, hx, hy, hr]
  rcases hown.2 with ⟨_, q⟩ | ⟨g, cap, cur, hv, hbg, hg, hnc, hcm, hcs, _⟩
  · omega
  injection hv with e1 e2 e3
  subst e1; subst e3
  have ho := own_string ty hg hnc (by simpa using hcs) s hs hr
  rcases h2.2 with ⟨_, q⟩ | ⟨g', cap', cur', hv', _⟩
  · omega
  subst hv'
  refine hK _ _ (h _ _ _ ?_ ⟨h3, ?_⟩)
  · have e : Lib.byteCells (l ++ s.data.toList) = Lib.byteCells l ++ strCells s := by rw [Lib.byteCells_append]; rfl
    rw [e]; exact h2
  · rcases ho with e | e
    · exact .inl e
    · exact .inr ⟨_, e, Nat.le_refl _⟩

/-- 'append(b, x...)', for the walk: of whatever bytes. -/
theorem ap_bytes {ops : Array Oper} {rest : List Oper} {a : Act} {w : World} {Q : Exit → Act → World → Prop} {d : Tmp} {x y : Operand} {ty : TypeId} {ps : String} {af : Array Edge}
    (base : Nat) (A : Option Addr) (c n : Nat) (l : List UInt8) (B : Nat) (A2 : Option Addr) (c2 m : Nat) (l2 : List UInt8) (hx : a.eval x = .slice A n c) (hy : a.eval y = .slice A2 m c2) (hown : w.ownsRow base 5 1 (.slice A n c) n (Lib.byteCells l))
    (hv : BytesAt w B (.slice A2 m c2) l2) (hz : A2 = none → c2 = 0) (hs : n + m ≤ 100000000) (hb : base ≤ w.heap.size)
    (h : ∀ (A' : Option Addr) (c' : Nat) (w' : World), w'.ownsRow base 5 1 (.slice A' (n + m) c') (n + m) (Lib.byteCells (l ++ l2)) → App w w' (.slice A n c) (.slice A' (n + m) c') → wpList Try.prog ops Q rest (a.put (some d) (.slice A' (n + m) c')) w') :
    wpList Try.prog ops Q ({ dst := some d, op := .call { callee := .builtin .append, args := #[x, y], argTypes := #[22, 22] }, type := ty, pos := ps, after := af, guard := none } :: rest) a w := by
  obtain ⟨i0, hi, hz0, hz1, hz2⟩ := info_parts Try.info5
  obtain ⟨A3, c3, hv3, _, _, hn3, _, hx3⟩ := hv
  injection hv3 with e1 e2 e3
  subst e1; subst e2; subst e3
  cases A2 with
  | none =>
    have e := hn3 rfl
    subst e
    have e := hz rfl
    subst e
    refine wpList_append_own_none rfl x y 22 rfl base 5 i0 1 Try.underlying22 hi _ n _ hx hown hy ?_
    have hw := h A c w
    simp only [List.length_nil, Nat.add_zero, List.append_nil] at hw
    exact hw hown (App.refl _ _)
  | some ad =>
    refine wpList_append_own_at w rfl x y 22 rfl base 5 i0 _ 1 1 Try.underlying22 hi hz0 hz1 hz2 rfl (by decide) _ n _ hx hown ad l2.length c2 (Lib.byteCells l2) hy (by rw [Lib.byteCells_length]; omega) (fun j u hj => ?_) (fun u hu => ?_) (by unfold maxLen; omega) (by omega) hb (fun v' w' h2 h3 _ ho => ?_)
    · rw [Lib.byteCells, List.getElem?_map] at hj
      obtain ⟨q, hq, rfl⟩ := Option.map_eq_some_iff.1 hj
      exact hx3 ad rfl j q hq
    · rw [Lib.byteCells, List.mem_map] at hu
      obtain ⟨q, _, rfl⟩ := hu
      rfl
    · have e : Lib.byteCells (l ++ l2) = Lib.byteCells l ++ Lib.byteCells l2 := Lib.byteCells_append _ _
      have own' : v'.ownBlock = (Value.slice A n c).ownBlock ∨ ∃ g, v'.ownBlock = some g ∧ w.heap.size ≤ g := by
        rcases ho with q | q
        · exact .inl q
        · exact .inr ⟨_, q, Nat.le_refl _⟩
      rcases h2.2 with ⟨rfl, q⟩ | ⟨g', cap', cur', hv', _⟩
      · have hw := h none 0 w'
        rw [q] at hw h2
        exact hw (by rw [e]; exact h2) ⟨h3, own'⟩
      · subst hv'
        exact h _ _ _ (by rw [e]; exact h2) ⟨h3, own'⟩

/-- Two bytes of a number. -/
def pairL (n : Int) : List UInt8 := [UInt8.ofNat (n / 256).toNat, UInt8.ofNat (n % 256).toNat]
theorem pairL_len (n : Int) : (pairL n).length = 2 := rfl
theorem u8c {x : Int} (h0 : 0 ≤ x) (h1 : x ≤ 255) : Value.int .u8 ((UInt8.ofNat x.toNat).toNat : Int) = .int .u8 x := by
  rw [show (UInt8.ofNat x.toNat).toNat = x.toNat by rw [UInt8.toNat_ofNat']; omega]; congr 1; omega

/-- What an append hands back. -/
def AppPost (base : Nat) (v : Value) (w : World) (l : List UInt8) (e : Ending) (w' : World) : Prop :=
  ∃ (A : Option Addr) (c : Nat), e = .returned (.slice A l.length c) ∧ w'.ownsRow base 5 1 (.slice A l.length c) l.length (Lib.byteCells l) ∧ App w w' v (.slice A l.length c)

set_option maxRecDepth 100000 in
set_option maxHeartbeats 1000000 in
theorem addPair_any (base : Nat) (A : Option Addr) (c n : Nat) (l : List UInt8) (x : Int) (w : World) (hown : w.ownsRow base 5 1 (.slice A n c) n (Lib.byteCells l)) (hn : n = l.length) (hl : l.length ≤ 10000000) (hb : base ≤ w.heap.size) (h0 : 0 ≤ x) (h1 : x ≤ 65535) :
    Calls Try.prog 65 #[.slice A n c, .int .i64 x] w (AppPost base (.slice A n c) w (l ++ pairL x)) := by
  subst hn
  have e : (l ++ pairL x).length = l.length + 2 := by simp [pairL]
  have E := Lib.hid e
  clear e
  go_enter Try.func65, Try.ntmps65
  go_wp2_with (at_builtin; go_must (refine ap_bytes base A c l.length l (w.heap.size + 1) (some ⟨w.heap.size, 0, none⟩) 2 2 (pairL x) (by rfl) (by rfl) (hown.alloc _) (bytesAt_new w (pairL x) _ (0, 0) (by simp only [pairL, List.map_cons, List.map_nil]; rw [u8c (by omega) (by omega), u8c (by omega) (by omega)]) (by rw [pairL_len]; decide)) (by simp) (by omega) (by simp; omega) ?_))
  intro A' c' w' h2 ha
  go_wp2_with fail
  go_ret
  unfold AppPost
  rw [E.out]
  exact ⟨A', c', rfl, h2, ha.pre ((Below.refl _ _).alloc (Nat.le_refl _) _)⟩

set_option maxRecDepth 100000 in
set_option maxHeartbeats 1000000 in
theorem addText_any (base : Nat) (A : Option Addr) (c n : Nat) (l : List UInt8) (s : ByteArray) (w : World) (hown : w.ownsRow base 5 1 (.slice A n c) n (Lib.byteCells l)) (hn : n = l.length) (hl : l.length ≤ 10000000) (hb : base ≤ w.heap.size) (h1 : s.size ≤ 65535) :
    Calls Try.prog 94 #[.slice A n c, .string s] w (AppPost base (.slice A n c) w (l ++ (pairL s.size ++ s.data.toList))) := by
  subst hn
  have hp := addPair_any base A c l.length l s.size w hown rfl hl hb (by omega) (by omega)
  go_enter Try.func94, Try.ntmps94
  go_wp2_with fail
  refine hp.mono ?_
  rintro e w1 ⟨A1, c1, rfl, ho, ha⟩
  have e1 : (l ++ pairL (s.size : Int)).length = l.length + 2 := by simp [pairL]
  rw [e1] at ho ha ⊢
  have e2 : (l ++ (pairL (s.size : Int) ++ s.data.toList)).length = l.length + 2 + s.size := by simp [pairL]; omega
  have E1 := Lib.hid e1
  have E2 := Lib.hid e2
  clear e1 e2 hp
  have hb1 : base ≤ w1.heap.size := Nat.le_trans hb ha.grew.size
  go_wp2_with (at_builtin; go_must (refine ap_str base A1 c1 (l.length + 2) (l ++ pairL (s.size : Int)) s (by rfl) (by rfl) ho (by omega) (by omega) hb1 ?_))
  intro A' c' w' h2 h3
  go_wp2_with fail
  go_ret
  unfold AppPost
  rw [E2.out]
  exact ⟨A', c', rfl, by rw [← List.append_assoc]; exact h2, ha.trans h3⟩

set_option maxRecDepth 100000 in
set_option maxHeartbeats 1000000 in
theorem addLump_any (base : Nat) (A : Option Addr) (c n : Nat) (l : List UInt8) (B : Nat) (A2 : Option Addr) (c2 m : Nat) (l2 : List UInt8) (w : World) (hown : w.ownsRow base 5 1 (.slice A n c) n (Lib.byteCells l)) (hn : n = l.length) (hv : BytesAt w B (.slice A2 m c2) l2) (hm : m = l2.length) (hz : A2 = none → c2 = 0) (hB : B ≤ base)
    (hl : l.length ≤ 10000000) (hb : base ≤ w.heap.size) (h1 : l2.length ≤ 65535) :
    Calls Try.prog 96 #[.slice A n c, .slice A2 m c2] w (AppPost base (.slice A n c) w (l ++ (pairL l2.length ++ l2))) := by
  subst hn; subst hm
  have hp := addPair_any base A c l.length l l2.length w hown rfl hl hb (by omega) (by omega)
  have hlt := fun k hk => (hown.lt k hk).1
  have HV := Lib.hid hv
  clear hv
  go_enter Try.func96, Try.ntmps96
  go_wp2_with fail
  refine hp.mono ?_
  rintro e w1 ⟨A1, c1, rfl, ho, ha⟩
  have hbl := ha.below base hb hlt
  have e1 : (l ++ pairL (l2.length : Int)).length = l.length + 2 := by simp [pairL]
  rw [e1] at ho ha ⊢
  have e2 : (l ++ (pairL (l2.length : Int) ++ l2)).length = l.length + 2 + l2.length := by simp [pairL]; omega
  have E2 := Lib.hid e2
  clear e1 e2 hp
  have hb1 : base ≤ w1.heap.size := Nat.le_trans hb ha.grew.size
  go_wp2_with (at_builtin; go_must (refine ap_bytes base A1 c1 (l.length + 2) (l ++ pairL (l2.length : Int)) B A2 c2 l2.length l2 (by rfl) (by rfl) ho (HV.out.below (hbl.mono hB)) hz (by omega) hb1 ?_))
  intro A' c' w' h2 h3
  go_wp2_with fail
  go_ret
  unfold AppPost
  rw [E2.out]
  exact ⟨A', c', rfl, by rw [← List.append_assoc]; exact h2, ha.trans h3⟩
end Go.Proofs.Ytkeocnobninaaaa
