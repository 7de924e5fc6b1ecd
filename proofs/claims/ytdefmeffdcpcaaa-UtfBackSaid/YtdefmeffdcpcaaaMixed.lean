/- What the laws' help mixed comes to: bytes of pieces. -/
import Derived.Test.YtdefmeffdcpcaaaKnown
namespace Go.Proofs.Ytdefmeffdcpcaaa
open Go.RowKit Go.Lib

/-- The seventeen pieces. -/
def tbl : List (List UInt8) := [[97], [195, 169], [226, 130, 172], [240, 159, 152, 128], [0], [255], [195], [226, 130], [240, 159, 152], [237, 160, 128], [192, 128], [244, 144, 128, 128], [128], [47], [239, 191, 191], [248], [224, 128, 128]]
def tblAt (p : UInt8) : List UInt8 := tbl.getD (p.toNat % 17) []
def mixedL (l : List UInt8) : List UInt8 := l.flatMap tblAt
def tblC : Array Value := (tbl.map fun b => Value.string ⟨b.toArray⟩).toArray

theorem tblC_at (p : UInt8) : tblC[p.toNat % 17]? = some (.string ⟨(tblAt p).toArray⟩) := by
  have h : p.toNat % 17 < tbl.length := Nat.mod_lt _ (by decide)
  unfold tblC tblAt
  rw [List.getElem?_toArray, List.getElem?_map]
  simp [List.getD, List.getElem?_eq_getElem h]
theorem tblAt_le (p : UInt8) : (tblAt p).length ≤ 4 := by
  have h : p.toNat % 17 < 17 := Nat.mod_lt _ (by decide)
  have key : ∀ k, k < 17 → (tbl.getD k []).length ≤ 4 := by decide
  exact key _ h
theorem mixedL_le : ∀ l : List UInt8, (mixedL l).length ≤ 4 * l.length
  | [] => by simp [mixedL]
  | p :: l => by
    have h1 := tblAt_le p
    have h2 := mixedL_le l
    simp only [mixedL, List.flatMap_cons, List.length_append, List.length_cons] at *
    omega
theorem mixedL_step (l : List UInt8) (k : Nat) (h : k < l.length) : mixedL (l.take (k + 1)) = mixedL (l.take k) ++ tblAt l[k] := by
  rw [List.take_succ_eq_append_getElem h]
  unfold mixedL
  rw [List.flatMap_append]
  simp

theorem ownsBytes {w : World} {base : Nat} {v : Value} {l : List UInt8} (h : w.ownsRow base 5 1 v l.length (byteCells l)) : BytesAt w w.heap.size v l := by
  rcases h.2 with ⟨rfl, h0⟩ | ⟨g, cap, cur, rfl, _, hg, hc, hm, _, _⟩
  · have : l = [] := List.eq_nil_of_length_eq_zero h0
    subst this
    exact ⟨none, 0, rfl, by simp, by decide, fun _ => rfl, by simp, by simp⟩
  · refine ⟨_, cap, rfl, hc, hm, by simp, fun ad had _ => ?_, fun ad had j x hj => ?_⟩
    · injection had with had; subst had
      exact (h.lt g rfl).2
    · injection had with had; subst had
      exact h.cells rfl j _ (by rw [byteCells, List.getElem?_map, hj]; rfl)

theorem Try.len9 : (Try.prog.info? 9).map (fun i => (i.zero, i.size, i.bytes)) = some (some (.string ⟨#[]⟩), 1, 16) := by kernel_rfl

set_option maxRecDepth 100000 in
set_option maxHeartbeats 1000000 in
theorem mixed_some (ad : Addr) (c : Nat) (l : List UInt8) (w : World) (hB : l ≠ [] → ad.block < w.heap.size) (hl : l.length ≤ 100) (hx : ∀ (j : Nat) (x : UInt8), l[j]? = some x → w.cell? (ad.add j) = some (.int .u8 (x.toNat : Int))) :
    Calls Try.prog 10 #[.slice (some ad) l.length c] w fun e w' => ∃ v, e = .returned v ∧ BytesAt w' w'.heap.size v (mixedL l) ∧ Below w.heap.size w w' := by
  obtain ⟨i0, hi, hz0, hz1, hz2⟩ := info_parts Try.info5
  have HX := Lib.hid hx
  clear hx
  go_enter Try.func10, Try.ntmps10
  go_wp2
  go_loopw [4, 5] (fun v i wr => ∃ k : Nat, k ≤ l.length ∧ i = .int .i64 k ∧ wr.ownsRow (w.heap.size + 1) 5 1 v (mixedL (l.take k)).length (byteCells (mixedL (l.take k))) ∧ wr.heap[w.heap.size]? = some (.cells tblC 9 (0, 0)) ∧ Below w.heap.size w wr) (fun _ i _ => l.length - (intOf i).toNat)
  case atStart => exact ⟨0, Nat.zero_le _, rfl, World.ownsRow_nil _ _ _ _, heap_alloc_new w _, (Below.refl _ _).alloc (Nat.le_refl _) _⟩
  case round =>
    obtain ⟨k, hk, rfl, hown, hblk, hbw⟩ := hrel
    by_cases hlt : k < l.length
    · have hcell : wr.cell? (ad.add k) = some (.int .u8 (l[k].toNat : Int)) := by
        rw [hbw.cell (p := ad.add k) (by
          have := hB (by intro e; rw [e] at hlt; simp at hlt)
          simpa [Addr.add] using (by split <;> exact this))]
        exact HX.out k _ (List.getElem?_eq_getElem hlt)
      have htc : wr.cell? ⟨w.heap.size, l[k].toNat % 17, none⟩ = some (.string ⟨(tblAt l[k]).toArray⟩) := by
        rw [cell_of_row wr w.heap.size _ tblC 9 (0, 0) hblk]
        exact tblC_at _
      have hp17 : l[k].toNat % 17 < 17 := Nat.mod_lt _ (by decide)
      have hp256 : l[k].toNat < 256 := l[k].toNat_lt
      have hstep := Lib.hid (mixedL_step l k hlt)
      generalize l[k] = p at *
      have hle := mixedL_le (l.take k)
      have hle2 := tblAt_le p
      have hlk : (l.take k).length ≤ l.length := by rw [List.length_take]; omega
      have hsz : (⟨(tblAt p).toArray⟩ : ByteArray).size = (tblAt p).length := rfl
      have HS := Lib.hid hsz
      clear hsz
      go_wp2_with (at_builtin; refine wpList_append_own_string _ rfl _ _ 22 9 rfl (w.heap.size + 1) 5 i0 Try.underlying22 Try.underlying9 hi hz0 hz1 hz2 _ _ _ rfl hown ⟨(tblAt p).toArray⟩ rfl ?c1 ?c2 ?c3 ?_)
      case c1 => rw [HS.out]; unfold maxLen; omega
      case c2 => rw [HS.out]; omega
      case c3 => have h1 := (Array.getElem?_eq_some_iff.1 hblk).1; omega
      intro v' w1 hown' hgrow _
      go_wp2
      go_roundw
      case rel =>
        refine ⟨k + 1, by omega, by go_num, ?_, ?_, ?_⟩
        · rw [hstep.out]

          rw [List.length_append, byteCells_append]
          exact hown'
        · refine (hgrow.block _ (Array.getElem?_eq_some_iff.1 hblk).1 (fun e => ?_)).trans hblk
          have := hown.lt _ e.symm
          omega
        · refine hbw.grown hgrow hbw.size (fun g hg => ?_)
          have := hown.lt _ hg
          omega
      case measure => simp [intOf]; omega
    · go_wp2
      go_ret
      have e : l.take k = l := List.take_of_length_le (by omega)
      rw [e] at hown
      exact ⟨_, rfl, ownsBytes hown, hbw⟩

set_option maxRecDepth 100000 in
set_option maxHeartbeats 1000000 in
theorem mixed_none (c : Nat) (w : World) :
    Calls Try.prog 10 #[.slice none 0 c] w fun e w' => ∃ v, e = .returned v ∧ BytesAt w' w'.heap.size v [] ∧ Below w.heap.size w w' := by
  go_enter Try.func10, Try.ntmps10
  go_wp2
  go_loopw [4, 5] (fun v i wr => v = .slice none 0 0 ∧ i = .int .i64 0 ∧ Below w.heap.size w wr) (fun _ _ _ => 0)
  case atStart => exact ⟨rfl, rfl, (Below.refl _ _).alloc (Nat.le_refl _) _⟩
  case round =>
    obtain ⟨rfl, rfl, hb⟩ := hrel
    go_wp2
    go_ret
    exact ⟨_, rfl, ⟨none, 0, rfl, by simp, by decide, fun _ => rfl, by simp, by simp⟩, hb⟩

theorem mixed_any (v : Value) (l : List UInt8) (w : World) (hv : BytesAt w w.heap.size v l) (hl : l.length ≤ 100) :
    Calls Try.prog 10 #[v] w fun e w' => ∃ v, e = .returned v ∧ BytesAt w' w'.heap.size v (mixedL l) ∧ Below w.heap.size w w' := by
  obtain ⟨A, c, rfl, _, _, hn, hB, hx⟩ := hv
  cases A with
  | some ad => exact mixed_some ad c l w (hB ad rfl) hl (hx ad rfl)
  | none =>
    obtain rfl := hn rfl
    exact mixed_none c w
end Go.Proofs.Ytdefmeffdcpcaaa
