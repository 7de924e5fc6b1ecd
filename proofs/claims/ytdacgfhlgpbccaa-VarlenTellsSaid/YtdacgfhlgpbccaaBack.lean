/- The law VarlenBack: its walk. -/
import Derived.Test.YtdacgfhlgpbccaaShort
import Derived.Laws.AppendOwnNone
namespace Go.Proofs.Ytdacgfhlgpbccaa
open Go.RowKit Go.Lib

theorem u8_cells (l : List UInt8) : ∀ u ∈ byteCells l, u.oneCell' = true := by
  intro u hu
  obtain ⟨n, _, rfl⟩ := List.mem_map.1 hu
  rfl
theorem BytesAt.news {w : World} {B : Nat} {ad : Addr} {n c : Nat} {l : List UInt8} (h : BytesAt w B (.slice (some ad) n c) l) : ∀ j u, (byteCells l)[j]? = some u → w.cell? (ad.add j) = some u := by
  obtain ⟨A', c', hv, hc, hm, hn, hB, hx⟩ := h
  injection hv with v1 v2 v3
  intro j u hu
  unfold byteCells at hu
  rw [List.getElem?_map] at hu
  cases hx' : l[j]? with
  | none => rw [hx'] at hu; cases hu
  | some x =>
    rw [hx'] at hu
    injection hu with hu
    rw [hx ad v1.symm j x hx', ← hu]

set_option maxRecDepth 100000 in
set_option maxHeartbeats 1000000 in
theorem back_some (n : Int) (hn0 : 0 ≤ n) (hn1 : n ≤ 4294967295) (a1 : Addr) (c1 : Nat) (l1 : List UInt8) (hl1 : l1.length ≤ 20) (w : World) (h1 : BytesAt w w.heap.size (.slice (some a1) l1.length c1) l1) :
    Calls Try.prog 4 #[.int .u32 n, .slice (some a1) l1.length c1] w fun e w' => e = .returned (.bool true) ∧ Below w.heap.size w w' := by
  have H1 := Lib.hid h1
  clear h1
  obtain ⟨i0, hi, hz0, hz1, hz2⟩ := info_parts Try.info5
  have hx0 : 0 ≤ n % 268435456 := by omega
  have hx1 : n % 268435456 ≤ 268435455 := by omega
  go_enter Try.func4, Try.ntmps4
  go_wp2_with fail
  refine (known_any _).mono ?_
  rintro e w1 ⟨rfl, hb1⟩
  have M1 := Lib.hid (H1.out.on hb1)
  clear H1
  go_wp2_with fail
  generalize n % 268435456 = x at *
  refine (put_ok x hx0 hx1 _).mono ?_
  rintro e w2 ⟨A, c, rfl, hv, hb2⟩
  have M2 := Lib.hid (M1.out.on hb2)
  clear M1
  have hsz := putL_size x hx0 hx1
  have hsp := size_pos x hx0 hx1
  have hL4 := putL_len x
  obtain ⟨ad, rfl⟩ : ∃ ad, A = some ad := by
    obtain ⟨A', _, hw, _, _, hw2, _⟩ := id hv
    injection hw with hw1
    cases A with
    | some ad => exact ⟨ad, rfl⟩
    | none =>
      have := hw2 hw1.symm
      rw [this] at hsz
      simp at hsz
      omega
  have V := Lib.hid hv
  clear hv
  have qx := fun W => size_any x (by omega) (by omega) W
  rw [← hsz] at qx
  have bk := Lib.hid (back_T x hx0 hx1 l1)
  have hnews := V.out.news
  have HN := Lib.hid hnews
  clear hnews
  go_wp2_with (at_builtin; go_must (refine wpList_append_own _ rfl _ _ 22 rfl w2.heap.size 5 i0 (.int .u8 0) 1 1 Try.underlying22 hi hz0 hz1 hz2 rfl (by decide) _ _ _ rfl (World.ownsRow_nil _ _ _ _) ad (putL x).length c (byteCells (putL x)) rfl (by simp [byteCells]) HN.out (u8_cells _) (by unfold maxLen; omega) (by omega) (Nat.le_refl _) ?_))
  intro v3 w3 hown3 hgrow3 _
  have B3 := (Below.refl w2.heap.size w2).grown hgrow3 (Nat.le_refl _) (fun g hg => by cases hg)
  have s3 := B3.size
  have hnews := (M2.out.on B3).news
  have HN2 := Lib.hid hnews
  clear hnews M2
  go_wp2_with (at_builtin; go_must (refine wpList_append_own _ rfl _ _ 22 rfl w2.heap.size 5 i0 (.int .u8 0) 1 1 Try.underlying22 hi hz0 hz1 hz2 rfl (by decide) _ _ _ rfl hown3 a1 l1.length c1 (byteCells l1) rfl (by simp [byteCells]) HN2.out (u8_cells _) (by unfold maxLen; omega) (by omega) s3 ?_))
  intro v4 w4 hown4 hgrow4 _
  have B4 := B3.grown hgrow4 s3 (fun g hg => (hown3.lt g hg).1)
  rw [← byteCells_append, ← List.length_append] at hown4
  have hv4 := ownsBytes hown4
  have hlen : (putL x ++ l1).length ≤ 1000 := by rw [List.length_append]; omega
  have RD := read_any _ _ _ _ hv4 hlen _ _ _ bk.out
  have fin := Lib.hid (thn hb1 (thn hb2 B4))
  clear hown4 hgrow4 hv4 hlen hown3 hgrow3 B3 B4 HN2 HN bk hb1 hb2 V s3
  generalize (putL x).length = L at *
  go_wp2_with fail
  refine RD.mono ?_
  rintro e w5 ⟨rfl, rfl⟩
  go_wp2_with fail
  refine (qx _).mono ?_
  rintro e w5 ⟨rfl, rfl⟩
  go_wp2_with fail
  go_ret
  exact ⟨rfl, fin.out⟩

set_option maxRecDepth 100000 in
set_option maxHeartbeats 1000000 in
theorem back_none (n : Int) (hn0 : 0 ≤ n) (hn1 : n ≤ 4294967295) (w : World) :
    Calls Try.prog 4 #[.int .u32 n, .slice none 0 0] w fun e w' => e = .returned (.bool true) ∧ Below w.heap.size w w' := by
  obtain ⟨i0, hi, hz0, hz1, hz2⟩ := info_parts Try.info5
  have hx0 : 0 ≤ n % 268435456 := by omega
  have hx1 : n % 268435456 ≤ 268435455 := by omega
  go_enter Try.func4, Try.ntmps4
  go_wp2_with fail
  refine (known_any _).mono ?_
  rintro e w1 ⟨rfl, hb1⟩
  go_wp2_with fail
  generalize n % 268435456 = x at *
  refine (put_ok x hx0 hx1 _).mono ?_
  rintro e w2 ⟨A, c, rfl, hv, hb2⟩
  have hsz := putL_size x hx0 hx1
  have hsp := size_pos x hx0 hx1
  have hL4 := putL_len x
  obtain ⟨ad, rfl⟩ : ∃ ad, A = some ad := by
    obtain ⟨A', _, hw, _, _, hw2, _⟩ := id hv
    injection hw with hw1
    cases A with
    | some ad => exact ⟨ad, rfl⟩
    | none =>
      have := hw2 hw1.symm
      rw [this] at hsz
      simp at hsz
      omega
  have V := Lib.hid hv
  clear hv
  have qx := fun W => size_any x (by omega) (by omega) W
  rw [← hsz] at qx
  have bk := Lib.hid (back_T x hx0 hx1 [])
  have hnews := V.out.news
  have HN := Lib.hid hnews
  clear hnews
  go_wp2_with (at_builtin; go_must (refine wpList_append_own _ rfl _ _ 22 rfl w2.heap.size 5 i0 (.int .u8 0) 1 1 Try.underlying22 hi hz0 hz1 hz2 rfl (by decide) _ _ _ rfl (World.ownsRow_nil _ _ _ _) ad (putL x).length c (byteCells (putL x)) rfl (by simp [byteCells]) HN.out (u8_cells _) (by unfold maxLen; omega) (by omega) (Nat.le_refl _) ?_))
  intro v3 w3 hown3 hgrow3 _
  have B3 := (Below.refl w2.heap.size w2).grown hgrow3 (Nat.le_refl _) (fun g hg => by cases hg)
  go_wp2_with (at_builtin; go_must (refine wpList_append_own_none rfl _ _ 22 rfl w2.heap.size 5 i0 1 Try.underlying22 hi _ _ _ rfl hown3 rfl ?_))
  have hv4 := ownsBytes hown3
  have bk := bk.out
  rw [List.append_nil] at bk
  have RD := read_any _ _ _ _ hv4 (by omega) _ _ _ bk
  have fin := Lib.hid (thn hb1 (thn hb2 B3))
  clear hown3 hgrow3 hv4 B3 HN bk hb1 hb2 V
  generalize (putL x).length = L at *
  go_wp2_with fail
  refine RD.mono ?_
  rintro e w5 ⟨rfl, rfl⟩
  go_wp2_with fail
  refine (qx _).mono ?_
  rintro e w5 ⟨rfl, rfl⟩
  go_wp2_with fail
  go_ret
  exact ⟨rfl, fin.out⟩

set_option maxRecDepth 100000 in
set_option maxHeartbeats 1000000 in
theorem back_long (n : Int) (A1 : Option Addr) (m c1 : Nat) (hm : 21 ≤ m) (w : World) :
    Calls Try.prog 4 #[.int .u32 n, .slice A1 m c1] w fun e w' => e = .returned (.bool true) ∧ Below w.heap.size w w' := by
  go_enter Try.func4, Try.ntmps4
  go_wp2_with fail
  refine (known_any _).mono ?_
  rintro e w1 ⟨rfl, hb1⟩
  go_wp2_with fail
  go_ret
  exact ⟨rfl, hb1⟩

theorem back_walk (n : Int) (hn0 : 0 ≤ n) (hn1 : n ≤ 4294967295) (a1 : Addr) (c1 : Nat) (l1 : List UInt8) (w : World) (h1 : BytesAt w w.heap.size (.slice (some a1) l1.length c1) l1) :
    Calls Try.prog 4 #[.int .u32 n, .slice (some a1) l1.length c1] w fun e w' => e = .returned (.bool true) ∧ Below w.heap.size w w' := by
  by_cases hl : 21 ≤ l1.length
  · exact back_long n (some a1) _ c1 hl w
  · exact back_some n hn0 hn1 a1 c1 l1 (by omega) w h1
end Go.Proofs.Ytdacgfhlgpbccaa
