/- The law TopicLevels: its walk. -/
import Derived.Test.YtdnbkllofbnpoaaDoorTh
namespace Go.Proofs.YtdnbkllofbnpoaaDoor
open Go.RowKit Go.Lib
set_option linter.unusedVariables false

/-- Levels put together with slashes. -/
def joinL : List (List UInt8) → List UInt8
  | [] => []
  | [x] => x
  | x :: y :: r => x ++ 47 :: joinL (y :: r)
theorem joinL_cons (x : List UInt8) (r : List (List UInt8)) (h : r ≠ []) : joinL (x :: r) = x ++ 47 :: joinL r := by
  cases r with
  | nil => exact absurd rfl h
  | cons y r => rfl
theorem joinL_snoc (y : List UInt8) : ∀ L : List (List UInt8), L ≠ [] → joinL (L ++ [y]) = joinL L ++ [47] ++ y
  | [], h => absurd rfl h
  | [x], _ => by simp [joinL]
  | x :: z :: r, _ => by
    have ih := joinL_snoc y (z :: r) (by simp)
    rw [List.cons_append, joinL_cons x _ (by simp), ih, joinL_cons x (z :: r) (by simp)]
    simp
theorem joinL_lev : ∀ l : List UInt8, joinL (lev l) = l
  | [] => rfl
  | c :: l => by
    have ih := joinL_lev l
    rw [lev]
    by_cases h : c = 47
    · rw [if_pos h, joinL_cons _ _ (lev_ne l), ih, h]; rfl
    · rw [if_neg h]
      rw [lev_ht l] at ih
      generalize (lev l).headD [] = x at *
      generalize (lev l).tail = r at *
      cases r with
      | nil => simp [joinL] at ih ⊢; exact ih
      | cons y r =>
        rw [joinL_cons _ _ (by simp)] at ih ⊢
        rw [List.cons_append, ih]
theorem joinL_take (L : List (List UInt8)) (k : Nat) (h : k < L.length) (h0 : 0 < k) : joinL (L.take (k + 1)) = joinL (L.take k) ++ [47] ++ L[k] := by
  rw [List.take_add_one, List.getElem?_eq_getElem h]
  exact joinL_snoc _ _ (List.ne_nil_of_length_pos (by rw [List.length_take]; omega))
theorem joinL_le : ∀ (n : Nat) (L : List (List UInt8)) (k : Nat), L.length - k = n → 0 < k → k ≤ L.length → (joinL (L.take k)).length ≤ (joinL L).length
  | 0, L, k, hn, h0, hk => by rw [List.take_of_length_le (by omega)]; exact Nat.le_refl _
  | n + 1, L, k, hn, h0, hk => by
    have ih := joinL_le n L (k + 1) (by omega) (by omega) (by omega)
    rw [joinL_take L k (by omega) h0] at ih
    simp only [List.length_append] at ih
    omega

set_option maxRecDepth 100000 in
set_option maxHeartbeats 4000000 in
theorem tlevels_walk (raw : ByteArray) (A : Option Addr) (c : Nat) (l : List UInt8) (w : World) (hM : MaxAt w) (hs : raw.size ≤ maxLen) (hv : BytesAt w w.heap.size (.slice A l.length c) l) :
    Calls Tryd.prog 6 #[.string raw, .slice A l.length c] w fun e w' => e = .returned (.bool true) ∧ Below w.heap.size w w' := by
  have HV := Lib.hid hv
  clear hv
  by_cases h1 : 60 < raw.size
  · go_enter Tryd.func6, Tryd.ntmps6
    go_wp2_with fail
    refine (known6_any _ hM).mono ?_
    rintro e w1 ⟨rfl, hb1⟩
    go_wp2_with fail
    go_ret
    exact ⟨rfl, hb1⟩
  by_cases h2 : 20 < l.length
  · go_enter Tryd.func6, Tryd.ntmps6
    go_wp2_with fail
    refine (known6_any _ hM).mono ?_
    rintro e w1 ⟨rfl, hb1⟩
    go_wp2_with fail
    go_ret
    exact ⟨rfl, hb1⟩
  obtain ⟨r, rfl⟩ : ∃ r : List UInt8, raw = bs r := ⟨raw.data.toList, (bs_list raw).symm⟩
  have h1' : r.length ≤ 60 := by rw [bs_size] at h1; omega
  have hpl := Lib.hid (pieceL_len l)
  go_enter Tryd.func6, Tryd.ntmps6
  go_wp2_with fail
  refine (known6_any _ hM).mono ?_
  rintro e w1 ⟨rfl, hb1⟩
  go_wp2_with fail
  refine (pieces_any _ l _ (HV.out.on hb1) (by omega)).mono ?_
  rintro e w2 ⟨rfl, hb2⟩
  have B2 := thn hb1 hb2
  clear hb1 hb2
  go_wp2_with fail
  go_loopw [27] (fun i wr => ∃ k : Nat, k ≤ 2 ∧ i = .int .i64 k ∧ wr.heap[w2.heap.size]? = some (.cells #[.string (bs r), .string (bs (pieceL l))] 9 (0, 0)) ∧ Below w2.heap.size w2 wr) (fun i _ => 2 - (RowKit.intOf i).toNat)
  case atStart => exact ⟨0, by omega, rfl, heap_alloc_new _ _, alB (Below.refl _ _) _⟩
  case round =>
    obtain ⟨k, hk, rfl, hblk, hbx⟩ := hrel
    by_cases hlt : k < 2
    · obtain ⟨x, hX, hx⟩ : ∃ x : List UInt8, wr.cell? ⟨w2.heap.size, k, none⟩ = some (.string (bs x)) ∧ x.length ≤ 100 := by
        rw [cell_of_row wr w2.heap.size k _ _ _ hblk]
        match k, hlt with
        | 0, _ => exact ⟨r, rfl, by omega⟩
        | 1, _ => exact ⟨pieceL l, rfl, by have := hpl.out; omega⟩
      have HBK := Lib.hid hblk
      clear hblk
      have hlv := fun W hM => levels_any (bs x) W hM (by rw [bs_size]; omega)
      rw [bs_data] at hlv
      have hle := lev_le x
      have hpos := lev_pos x
      have hjl := Lib.hid (joinL_lev x)
      have hcnt := Lib.hid (lev_len x)
      have hxl := lev_elem_le x
      have hj := Lib.hid (fun k h0 hk => joinL_le _ (lev x) k rfl h0 hk)
      have hel := Lib.hid hxl
      clear hxl
      have hM2 := hM.on (thn B2 hbx)
      generalize lev x = L at *
      go_wp2_with fail
      refine (hlv _ hM2).mono ?_
      rintro e w3 ⟨g, hg, rfl, hrow, hb3⟩
      clear hlv
      have hcl : ∀ j (h : j < L.length), w3.cell? ⟨g, j, none⟩ = some (.string (bs L[j])) := fun j h => by
        rw [cell_of_row w3 g j _ _ _ hrow, lvs_get, List.getElem?_eq_getElem h]; rfl
      have HC := Lib.hid hcl
      clear hcl hrow
      have c0 : w3.cell? ⟨g, 0, none⟩ = some (.string (bs (joinL (L.take 1)))) := by
        rw [HC.out 0 (by omega)]
        cases L with
        | nil => simp at hpos
        | cons y r => rfl
      have hLz : ((L.length : Int) == 0) = false := beq_eq_false_iff_ne.2 (by omega)
      have hLp : (0 : Int) < (L.length : Int) := by omega
      go_wp2_with fail
      go_loopw [8, 9] (fun t i wx => ∃ m : Nat, 1 ≤ m ∧ m ≤ L.length ∧ i = .int .i64 m ∧ t = .string (bs (joinL (L.take m))) ∧ w3 = wx) (fun _ i _ => L.length - (RowKit.intOf i).toNat)
      case atStart => exact ⟨1, Nat.le_refl _, by omega, rfl, rfl, rfl⟩
      case round =>
        obtain ⟨m, hm1, hm2, rfl, rfl, rfl⟩ := hrel
        by_cases hml : m < L.length
        · have hcm := HC.out m hml
          have hjt := Lib.hid (joinL_take L m hml hm1)
          have hlen := hj.out m hm1 hm2
          rw [hjl.out] at hlen
          have hyl := hel.out L[m] (List.getElem_mem hml)
          generalize L[m] = y at *
          have hmi : (m : Int) < (L.length : Int) := by omega
          generalize hp : joinL (L.take m) = p at *
          have e1 : bs p ++ (⟨#[47]⟩ : ByteArray) = bs (p ++ [47]) := bs_append p [47]
          have e2 : bs (p ++ [47]) ++ bs y = bs (p ++ [47] ++ y) := bs_append _ _
          have z1 : (bs p).size + (⟨#[47]⟩ : ByteArray).size ≤ 9223372036854775807 := by rw [bs_size, show (⟨#[47]⟩ : ByteArray).size = 1 from rfl]; omega
          have z2 : (bs (p ++ [47])).size + (bs y).size ≤ 9223372036854775807 := by rw [bs_size, bs_size]; simp; omega
          go_wp2_with fail
          go_roundw
          case rel => exact ⟨m + 1, by omega, by omega, by go_num, by rw [hjt.out]; simp, trivial⟩
          case measure => simp [RowKit.intOf]; omega
        · have hmi : ¬ (m : Int) < (L.length : Int) := by omega
          have hfin : bs (joinL (L.take m)) = bs x := by rw [List.take_of_length_le (by omega), hjl.out]
          have hsx : (bs x).size ≤ 100 := by rw [bs_size]; exact hx
          have hcn := Lib.hid (show (bs x).data.toList.count 47 + 1 = L.length by rw [bs_data]; exact hcnt.out.symm)
          have hxe : ((bs x).toList != (bs x).toList) = false := by simp
          clear hjl hcnt hj hel HC c0 hLz
          go_wp2_with fail
          go_loopw [10, 11] (fun n i wx => ∃ q : Nat, q ≤ (bs x).size ∧ i = .int .i64 q ∧ n = .int .i64 ((((bs x).data.toList.take q).count 47 + 1 : Nat) : Int) ∧ w3 = wx) (fun _ i _ => (bs x).size - (RowKit.intOf i).toNat)
          case atStart => exact ⟨0, Nat.zero_le _, rfl, rfl, rfl⟩
          case round =>
            obtain ⟨q, hq, rfl, rfl, rfl⟩ := hrel
            by_cases hql : q < (bs x).size
            · have hqi : (q : Int) < ((bs x).size : Int) := by omega
              have htk := take_at (bs x) q hql
              have hcc : ((bs x).data.toList.take (q + 1)).count 47 = ((bs x).data.toList.take q).count 47 + (if (bs x)[q] = 47 then 1 else 0) := by
                rw [htk, List.count_append, List.count_singleton]
                congr 1
                by_cases e : (bs x)[q] = 47
                · rw [e]; rfl
                · rw [if_neg e, if_neg (by rw [beq_iff_eq]; exact e)]
              have hcl : ((bs x).data.toList.take q).count 47 ≤ 100 := by
                have h1 := List.count_le_length (a := (47 : UInt8)) (l := (bs x).data.toList.take q)
                rw [List.length_take] at h1
                omega
              clear htk
              generalize hcq : ((bs x).data.toList.take q).count 47 = cq at *
              generalize hcq1 : ((bs x).data.toList.take (q + 1)).count 47 = cq1 at *
              generalize hb : (bs x)[q] = b at *
              have HQ := Lib.hid hcq1
              have HQ0 := Lib.hid hcq
              clear hcq hcq1
              by_cases h47 : b = 47
              · subst h47
                rw [if_pos rfl] at hcc
                have hcc2 := Lib.hid hcc
                clear hcc
                have hbt : ((((47 : UInt8).toNat : Nat) : Int) == 47) = true := rfl
                go_wp2_with fail
                go_roundw
                case rel => exact ⟨q + 1, by omega, by go_num, by rw [HQ.out, hcc2.out]; try simp, trivial⟩
                case measure => simp [RowKit.intOf]; omega
              · rw [if_neg h47] at hcc
                have hcc2 := Lib.hid hcc
                clear hcc
                have hbf : ((b.toNat : Int) == 47) = false := beq_eq_false_iff_ne.2 (fun e => h47 (UInt8.toNat_inj.1 (by rw [show (47 : UInt8).toNat = 47 from rfl]; omega)))
                go_wp2_with fail
                go_roundw
                case rel => exact ⟨q + 1, by omega, by go_num, by rw [HQ.out, hcc2.out]; try simp, trivial⟩
                case measure => simp [RowKit.intOf]; omega
            · have hqi : ¬ (q : Int) < ((bs x).size : Int) := by omega
              have hLn : ((((bs x).data.toList.take q).count 47 + 1 : Nat) : Int) = (L.length : Int) := by
                rw [List.take_of_length_le (by rw [size_list]; omega), hcn.out]
              generalize ((bs x).data.toList.take q).count 47 + 1 = cc at *
              have hLq : ((L.length : Int) != (L.length : Int)) = false := by simp
              go_wp2_with fail
              go_roundw
              case rel => exact ⟨k + 1, by omega, by go_num, heap_below hb3 HBK.out, thn hbx hb3⟩
              case measure => (simp [RowKit.intOf]; try omega)
    · have hkl : ¬ (k : Int) < 2 := by omega
      go_wp2
      go_ret
      exact ⟨rfl, thn B2 hbx⟩
end Go.Proofs.YtdnbkllofbnpoaaDoor
