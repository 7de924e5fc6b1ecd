/- The law TopicOwn: its walk. Written by gen_to.py. -/
import Derived.Test.YtdnbkllofbnpoaaDoorTlOp
namespace Go.Proofs.YtdnbkllofbnpoaaDoor
open Go.RowKit Go.Lib
set_option linter.unusedVariables false
set_option linter.unusedSimpArgs false

theorem head_plain {s : List UInt8} (h : nameP s = true) : wildP ((lev s).headD []) = false := by
  obtain ⟨a, b⟩ := name_level h ((lev s).headD []) (by rw [lev_ht s]; simp)
  unfold wildP
  rw [a, b]; rfl
/-- A name and its own filters. -/
theorem own_facts (s : List UInt8) (hn : nameP s = true) (hs : s.length ≤ 100) (i : Nat) (hi : i < (lev s).length) :
    matchP s s = true ∧ matchP (joinL ((lev s).set i [43])) s = (decide (0 < i) || !dolP s) ∧ matchP (joinL ((lev s).take i ++ [[35]])) s = (decide (0 < i) || !dolP s) ∧ matchP (s ++ [47, 35]) s = true ∧ matchP (s ++ [47, 97]) s = false := by
  have hj := joinL_lev s
  have hne := lev_ne s
  have h47 := lev_no47 s
  have hgd : ∀ x ∈ lev s, goodL x := (good_join _ hne).1 (by
    rw [hj]
    have ht := name_text hn
    unfold textP at ht
    rw [Bool.and_eq_true, decide_eq_true_eq] at ht
    exact (good_iff s).1 ht.2)
  have hln : ∀ x ∈ lev s, x.length ≤ 100 := fun x hx => Nat.le_trans (lev_elem_le s x hx) hs
  have hpl := name_level hn
  have h35 := name_lev hn
  have hle := lev_le s
  have hhd := head_plain hn
  have hs1 : 1 ≤ s.length := by obtain ⟨c, t, e⟩ := text_ne (name_text hn); rw [e]; simp
  have g43 : goodL [43] := (good_iff _).1 (by decide +kernel)
  have g35 : goodL [35] := (good_iff _).1 (by decide +kernel)
  have h1L : ∃ x ∈ lev s, 1 ≤ x.length ∨ 2 ≤ (lev s).length := by
    rcases q : lev s with _ | ⟨a, r⟩
    · exact absurd q hne
    · refine ⟨a, by simp, ?_⟩
      cases r with
      | nil => left; rw [q] at hj; have : a = s := hj; rw [this]; exact hs1
      | cons b r => right; simp
  refine ⟨?_, ?_, ?_, ?_, ?_⟩
  · have := own_filter s (lev s) hn hne h47 hgd hln (by omega) h1L (fitsAll_plain _ hpl)
    rw [hj, hhd, cov_self] at this
    rw [this]; simp
  · have hm : ∀ x ∈ (lev s).set i [43], x ∈ lev s ∨ x = [43] := fun x hx => List.mem_or_eq_of_mem_set hx
    have := own_filter s ((lev s).set i [43]) hn (by intro e; have := congrArg List.length e; simp at this; exact hne this)
      (fun x hx => by rcases hm x hx with h | rfl; exact h47 x h; decide) (fun x hx => by rcases hm x hx with h | rfl; exact hgd x h; exact g43)
      (fun x hx => by rcases hm x hx with h | rfl; exact hln x h; decide) (by rw [List.length_set]; omega)
      ⟨[43], List.mem_set hi _, .inl (by decide)⟩ (fitsAll_mix _ (fun x hx => by rcases hm x hx with h | rfl; exact .inl (hpl x h); exact .inr rfl))
    rw [this, cov_set _ _ h35, Bool.and_true]
    cases i with
    | zero =>
      have : wildP (((lev s).set 0 [43]).headD []) = true := by
        rcases q : lev s with _ | ⟨a, r⟩
        · exact absurd q hne
        · rfl
      rw [this]; simp
    | succ i =>
      have : ((lev s).set (i + 1) [43]).headD [] = (lev s).headD [] := by
        rcases q : lev s with _ | ⟨a, r⟩
        · exact absurd q hne
        · rfl
      rw [this, hhd]; simp
  · have hm : ∀ x ∈ (lev s).take i ++ [[35]], x ∈ lev s ∨ x = [35] := fun x hx => by
      rcases List.mem_append.1 hx with h | h
      · exact .inl (List.mem_of_mem_take h)
      · exact .inr (by simpa using h)
    have := own_filter s ((lev s).take i ++ [[35]]) hn (by simp)
      (fun x hx => by rcases hm x hx with h | rfl; exact h47 x h; decide) (fun x hx => by rcases hm x hx with h | rfl; exact hgd x h; exact g35)
      (fun x hx => by rcases hm x hx with h | rfl; exact hln x h; decide) (by rw [List.length_append, List.length_take]; simp; omega)
      ⟨[35], by simp, .inl (by decide)⟩ (fitsAll_snoc _ (fun x hx => hpl x (List.mem_of_mem_take hx)))
    rw [this, cov_take, Bool.and_true]
    cases i with
    | zero =>
      have : wildP (((lev s).take 0 ++ [[35]]).headD []) = true := rfl
      rw [this]; simp
    | succ i =>
      have : ((lev s).take (i + 1) ++ [[35]]).headD [] = (lev s).headD [] := by
        rcases q : lev s with _ | ⟨a, r⟩
        · exact absurd q hne
        · rfl
      rw [this, hhd]; simp
  · have e : s ++ [47, 35] = joinL (lev s ++ [[35]]) := by rw [joinL_snoc _ _ hne, hj]; simp
    have hm : ∀ x ∈ lev s ++ [[35]], x ∈ lev s ∨ x = [35] := fun x hx => by
      rcases List.mem_append.1 hx with h | h
      · exact .inl h
      · exact .inr (by simpa using h)
    have := own_filter s (lev s ++ [[35]]) hn (by simp)
      (fun x hx => by rcases hm x hx with h | rfl; exact h47 x h; decide) (fun x hx => by rcases hm x hx with h | rfl; exact hgd x h; exact g35)
      (fun x hx => by rcases hm x hx with h | rfl; exact hln x h; decide) (by rw [List.length_append]; simp; omega)
      ⟨[35], by simp, .inl (by decide)⟩ (fitsAll_snoc _ hpl)
    have hc := cov_take (lev s) (lev s).length
    rw [List.take_length] at hc
    rw [e, this, hc, Bool.and_true]
    have : (lev s ++ [[35]]).headD [] = (lev s).headD [] := by
      rcases q : lev s with _ | ⟨a, r⟩
      · exact absurd q hne
      · rfl
    rw [this, hhd]; simp
  · have e : s ++ [47, 97] = joinL (lev s ++ [[97]]) := by rw [joinL_snoc _ _ hne, hj]; simp
    have hl : lev (s ++ [47, 97]) = lev s ++ [[97]] := by
      rw [e]
      refine lev_join _ (by simp) (fun x hx => ?_)
      rcases List.mem_append.1 hx with h | h
      · exact h47 x h
      · have : x = [97] := by simpa using h
        subst this; decide
    unfold matchP coversP
    rw [hl, cov_a _ h35]
    simp

theorem join_one (M : List (List UInt8)) (h : 0 < M.length) : joinL (M.take (0 + 1)) = M[0] := by
  cases M with
  | nil => simp at h
  | cons a t => rfl
def GJ (G : List UInt8) (i m : Nat) : List UInt8 := if m ≤ i then [] else G

set_option maxRecDepth 100000 in
set_option maxHeartbeats 8000000 in
theorem town_walk (A : Option Addr) (c : Nat) (l : List UInt8) (n1 : Nat) (w : World) (hM : MaxAt w) (hv : BytesAt w w.heap.size (.slice A l.length c) l) (hn1 : n1 < 256) :
    Calls Tryd.prog 5 #[.slice A l.length c, .int .u8 n1] w fun e w' => e = .returned (.bool true) ∧ Below w.heap.size w w' := by
  have HV := Lib.hid hv
  clear hv
  by_cases h2 : 12 < l.length
  · go_enter Tryd.func5, Tryd.ntmps5
    go_wp2_with fail
    refine (known6_any _ hM).mono ?_
    rintro e w1 ⟨rfl, hb1⟩
    go_wp2_with fail
    go_ret
    exact ⟨rfl, hb1⟩
  have hxl : (pieceL l).length ≤ 100 := by have := pieceL_len l; omega
  have hps := fun W hv => pieces_any (.slice A l.length c) l W hv (by omega)
  generalize pieceL l = x at *
  have hsx : (bs x).size ≤ 1000000 := by rw [bs_size]; omega
  have cN := fun W => rname_any (bs x) W hsx
  have cMH := fun W hM => match_any ⟨#[35]⟩ (bs x) W hM (by decide) hsx
  have cMS := fun W hM => match_any (bs x) (bs x) W hM hsx hsx
  rw [bs_data] at cN cMH cMS
  rcases hn : nameP x with _ | _
  · rw [hn] at cN
    rw [match_no hn] at cMH cMS
    clear hn
    go_enter Tryd.func5, Tryd.ntmps5
    go_wp2_with fail
    refine (known6_any _ hM).mono ?_
    rintro e w1 ⟨rfl, hb1⟩
    go_wp2_with fail
    refine (hps _ (HV.out.on hb1)).mono ?_
    rintro e w2 ⟨rfl, hb2⟩
    go_wp2_with fail
    refine (cN _).mono ?_
    rintro e w3 ⟨rfl, hb3⟩
    go_wp2_with fail
    refine (cMH _ (hM.on (thn (thn hb1 hb2) hb3))).mono ?_
    rintro e w4 ⟨rfl, hb4⟩
    go_wp2_with fail
    refine (cMS _ (hM.on (thn (thn (thn hb1 hb2) hb3) hb4))).mono ?_
    rintro e w5 ⟨rfl, hb5⟩
    go_wp2_with fail
    go_ret
    exact ⟨rfl, thn (thn (thn (thn hb1 hb2) hb3) hb4) hb5⟩
  · have hLp := lev_pos x
    have hLe := lev_le x
    have hil : n1 % (lev x).length < (lev x).length := Nat.mod_lt _ (by omega)
    obtain ⟨m1, m2, m3, m4, m5⟩ := own_facts x hn hxl (n1 % (lev x).length) hil
    have hel : ∀ y ∈ lev x, y.length ≤ 100 := fun y hy => Nat.le_trans (lev_elem_le x y hy) hxl
    have en : (n1 : Int) % ((lev x).length : Int) = ((n1 % (lev x).length : Nat) : Int) := by simp
    have hcl := fun W hM => levels_any (bs x) W hM hsx
    rw [bs_data] at hcl
    obtain ⟨s0, st, hst⟩ := first_of (bs x) (by rw [bs_data]; exact name_text hn)
    rw [bs_data] at hst
    have hd' : ∀ b0 : UInt8, x = b0 :: st → dolP x = (b0 == 36) := fun b0 h => by rw [h, dol_cons]
    have hd := hd' _ hst
    clear hd' hst
    rw [hn] at cN
    rw [m1] at cMS
    have b36 := byte_eqL (bs x)[0] 36 (by decide)
    rw [show UInt8.ofNat 36 = 36 from rfl, ← hd] at b36
    have b36 : (((bs x)[0].toNat : Int) == 36) = dolP x := b36
    have b36n : (((bs x)[0].toNat : Int) != 36) = !dolP x := by unfold bne; rw [b36]
    clear hd hn m1 cMH
    have s0' : (0 : Int) < ((bs x).size : Int) := by omega
    generalize dolP x = d at *
    generalize hL : lev x = L at *
    clear hL
    generalize n1 % L.length = i at *
    have hMl : (L.set i [43]).length = L.length := List.length_set
    have hMe : ∀ y ∈ L.set i [43], y.length ≤ 100 := fun y hy => by
      rcases List.mem_or_eq_of_mem_set hy with h | rfl
      · exact hel y h
      · decide
    have hMi : ∀ k (h : k < L.length), (L.set i [43])[k]'(by rw [hMl]; exact h) = if k = i then [43] else L[k] := fun k h => by
      rw [List.getElem_set]
      by_cases q : i = k
      · rw [if_pos q, if_pos q.symm]
      · rw [if_neg q, if_neg (fun e => q e.symm)]
    have hG : joinL (L.take i ++ [[35]]) = (if i = 0 then [] else joinL ((L.set i [43]).take i) ++ [47]) ++ [35] := by
      rw [List.take_set_of_le (Nat.le_refl _)]
      by_cases q : i = 0
      · subst q; rfl
      · rw [if_neg q, joinL_snoc _ _ (List.ne_nil_of_length_pos (by rw [List.length_take]; omega))]
    have hup : ∀ k, (joinL ((L.set i [43]).take k)).length ≤ 101 * L.length := fun k => by
      have h1 := join_up ((L.set i [43]).take k) (fun y hy => hMe y (List.mem_of_mem_take hy))
      rw [List.length_take, hMl] at h1
      have : 101 * min k L.length ≤ 101 * L.length := Nat.mul_le_mul_left _ (Nat.min_le_right _ _)
      omega
    have hup2 : (joinL (L.take i ++ [[35]])).length ≤ 101 * (L.length + 1) := by
      have h1 := join_up (L.take i ++ [[35]]) (fun y hy => by
        rcases List.mem_append.1 hy with h | h
        · exact hel y (List.mem_of_mem_take h)
        · have : y = [35] := by simpa using h
          subst this; decide)
      rw [List.length_append, List.length_take] at h1
      have : 101 * (min i L.length + 1) ≤ 101 * (L.length + 1) := Nat.mul_le_mul_left _ (by omega)
      simp only [List.length_cons, List.length_nil] at h1
      omega
    have hjt : ∀ k, k < L.length → joinL ((L.set i [43]).take (k + 1)) = (if k = 0 then [] else joinL ((L.set i [43]).take k) ++ [47]) ++ (if k = i then [43] else L.getD k []) := fun k hk => by
      have e2 : L.getD k [] = L[k] := by rw [List.getD_eq_getElem?_getD, List.getElem?_eq_getElem hk]; rfl
      rw [e2, ← hMi k hk]
      by_cases q : k = 0
      · subst q
        rw [if_pos rfl]
        rw [List.nil_append]
        exact join_one _ (by rw [hMl]; exact hk)
      · rw [if_neg q, joinL_take _ k (by rw [hMl]; exact hk) (by omega)]
    generalize hMM : L.set i [43] = M at *
    generalize hGG : joinL (L.take i ++ [[35]]) = G at *
    have cF := fun W hM => match_any (bs (joinL M)) (bs x) W hM (by rw [bs_size]; have := hup M.length; rw [List.take_length] at this; omega) hsx
    have cG := fun W hM => match_any (bs G) (bs x) W hM (by rw [bs_size]; omega) hsx
    have cH := fun W hM => match_any (bs (x ++ [47, 35])) (bs x) W hM (by rw [bs_size]; simp; omega) hsx
    have cA := fun W hM => match_any (bs (x ++ [47, 97])) (bs x) W hM (by rw [bs_size]; simp; omega) hsx
    rw [bs_data, bs_data] at cF cG cH cA
    rw [m2] at cF
    rw [m3] at cG
    rw [m4] at cH
    rw [m5] at cA
    have HUP := Lib.hid hup
    have HJT := Lib.hid hjt
    have HG := Lib.hid hG
    have HEL := Lib.hid hel
    clear hup hjt hG hel hMe hMi m2 m3 m4 m5
    have hi0 : (0 : Int) ≤ (i : Int) := by omega
    have hLz : ((L.length : Int) == 0) = false := beq_eq_false_iff_ne.2 (by omega)
    have hLp' : (0 : Int) < (L.length : Int) := by omega
    go_enter Tryd.func5, Tryd.ntmps5
    go_wp2_with fail
    refine (known6_any _ hM).mono ?_
    rintro e w1 ⟨rfl, hb1⟩
    go_wp2_with fail
    refine (hps _ (HV.out.on hb1)).mono ?_
    rintro e w2 ⟨rfl, hb2⟩
    go_wp2_with fail
    refine (cN _).mono ?_
    rintro e w3 ⟨rfl, hb3⟩
    have B3 := thn (thn hb1 hb2) hb3
    clear hb1 hb2 hb3 hps cN HV
    go_wp2_with fail
    refine (hcl _ (hM.on B3)).mono ?_
    rintro e w4 ⟨g, hg, rfl, hrow, hb4⟩
    have B4 := thn B3 hb4
    clear hb4 B3 hcl
    have hcc : ∀ j (h : j < L.length), w4.cell? ⟨g, j, none⟩ = some (.string (bs (L.getD j []))) := fun j h => by
      rw [cell_of_row w4 g j _ _ _ hrow, lvs_get, List.getElem?_eq_getElem h, List.getD_eq_getElem?_getD, List.getElem?_eq_getElem h]; rfl
    have HC := Lib.hid hcc
    clear hcc hrow
    go_wp2_with fail

    go_loopw [8, 9, 10] (fun f q k wr => ∃ m : Nat, m ≤ L.length ∧ k = .int .i64 m ∧ f = .string (bs (joinL (M.take m))) ∧ q = .string (bs (GJ G i m)) ∧ w4 = wr) (fun _ _ k _ => L.length - (RowKit.intOf k).toNat)
    case atStart => exact ⟨0, Nat.zero_le _, rfl, rfl, by unfold GJ; rw [if_pos (Nat.zero_le _)]; rfl, rfl⟩
    case round =>
      obtain ⟨m, hm, rfl, rfl, rfl, rfl⟩ := hrel
      by_cases hlt : m < L.length
      · have hcm := HC.out m hlt
        have hjm := HJT.out m hlt
        have hpl := HUP.out m
        have hyl : (L.getD m []).length ≤ 100 := by
          rw [List.getD_eq_getElem?_getD, List.getElem?_eq_getElem hlt]
          exact HEL.out _ (List.getElem_mem hlt)
        have hml : (m : Int) < (L.length : Int) := by omega
        have hm0 : (0 : Int) ≤ (m : Int) := by omega
        generalize L.getD m [] = y at *
        generalize hp : joinL (M.take m) = p at *
        generalize hp1 : joinL (M.take (m + 1)) = p1 at *
        have HP1 := Lib.hid hp1
        have HP := Lib.hid hp
        clear hp1 hp
        by_cases hz : m = 0
        · have hgt : ¬ (0 : Int) < (m : Int) := by omega
          rw [if_pos hz] at hjm
          by_cases hmi : m = i
          · have hmie : ((m : Int) == (i : Int)) = true := beq_iff_eq.2 (by omega)
            rw [if_pos hmi] at hjm
            have hG2 : G = [] ++ [35] := by
              rw [HG.out, ← hmi, if_pos hz]
            have hp0 : p = [] := by rw [← HP.out, hz]; rfl
            subst hp0
            have e1 : bs [] ++ (⟨#[35]⟩ : ByteArray) = bs ([] ++ [35]) := bs_append _ [35]
            have e2 : bs [] ++ (⟨#[43]⟩ : ByteArray) = bs ([] ++ [43]) := bs_append _ [43]
            have z1 : (bs []).size + (⟨#[35]⟩ : ByteArray).size ≤ 9223372036854775807 := by rw [bs_size, show (⟨#[35]⟩ : ByteArray).size = 1 from rfl]; simp; try omega
            have z2 : (bs []).size + (⟨#[43]⟩ : ByteArray).size ≤ 9223372036854775807 := by rw [bs_size, show (⟨#[43]⟩ : ByteArray).size = 1 from rfl]; simp; try omega
            have HF := Lib.hid hjm
            have HG2 := Lib.hid hG2
            have HMI := Lib.hid hmi
            have hgj : Hid (GJ G i (m + 1) = G) := Lib.hid (by unfold GJ; rw [if_neg (by omega)])
            clear hjm hG2 hmi hz HP
            generalize hq : GJ G i m = q at *
            generalize hq1 : GJ G i (m + 1) = q1 at *
            clear hq
            go_wp2_with fail
            go_roundw
            case rel => exact ⟨m + 1, by omega, by go_num, by rw [HP1.out, HF.out]; try simp, by rw [hq1, hgj.out, HG2.out]; simp, trivial⟩
            case measure => (simp [RowKit.intOf]; try omega)
          · have hmie : ((m : Int) == (i : Int)) = false := beq_eq_false_iff_ne.2 (by omega)
            rw [if_neg hmi] at hjm
            have hp0 : p = [] := by rw [← HP.out, hz]; rfl
            subst hp0
            have e2 : bs [] ++ bs y = bs ([] ++ y) := bs_append _ _
            have z2 : (bs []).size + (bs y).size ≤ 9223372036854775807 := by rw [bs_size, bs_size]; simp; try omega
            have HF := Lib.hid hjm
            have hgj : Hid (GJ G i (m + 1) = GJ G i m) := Lib.hid (by unfold GJ; by_cases q : m ≤ i; rw [if_pos q, if_pos (by omega)]; rw [if_neg q, if_neg (by omega)])
            clear hjm hmi hz HP
            generalize hq : GJ G i m = q at *
            go_wp2_with fail
            go_roundw
            case rel => exact ⟨m + 1, by omega, by go_num, by rw [HP1.out, HF.out]; try simp, by rw [hgj.out], trivial⟩
            case measure => (simp [RowKit.intOf]; try omega)
        · have hgt : (0 : Int) < (m : Int) := by omega
          rw [if_neg hz] at hjm
          by_cases hmi : m = i
          · have hmie : ((m : Int) == (i : Int)) = true := beq_iff_eq.2 (by omega)
            rw [if_pos hmi] at hjm
            have hG2 : G = p ++ [47] ++ [35] := by
              rw [HG.out, ← hmi, if_neg hz, HP.out]
            have ec : bs p ++ (⟨#[47]⟩ : ByteArray) = bs (p ++ [47]) := bs_append p [47]
            have zc : (bs p).size + (⟨#[47]⟩ : ByteArray).size ≤ 9223372036854775807 := by rw [bs_size, show (⟨#[47]⟩ : ByteArray).size = 1 from rfl]; omega
            have e1 : bs (p ++ [47]) ++ (⟨#[35]⟩ : ByteArray) = bs ((p ++ [47]) ++ [35]) := bs_append _ [35]
            have e2 : bs (p ++ [47]) ++ (⟨#[43]⟩ : ByteArray) = bs ((p ++ [47]) ++ [43]) := bs_append _ [43]
            have z1 : (bs (p ++ [47])).size + (⟨#[35]⟩ : ByteArray).size ≤ 9223372036854775807 := by rw [bs_size, show (⟨#[35]⟩ : ByteArray).size = 1 from rfl]; simp; try omega
            have z2 : (bs (p ++ [47])).size + (⟨#[43]⟩ : ByteArray).size ≤ 9223372036854775807 := by rw [bs_size, show (⟨#[43]⟩ : ByteArray).size = 1 from rfl]; simp; try omega
            have HF := Lib.hid hjm
            have HG2 := Lib.hid hG2
            have HMI := Lib.hid hmi
            have hgj : Hid (GJ G i (m + 1) = G) := Lib.hid (by unfold GJ; rw [if_neg (by omega)])
            clear hjm hG2 hmi hz HP
            generalize hq : GJ G i m = q at *
            generalize hq1 : GJ G i (m + 1) = q1 at *
            clear hq
            go_wp2_with fail
            go_roundw
            case rel => exact ⟨m + 1, by omega, by go_num, by rw [HP1.out, HF.out]; try simp, by rw [hq1, hgj.out, HG2.out]; simp, trivial⟩
            case measure => (simp [RowKit.intOf]; try omega)
          · have hmie : ((m : Int) == (i : Int)) = false := beq_eq_false_iff_ne.2 (by omega)
            rw [if_neg hmi] at hjm
            have ec : bs p ++ (⟨#[47]⟩ : ByteArray) = bs (p ++ [47]) := bs_append p [47]
            have zc : (bs p).size + (⟨#[47]⟩ : ByteArray).size ≤ 9223372036854775807 := by rw [bs_size, show (⟨#[47]⟩ : ByteArray).size = 1 from rfl]; omega
            have e2 : bs (p ++ [47]) ++ bs y = bs ((p ++ [47]) ++ y) := bs_append _ _
            have z2 : (bs (p ++ [47])).size + (bs y).size ≤ 9223372036854775807 := by rw [bs_size, bs_size]; simp; try omega
            have HF := Lib.hid hjm
            have hgj : Hid (GJ G i (m + 1) = GJ G i m) := Lib.hid (by unfold GJ; by_cases q : m ≤ i; rw [if_pos q, if_pos (by omega)]; rw [if_neg q, if_neg (by omega)])
            clear hjm hmi hz HP
            generalize hq : GJ G i m = q at *
            go_wp2_with fail
            go_roundw
            case rel => exact ⟨m + 1, by omega, by go_num, by rw [HP1.out, HF.out]; try simp, by rw [hgj.out], trivial⟩
            case measure => (simp [RowKit.intOf]; try omega)
      · have hml : ¬ (m : Int) < (L.length : Int) := by omega
        have ef : bs (joinL (M.take m)) = bs (joinL M) := by rw [List.take_of_length_le (by omega)]
        have eg : bs (GJ G i m) = bs G := by unfold GJ; rw [if_neg (by omega)]
        have eh : bs x ++ (⟨#[47, 35]⟩ : ByteArray) = bs (x ++ [47, 35]) := bs_append x [47, 35]
        have ea : bs x ++ (⟨#[47, 97]⟩ : ByteArray) = bs (x ++ [47, 97]) := bs_append x [47, 97]
        have zh : (bs x).size + (⟨#[47, 35]⟩ : ByteArray).size ≤ 9223372036854775807 := by rw [show (⟨#[47, 35]⟩ : ByteArray).size = 2 from rfl]; omega
        have za : (bs x).size + (⟨#[47, 97]⟩ : ByteArray).size ≤ 9223372036854775807 := by rw [show (⟨#[47, 97]⟩ : ByteArray).size = 2 from rfl]; omega
        clear HUP HJT HG HEL HC
        have hM4 := hM.on B4
        by_cases hiz : 0 < i
        · have hgt : (0 : Int) < (i : Int) := by omega
          rw [show (decide (0 < i) || !d) = true by rw [decide_eq_true hiz]; rfl] at cF cG
          go_wp2_with fail
          refine (cMS _ hM4).mono ?_
          rintro e w5 ⟨rfl, hb5⟩
          have hM5 := hM4.on hb5
          go_wp2_with fail
          refine (cF _ hM5).mono ?_
          rintro e w6 ⟨rfl, hb6⟩
          have b6 := thn hb5 hb6
          clear hb6
          go_wp2_with fail
          refine (cG _ (hM4.on b6)).mono ?_
          rintro e w7 ⟨rfl, hb7⟩
          have b7 := thn b6 hb7
          clear hb7
          go_wp2_with fail
          refine (cH _ (hM4.on b7)).mono ?_
          rintro e w8 ⟨rfl, hb8⟩
          have b8 := thn b7 hb8
          clear hb8
          go_wp2_with fail
          refine (cA _ (hM4.on b8)).mono ?_
          rintro e w9 ⟨rfl, hb9⟩
          have b9 := thn b8 hb9
          clear hb9
          go_wp2_with fail
          go_ret
          exact ⟨rfl, thn B4 b9⟩
        · have hgt : ¬ (0 : Int) < (i : Int) := by omega
          rw [show (decide (0 < i) || !d) = !d by rw [decide_eq_false hiz]; rfl] at cF cG
          cases d
          · go_wp2_with fail
            refine (cMS _ hM4).mono ?_
            rintro e w5 ⟨rfl, hb5⟩
            have hM5 := hM4.on hb5
            go_wp2_with fail
            refine (cF _ hM5).mono ?_
            rintro e w6 ⟨rfl, hb6⟩
            have b6 := thn hb5 hb6
            clear hb6
            go_wp2_with fail
            refine (cG _ (hM4.on b6)).mono ?_
            rintro e w7 ⟨rfl, hb7⟩
            have b7 := thn b6 hb7
            clear hb7
            go_wp2_with fail
            refine (cH _ (hM4.on b7)).mono ?_
            rintro e w8 ⟨rfl, hb8⟩
            have b8 := thn b7 hb8
            clear hb8
            go_wp2_with fail
            refine (cA _ (hM4.on b8)).mono ?_
            rintro e w9 ⟨rfl, hb9⟩
            have b9 := thn b8 hb9
            clear hb9
            go_wp2_with fail
            go_ret
            exact ⟨rfl, thn B4 b9⟩
          · go_wp2_with fail
            refine (cMS _ hM4).mono ?_
            rintro e w5 ⟨rfl, hb5⟩
            have hM5 := hM4.on hb5
            go_wp2_with fail
            refine (cF _ hM5).mono ?_
            rintro e w6 ⟨rfl, hb6⟩
            have b6 := thn hb5 hb6
            clear hb6
            go_wp2_with fail
            refine (cG _ (hM4.on b6)).mono ?_
            rintro e w7 ⟨rfl, hb7⟩
            have b7 := thn b6 hb7
            clear hb7
            go_wp2_with fail
            refine (cH _ (hM4.on b7)).mono ?_
            rintro e w8 ⟨rfl, hb8⟩
            have b8 := thn b7 hb8
            clear hb8
            go_wp2_with fail
            refine (cA _ (hM4.on b8)).mono ?_
            rintro e w9 ⟨rfl, hb9⟩
            have b9 := thn b8 hb9
            clear hb9
            go_wp2_with fail
            go_ret
            exact ⟨rfl, thn B4 b9⟩
end Go.Proofs.YtdnbkllofbnpoaaDoor
