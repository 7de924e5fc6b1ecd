/- The document's Match and Within are the program's. -/
import Derived.Test.YtdnbkllofbnpoaaDoorTr4
namespace Go.Proofs.YtdnbkllofbnpoaaDoor
open Go.RowKit Go.Lib
set_option linter.unusedVariables false

theorem lev_mem (c : UInt8) : ∀ (l : List UInt8) (x : List UInt8), x ∈ lev l → c ∈ x → c ∈ l
  | [], x, hx, hc => by
    simp [lev] at hx; subst hx; exact hc
  | b :: t, x, hx, hc => by
    unfold lev at hx
    split at hx
    · rcases List.mem_cons.1 hx with rfl | hx
      · simp at hc
      · exact List.mem_cons_of_mem _ (lev_mem c t x hx hc)
    · rcases List.mem_cons.1 hx with rfl | hx
      · rcases List.mem_cons.1 hc with rfl | hc
        · simp
        · exact List.mem_cons_of_mem _ (lev_mem c t _ (by rw [lev_ht t]; simp) hc)
      · exact List.mem_cons_of_mem _ (lev_mem c t x (List.mem_of_mem_tail hx) hc)
theorem beqc {x y : List UInt8} : (x == y) = (y == x) := by rw [Bool.eq_iff_iff, beq_iff_eq, beq_iff_eq]; exact eq_comm

theorem rins_eq : ∀ (F N : List (List UInt8)), rins F N = covP N F
  | F, [] => by cases F <;> rfl
  | [], y :: N => by
    rw [rins, covP]
    cases y == [35] <;> rfl
  | x :: F, y :: N => by
    rw [rins, covP]
    rcases h35 : y == [35] with _ | _
    · show (if (x == [35] || (!(y == [43]) && !(x == y))) = true then false else rins F N) = (false || (covLev y x && covP N F))
      rw [rins_eq F N]
      unfold covLev
      rw [show (y == x) = (x == y) from beqc]
      rcases h : x == [35] with _ | _
      · cases y == [43] <;> cases x == y <;> cases covP N F <;> rfl
      · have hx := beq_iff_eq.1 h
        subst hx
        rw [show (([35] : List UInt8) == y) = (y == [35]) from beqc, h35]
        cases y == [43] <;> rfl
    · rfl
theorem rmat_eq : ∀ (F N : List (List UInt8)), (∀ y ∈ N, (y == [35]) = false) → rmat F N = covP F N
  | [], N, h => by cases N <;> rfl
  | x :: F, [], h => by
    rw [rmat, covP]
    cases x == [35] <;> rfl
  | x :: F, y :: N, h => by
    rw [rmat, covP]
    rcases h35 : x == [35] with _ | _
    · show ((x == [43] || x == y) && rmat F N) = (false || (covLev x y && covP F N))
      rw [rmat_eq F N (fun z hz => h z (List.mem_cons_of_mem _ hz))]
      unfold covLev
      rw [h y (by simp)]
      cases x == [43] <;> cases x == y <;> cases covP F N <;> rfl
    · rfl
theorem name_lev {n : List UInt8} (h : nameP n = true) : ∀ y ∈ lev n, (y == [35]) = false := by
  intro y hy
  apply beq_eq_false_iff_ne.2
  intro e
  subst e
  have hc := lev_mem 35 n [35] hy (by simp)
  unfold nameP wildP at h
  rw [Bool.and_eq_true] at h
  have h2 := h.2
  rw [Bool.not_eq_true', Bool.or_eq_false_iff] at h2
  have : n.contains 35 = true := by rw [List.contains_iff_mem]; exact hc
  rw [this] at h2
  exact absurd h2.2 (by simp)
/-- A filter's first byte tells whether its first level is a plus or a number sign. -/
theorem wild_first (c : UInt8) (t : List UInt8) (h : filtP (c :: t) = true) : wildP ((lev (c :: t)).headD []) = (c == 43 || c == 35) := by
  unfold filtP at h
  rw [Bool.and_eq_true] at h
  have h2 := h.2
  have hh : (lev (c :: t)).headD [] = if c = 47 then [] else c :: (lev t).headD [] := by
    rw [lev]
    by_cases q : c = 47
    · rw [if_pos q, if_pos q]; rfl
    · rw [if_neg q, if_neg q]; rfl
  rw [lev_ht (c :: t)] at h2
  unfold fitsAll at h2
  rw [Bool.and_eq_true] at h2
  have hf := h2.1
  generalize (lev (c :: t)).headD [] = x at *
  unfold fitsP at hf
  rw [Bool.and_eq_true, Bool.not_eq_true', Bool.not_eq_true'] at hf
  unfold wildP
  by_cases h47 : c = 47
  · subst h47
    rw [if_pos rfl] at hh
    subst hh
    rfl
  · rw [if_neg h47] at hh
    by_cases h43 : c = 43
    · subst h43; subst hh; simp
    · by_cases h35 : c = 35
      · subst h35; subst hh; simp
      · have e1 : x.contains 43 = false := by
          rcases q : x.contains 43 with _ | _
          · rfl
          · have := hf.1
            rw [q, Bool.true_and, Bool.not_eq_false', beq_iff_eq] at this
            rw [this] at hh
            simp at hh
            exact absurd hh.1.symm h43
        have e2 : x.contains 35 = false := by
          rcases q : x.contains 35 with _ | _
          · rfl
          · have := hf.2
            rw [q, Bool.true_and, Bool.or_eq_false_iff, Bool.not_eq_false', beq_iff_eq] at this
            rw [this.1] at hh
            simp at hh
            exact absurd hh.1.symm h35
        rw [e1, e2, beq_eq_false_iff_ne.2 h43, beq_eq_false_iff_ne.2 h35]
theorem text_ne {l : List UInt8} (h : textP l = true) : ∃ c t, l = c :: t := by
  cases l with
  | nil => simp [textP] at h
  | cons c t => exact ⟨c, t, rfl⟩
theorem name_text {l : List UInt8} (h : nameP l = true) : textP l = true := by unfold nameP at h; rw [Bool.and_eq_true] at h; exact h.1
theorem filt_text {l : List UInt8} (h : filtP l = true) : textP l = true := by unfold filtP at h; rw [Bool.and_eq_true] at h; exact h.1
theorem dol_cons (c : UInt8) (t : List UInt8) : dolP (c :: t) = (c == 36) := by
  unfold dolP
  simp only [List.take_succ_cons, List.take_zero]
  rw [Bool.eq_iff_iff, beq_iff_eq, beq_iff_eq]; simp

theorem first_of (s : ByteArray) (h : textP s.data.toList = true) : ∃ (h0 : 0 < s.size) (t : List UInt8), s.data.toList = s[0] :: t := by
  obtain ⟨c, t, he⟩ := text_ne h
  have h0 : 0 < s.size := by rw [← size_list, he]; simp
  refine ⟨h0, s.data.toList.drop 1, ?_⟩
  have := drop_at s 0 h0
  rwa [List.drop_zero] at this
theorem byte_eqL (b : UInt8) (n : Nat) (h : n < 256) : ((b.toNat : Int) == (n : Int)) = (b == UInt8.ofNat n) := by
  rw [Bool.eq_iff_iff, beq_iff_eq, beq_iff_eq]
  constructor
  · intro e
    apply UInt8.toNat_inj.1
    rw [ofNat_toNat h]
    omega
  · intro e
    subst e
    rw [ofNat_toNat h]

set_option maxRecDepth 100000 in
set_option maxHeartbeats 4000000 in
theorem rmatch_any (f s : ByteArray) (w : World) (hf : f.size ≤ 1000000) (hs : s.size ≤ 1000000) :
    Calls Tryd.prog 20 #[.string f, .string s] w fun e w' => e = .returned (.bool (matchP f.data.toList s.data.toList)) ∧ Below w.heap.size w w' := by
  have c1 := fun W => rfilter_any f W hf
  have c2 := fun W => rname_any s W hs
  have R := Lib.hid (show matchP f.data.toList s.data.toList = (filtP f.data.toList && nameP s.data.toList && coversP f.data.toList s.data.toList) from rfl)
  rcases h1 : filtP f.data.toList with _ | _
  · rw [h1] at c1 R
    clear h1
    go_enter Tryd.func20, Tryd.ntmps20
    go_wp2_with (go_at_call 15; refine (c1 _).mono ?_; rintro e w1 ⟨rfl, hb1⟩)
    go_ret
    exact ⟨ret_bool (by rw [R.out]; rfl), hb1⟩
  · rcases h2 : nameP s.data.toList with _ | _
    · rw [h1] at c1 R
      rw [h2] at c2 R
      clear h1 h2
      go_enter Tryd.func20, Tryd.ntmps20
      go_wp2_with (first
        | (go_at_call 15; refine (c1 _).mono ?_; rintro e w1 ⟨rfl, hb1⟩)
        | (go_at_call 13; refine (c2 _).mono ?_; rintro e w2 ⟨rfl, hb2⟩))
      go_ret
      exact ⟨ret_bool (by rw [R.out]; rfl), thn hb1 hb2⟩
    · obtain ⟨f0, ft, hft⟩ := first_of f (filt_text h1)
      obtain ⟨s0, st, hst⟩ := first_of s (name_text h2)
      have hcov : Hid (coversP f.data.toList s.data.toList = (!((s[0] == 36) && (f[0] == 43 || f[0] == 35)) && rmat (lev f.data.toList) (lev s.data.toList))) := Lib.hid (by
        unfold coversP
        rw [rmat_eq _ _ (name_lev h2), hft, wild_first _ _ (by rw [← hft]; exact h1), hst, dol_cons])
      rw [h1] at c1 R
      rw [h2] at c2 R
      have b36 := byte_eqL s[0] 36 (by decide)
      have b43 := byte_eqL f[0] 43 (by decide)
      have b35 := byte_eqL f[0] 35 (by decide)
      have hLf := fun W => rlev_any f W hf
      have hLs := fun W => rlev_any s W hs
      have lf := lev_le f.data.toList
      have ls := lev_le s.data.toList
      have pf := lev_pos f.data.toList
      have ps := lev_pos s.data.toList
      rw [size_list] at lf ls
      have hmt := fun vf vn W q1 q2 => rmat_any (lev f.data.toList) (lev s.data.toList) vf vn W (by omega) (by omega) q1 q2
      have f0' : (0 : Int) < (f.size : Int) := by omega
      have s0' : (0 : Int) < (s.size : Int) := by omega
      clear h1 h2 hft hst
      generalize lev f.data.toList = F at *
      generalize lev s.data.toList = S at *
      rw [show UInt8.ofNat 36 = 36 from rfl] at b36
      rw [show UInt8.ofNat 43 = 43 from rfl] at b43
      rw [show UInt8.ofNat 35 = 35 from rfl] at b35
      have b36 : ((s[0].toNat : Int) == 36) = (s[0] == 36) := b36
      have b43 : ((f[0].toNat : Int) == 43) = (f[0] == 43) := b43
      have b35 : ((f[0].toNat : Int) == 35) = (f[0] == 35) := b35
      generalize (s[0] == 36) = d at *
      generalize (f[0] == 43) = p at *
      generalize (f[0] == 35) = q at *
      by_cases hz : (d && (p || q)) = true
      · have hd : d = true := by cases d <;> simp_all
        subst hd
        rw [Bool.true_and] at hz
        cases p <;> cases q
        · simp at hz
        all_goals
          go_enter Tryd.func20, Tryd.ntmps20
          go_wp2_with (first
            | (go_at_call 15; refine (c1 _).mono ?_; rintro e w1 ⟨rfl, hb1⟩)
            | (go_at_call 13; refine (c2 _).mono ?_; rintro e w2 ⟨rfl, hb2⟩))
          go_ret
          exact ⟨ret_bool (by rw [R.out, hcov.out]; rfl), thn hb1 hb2⟩
      · have hz' : (d && (p || q)) = false := by simpa using hz
        have R2 := Lib.hid (show matchP f.data.toList s.data.toList = rmat F S by rw [R.out, hcov.out, hz']; rfl)
        clear R hcov hz
        have main : ∀ w2 : World, Below w.heap.size w w2 → Calls Tryd.prog 18 #[.string f] w2 fun e w' => ∃ v, e = .returned v ∧ w'.ownsRow w2.heap.size 9 1 v F.length (lvs F) ∧ Below w2.heap.size w2 w' := fun w2 _ => hLf w2
        clear main
        cases d <;> cases p <;> cases q
        all_goals first | (exact absurd hz' (by decide)) | skip
        all_goals
          go_enter Tryd.func20, Tryd.ntmps20
          go_wp2_with (first
            | (go_at_call 15; refine (c1 _).mono ?_; rintro e w1 ⟨rfl, hb1⟩)
            | (go_at_call 13; refine (c2 _).mono ?_; rintro e w2 ⟨rfl, hb2⟩)
            | (go_at_call_of 18 (Value.string f); fail)
            | (go_at_call 18; fail))
          refine (hLf _).mono ?_
          rintro e w3 ⟨v3, rfl, ho3, hb3⟩
          have T3 := tx_of_own ho3 rfl (by omega)
          go_wp2_with fail
          refine (hLs _).mono ?_
          rintro e w4 ⟨v4, rfl, ho4, hb4⟩
          have T4 := tx_of_own ho4 rfl (by omega)
          go_wp2_with fail
          refine (hmt _ _ _ (T3.below hb4) T4).mono ?_
          rintro e w5 ⟨rfl, hb5⟩
          go_wp2_with fail
          go_ret
          exact ⟨ret_bool R2.out.symm, thn (thn (thn (thn hb1 hb2) hb3) hb4) hb5⟩

set_option maxRecDepth 100000 in
set_option maxHeartbeats 4000000 in
theorem rwithin_any (f s : ByteArray) (w : World) (hf : f.size ≤ 1000000) (hs : s.size ≤ 1000000) :
    Calls Tryd.prog 22 #[.string f, .string s] w fun e w' => e = .returned (.bool (withinP f.data.toList s.data.toList)) ∧ Below w.heap.size w w' := by
  have c1 := fun W => rfilter_any f W hf
  have c2 := fun W => rfilter_any s W hs
  have R := Lib.hid (show withinP f.data.toList s.data.toList = (filtP f.data.toList && filtP s.data.toList && coversP s.data.toList f.data.toList) from rfl)
  rcases h1 : filtP f.data.toList with _ | _
  · rw [h1] at c1 R
    clear h1
    go_enter Tryd.func22, Tryd.ntmps22
    go_wp2_with fail
    refine (c1 _).mono ?_
    rintro e w1 ⟨rfl, hb1⟩
    go_wp2_with fail
    go_ret
    exact ⟨ret_bool (by rw [R.out]; rfl), hb1⟩
  · rcases h2 : filtP s.data.toList with _ | _
    · rw [h1] at c1 R
      rw [h2] at c2 R
      clear h1 h2
      go_enter Tryd.func22, Tryd.ntmps22
      go_wp2_with fail
      refine (c1 _).mono ?_
      rintro e w1 ⟨rfl, hb1⟩
      go_wp2_with fail
      refine (c2 _).mono ?_
      rintro e w2 ⟨rfl, hb2⟩
      go_wp2_with fail
      go_ret
      exact ⟨ret_bool (by rw [R.out]; rfl), thn hb1 hb2⟩
    · obtain ⟨f0, ft, hft⟩ := first_of f (filt_text h1)
      obtain ⟨s0, st, hst⟩ := first_of s (filt_text h2)
      have hcov : Hid (coversP s.data.toList f.data.toList = (!((f[0] == 36) && (s[0] == 43 || s[0] == 35)) && rins (lev f.data.toList) (lev s.data.toList))) := Lib.hid (by
        unfold coversP
        rw [rins_eq, hst, wild_first _ _ (by rw [← hst]; exact h2), hft, dol_cons])
      rw [h1] at c1 R
      rw [h2] at c2 R
      have b36 := byte_eqL f[0] 36 (by decide)
      have b43 := byte_eqL s[0] 43 (by decide)
      have b35 := byte_eqL s[0] 35 (by decide)
      have hLf := fun W => rlev_any f W hf
      have hLs := fun W => rlev_any s W hs
      have lf := lev_le f.data.toList
      have ls := lev_le s.data.toList
      have pf := lev_pos f.data.toList
      have ps := lev_pos s.data.toList
      rw [size_list] at lf ls
      have hmt := fun vf vn W q1 q2 => rins_any (lev f.data.toList) (lev s.data.toList) vf vn W (by omega) (by omega) q1 q2
      have f0' : (0 : Int) < (f.size : Int) := by omega
      have s0' : (0 : Int) < (s.size : Int) := by omega
      clear h1 h2 hft hst
      generalize lev f.data.toList = F at *
      generalize lev s.data.toList = S at *
      rw [show UInt8.ofNat 36 = 36 from rfl] at b36
      rw [show UInt8.ofNat 43 = 43 from rfl] at b43
      rw [show UInt8.ofNat 35 = 35 from rfl] at b35
      have b36 : ((f[0].toNat : Int) == 36) = (f[0] == 36) := b36
      have b43 : ((s[0].toNat : Int) == 43) = (s[0] == 43) := b43
      have b35 : ((s[0].toNat : Int) == 35) = (s[0] == 35) := b35
      generalize (f[0] == 36) = d at *
      generalize (s[0] == 43) = p at *
      generalize (s[0] == 35) = q at *
      by_cases hz : (d && (p || q)) = true
      · have hd : d = true := by cases d <;> simp_all
        subst hd
        rw [Bool.true_and] at hz
        cases p <;> cases q
        · simp at hz
        all_goals
          go_enter Tryd.func22, Tryd.ntmps22
          go_wp2_with fail
          refine (c1 _).mono ?_
          rintro e w1 ⟨rfl, hb1⟩
          go_wp2_with fail
          refine (c2 _).mono ?_
          rintro e w2 ⟨rfl, hb2⟩
          go_wp2_with fail
          go_ret
          exact ⟨ret_bool (by rw [R.out, hcov.out]; rfl), thn hb1 hb2⟩
      · have hz' : (d && (p || q)) = false := by simpa using hz
        have R2 := Lib.hid (show withinP f.data.toList s.data.toList = rins F S by rw [R.out, hcov.out, hz']; rfl)
        clear R hcov hz
        cases d <;> cases p <;> cases q
        all_goals first | (exact absurd hz' (by decide)) | skip
        all_goals
          go_enter Tryd.func22, Tryd.ntmps22
          go_wp2_with fail
          refine (c1 _).mono ?_
          rintro e w1 ⟨rfl, hb1⟩
          go_wp2_with fail
          refine (c2 _).mono ?_
          rintro e w2 ⟨rfl, hb2⟩
          go_wp2_with fail
          refine (hLf _).mono ?_
          rintro e w3 ⟨v3, rfl, ho3, hb3⟩
          have T3 := tx_of_own ho3 rfl (by omega)
          go_wp2_with fail
          refine (hLs _).mono ?_
          rintro e w4 ⟨v4, rfl, ho4, hb4⟩
          have T4 := tx_of_own ho4 rfl (by omega)
          go_wp2_with fail
          refine (hmt _ _ _ (T3.below hb4) T4).mono ?_
          rintro e w5 ⟨rfl, hb5⟩
          go_wp2_with fail
          go_ret
          exact ⟨ret_bool R2.out.symm, thn (thn (thn (thn hb1 hb2) hb3) hb4) hb5⟩
end Go.Proofs.YtdnbkllofbnpoaaDoor
