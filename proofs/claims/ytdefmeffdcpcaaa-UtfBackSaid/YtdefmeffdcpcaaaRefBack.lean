/- What the document's Back comes to. -/
import Derived.Test.YtdefmeffdcpcaaaRefPlace
import Derived.Test.YtdefmeffdcpcaaaMixed
namespace Go.Proofs.Ytdefmeffdcpcaaa
open Go.RowKit Go.Lib

theorem lit_cells (w : World) (t : TypeId) (news : List Value) (C : Array Value) (hC : C = news.toArray) : ∀ j u, news[j]? = some u → (w.alloc (.cells C t)).cell? (Addr.add ⟨w.heap.size, 0, none⟩ j) = some u := by
  intro j u hj
  rw [show (Addr.add ⟨w.heap.size, 0, none⟩ j) = ⟨w.heap.size, j, none⟩ by simp [Addr.add]; exact fun h => h.symm]
  rw [cell_of_row (w.alloc (.cells C t)) w.heap.size j C t (0, 0) (heap_alloc_new w _), hC]
  simpa using hj

/-- The bytes of runes. -/
def flatE (l : List Int) : List UInt8 := l.flatMap encL

theorem back_step (l : List Int) (k : Nat) (h : k < l.length) : flatE (l.take (k + 1)) = flatE (l.take k) ++ encL l[k] := by
  unfold flatE
  rw [List.take_succ_eq_append_getElem h, List.flatMap_append]
  simp
theorem take_flat_len (l : List Int) (k : Nat) : (flatE (l.take k)).length ≤ 4 * l.length := by
  have h := flat_len (l.take k)
  unfold flatE
  rw [List.length_take] at h
  omega

theorem i32_and63 (x : Int) (h0 : 0 ≤ x) (h1 : x ≤ 1114111) : bits .and .i32 x 63 = x % 64 := by
  obtain ⟨n, rfl⟩ := Int.eq_ofNat_of_zero_le h0
  show IntKind.i32.wrap ((BitVec.ofInt 32 (n : Int) &&& BitVec.ofInt 32 63).toNat : Int) = _
  have e : (BitVec.ofInt 32 (n : Int)).toNat = n := by rw [BitVec.ofInt_natCast, BitVec.toNat_ofNat]; exact Nat.mod_eq_of_lt (by omega)
  have e2 : (BitVec.ofInt 32 63).toNat = 63 := by decide
  rw [BitVec.toNat_and, e, e2, show n &&& 63 = n % 64 from Nat.and_two_pow_sub_one_eq_mod n 6, IntKind.wrap_i32]
  omega
theorem i32_or128 : ∀ y : Fin 64, bits .or .i32 128 (y.val : Int) = 128 + (y.val : Int) := by decide +kernel
theorem i32_or224 : ∀ y : Fin 16, bits .or .i32 224 (y.val : Int) = 224 + (y.val : Int) := by decide +kernel
theorem i32_or240 : ∀ y : Fin 8, bits .or .i32 240 (y.val : Int) = 240 + (y.val : Int) := by decide +kernel
theorem low6 (x : Int) (h0 : 0 ≤ x) (h1 : x ≤ 1114111) : bits .or .i32 128 (bits .and .i32 x 63) % 256 = 128 + x % 64 := by
  rw [i32_and63 x h0 h1]
  have h := i32_or128 ⟨(x % 64).toNat, by omega⟩
  simp only [Int.toNat_of_nonneg (show 0 ≤ x % 64 by omega)] at h
  rw [h]
  omega
theorem top3 (y : Int) (h0 : 0 ≤ y) (h1 : y < 16) : bits .or .i32 224 y % 256 = 224 + y := by
  have h := i32_or224 ⟨y.toNat, by omega⟩
  simp only [Int.toNat_of_nonneg h0] at h
  rw [h]
  omega
theorem top4 (y : Int) (h0 : 0 ≤ y) (h1 : y < 8) : bits .or .i32 240 y % 256 = 240 + y := by
  have h := i32_or240 ⟨y.toNat, by omega⟩
  simp only [Int.toNat_of_nonneg h0] at h
  rw [h]
  omega
theorem encV1 (x : Int) (h0 : 0 ≤ x) (h : x ≤ 127) : byteCells (encL x) = [.int .u8 x] := by
  obtain ⟨r, rfl⟩ := Int.eq_ofNat_of_zero_le h0
  rw [enc1 r (by omega)]
  show [Value.int .u8 ((UInt8.ofNat r).toNat : Int)] = _
  rw [ofNat_toNat (by omega)]
theorem encV2 (x : Int) (h0 : 128 ≤ x) (h : x ≤ 2047) : byteCells (encL x) = [.int .u8 (192 + x / 64), .int .u8 (bits .or .i32 128 (bits .and .i32 x 63) % 256)] := by
  rw [low6 x (by omega) (by omega)]
  obtain ⟨r, rfl⟩ := Int.eq_ofNat_of_zero_le (show 0 ≤ x by omega)
  rw [enc2 r (by omega) (by omega)]
  show [Value.int .u8 ((UInt8.ofNat (192 + r / 64)).toNat : Int), Value.int .u8 ((UInt8.ofNat (128 + r % 64)).toNat : Int)] = _
  rw [ofNat_toNat (by omega), ofNat_toNat (by omega)]
  rfl
theorem encV3 (x : Int) (h0 : 2048 ≤ x) (h : x ≤ 65535) (hs : x ≤ 55295 ∨ 57344 ≤ x) : byteCells (encL x) = [.int .u8 (bits .or .i32 224 (x / 4096) % 256), .int .u8 (bits .or .i32 128 (bits .and .i32 (x / 64) 63) % 256), .int .u8 (bits .or .i32 128 (bits .and .i32 x 63) % 256)] := by
  rw [low6 x (by omega) (by omega), low6 (x / 64) (by omega) (by omega), top3 (x / 4096) (by omega) (by omega)]
  obtain ⟨r, rfl⟩ := Int.eq_ofNat_of_zero_le (show 0 ≤ x by omega)
  rw [enc3 r (by omega) (by omega) (by omega)]
  show [Value.int .u8 ((UInt8.ofNat (224 + r / 4096)).toNat : Int), Value.int .u8 ((UInt8.ofNat (128 + r / 64 % 64)).toNat : Int), Value.int .u8 ((UInt8.ofNat (128 + r % 64)).toNat : Int)] = _
  rw [ofNat_toNat (by omega), ofNat_toNat (by omega), ofNat_toNat (by omega)]
  rfl
theorem encV4 (x : Int) (h0 : 65536 ≤ x) (h : x ≤ 1114111) : byteCells (encL x) = [.int .u8 (bits .or .i32 240 (x / 262144) % 256), .int .u8 (bits .or .i32 128 (bits .and .i32 (x / 4096) 63) % 256), .int .u8 (bits .or .i32 128 (bits .and .i32 (x / 64) 63) % 256), .int .u8 (bits .or .i32 128 (bits .and .i32 x 63) % 256)] := by
  rw [low6 x (by omega) (by omega), low6 (x / 64) (by omega) (by omega), low6 (x / 4096) (by omega) (by omega), top4 (x / 262144) (by omega) (by omega)]
  obtain ⟨r, rfl⟩ := Int.eq_ofNat_of_zero_le (show 0 ≤ x by omega)
  rw [enc4 r (by omega) (by omega)]
  show [Value.int .u8 ((UInt8.ofNat (240 + r / 262144)).toNat : Int), Value.int .u8 ((UInt8.ofNat (128 + r / 4096 % 64)).toNat : Int), Value.int .u8 ((UInt8.ofNat (128 + r / 64 % 64)).toNat : Int), Value.int .u8 ((UInt8.ofNat (128 + r % 64)).toNat : Int)] = _
  rw [ofNat_toNat (by omega), ofNat_toNat (by omega), ofNat_toNat (by omega), ofNat_toNat (by omega)]
  rfl
theorem encV_bad (x : Int) (h : x < 0 ∨ (55296 ≤ x ∧ x ≤ 57343) ∨ 1114111 < x) : byteCells (encL x) = [.int .u8 239, .int .u8 191, .int .u8 189] := by
  rw [encBad x h]
  rfl

set_option maxRecDepth 100000 in
set_option maxHeartbeats 4000000 in
theorem rback_some (ad : Addr) (c : Nat) (l : List Int) (w : World) (hB : l ≠ [] → ad.block < w.heap.size) (hl : l.length ≤ 1000) (hx : ∀ (j : Nat) (x : Int), l[j]? = some x → w.cell? (ad.add j) = some (.int .i32 x)) :
    Calls Try.prog 22 #[.slice (some ad) l.length c] w fun e w' => e = .returned (.string (runesBytes l)) ∧ Below w.heap.size w w' := by
  obtain ⟨i0, hi, hz0, hz1, hz2⟩ := info_parts Try.info5
  have HX := Lib.hid hx
  clear hx
  go_enter Try.func22, Try.ntmps22
  go_wp2
  go_loopw [3, 4] (fun v i wr => ∃ k : Nat, k ≤ l.length ∧ i = .int .i64 k ∧ wr.ownsRow w.heap.size 5 1 v (flatE (l.take k)).length (byteCells (flatE (l.take k))) ∧ Below w.heap.size w wr) (fun _ i _ => l.length - (intOf i).toNat)
  case atStart => exact ⟨0, Nat.zero_le _, rfl, World.ownsRow_nil _ _ _ _, Below.refl _ _⟩
  case round =>
    obtain ⟨k, hk, rfl, hown, hbw⟩ := hrel
    by_cases hlt : k < l.length
    · have hcell : wr.cell? (ad.add k) = some (.int .i32 l[k]) := by
        rw [hbw.cell (p := ad.add k) (by
          have := hB (by intro e; rw [e] at hlt; simp at hlt)
          simpa [Addr.add] using (by split <;> exact this))]
        exact HX.out k _ (List.getElem?_eq_getElem hlt)
      have hstep := Lib.hid (back_step l k hlt)
      have hfl := take_flat_len l k
      have hbs := hbw.size
      generalize l[k] = x at *
      by_cases q0 : x < 0
      · have q0' : x + 1 ≤ 0 := by omega
        have hen := encV_bad x (by omega)
        have HEN := Lib.hid hen
        have hel : (encL x).length = 3 := by
          have := congrArg List.length hen
          rw [byteCells_length] at this
          exact this
        have HEL := Lib.hid hel
        clear hen hel
        go_wp2_with (at_builtin; go_must (refine wpList_append_own _ rfl _ _ 22 rfl w.heap.size 5 i0 (.int .u8 0) 1 1 Try.underlying22 hi hz0 hz1 hz2 rfl (by decide) _ _ _ rfl (hown.alloc _) ⟨wr.heap.size, 0, none⟩ 3 3 [.int .u8 (239), .int .u8 (191), .int .u8 (189)] rfl rfl (lit_cells _ _ _ _ rfl) (by simp [Value.oneCell']) (by unfold maxLen; omega) (by omega) (by simp; omega) ?_))
        intro v' w2 hown2 hgrow _
        go_wp2_with fail
        go_roundw
        case rel =>
          refine ⟨k + 1, by omega, by go_num, ?_, (hbw.alloc hbs _).grown hgrow (by simp; omega) (fun g hg => (hown.lt g hg).1)⟩
          rw [hstep.out, List.length_append, byteCells_append, HEL.out, HEN.out]
          exact hown2
        case measure => simp [intOf]; omega
      by_cases q4 : x ≤ 1114111
      · by_cases q1 : x ≤ 127
        · have p1 : 0 ≤ x := by omega
          clear q0
          have hen := encV1 x (by omega) q1
          have HEN := Lib.hid hen
          have hel : (encL x).length = 1 := by
            have := congrArg List.length hen
            rw [byteCells_length] at this
            exact this
          have HEL := Lib.hid hel
          clear hen hel
          go_wp2_with (at_builtin; go_must (refine wpList_append_own _ rfl _ _ 22 rfl w.heap.size 5 i0 (.int .u8 0) 1 1 Try.underlying22 hi hz0 hz1 hz2 rfl (by decide) _ _ _ rfl (hown.alloc _) ⟨wr.heap.size, 0, none⟩ 1 1 [.int .u8 (x)] rfl rfl (lit_cells _ _ _ _ rfl) (by simp [Value.oneCell']) (by unfold maxLen; omega) (by omega) (by simp; omega) ?_))
          intro v' w2 hown2 hgrow _
          go_wp2_with fail
          go_roundw
          case rel =>
            refine ⟨k + 1, by omega, by go_num, ?_, (hbw.alloc hbs _).grown hgrow (by simp; omega) (fun g hg => (hown.lt g hg).1)⟩
            rw [hstep.out, List.length_append, byteCells_append, HEL.out, HEN.out]
            exact hown2
          case measure => simp [intOf]; omega
        by_cases q2 : x ≤ 2047
        · have p1 : 128 ≤ x := by omega
          clear q0 q1
          have hen := encV2 x p1 q2
          have HEN := Lib.hid hen
          have hel : (encL x).length = 2 := by
            have := congrArg List.length hen
            rw [byteCells_length] at this
            exact this
          have HEL := Lib.hid hel
          clear hen hel
          go_wp2_with (at_builtin; go_must (refine wpList_append_own _ rfl _ _ 22 rfl w.heap.size 5 i0 (.int .u8 0) 1 1 Try.underlying22 hi hz0 hz1 hz2 rfl (by decide) _ _ _ rfl (hown.alloc _) ⟨wr.heap.size, 0, none⟩ 2 2 [.int .u8 (192 + x / 64), .int .u8 (bits .or .i32 128 (bits .and .i32 x 63) % 256)] rfl rfl (lit_cells _ _ _ _ rfl) (by simp [Value.oneCell']) (by unfold maxLen; omega) (by omega) (by simp; omega) ?_))
          intro v' w2 hown2 hgrow _
          go_wp2_with fail
          go_roundw
          case rel =>
            refine ⟨k + 1, by omega, by go_num, ?_, (hbw.alloc hbs _).grown hgrow (by simp; omega) (fun g hg => (hown.lt g hg).1)⟩
            rw [hstep.out, List.length_append, byteCells_append, HEL.out, HEN.out]
            exact hown2
          case measure => simp [intOf]; omega
        by_cases q3 : x ≤ 55295
        · have p1 : 2048 ≤ x := by omega
          clear q0 q1 q2
          have hen := encV3 x p1 (by omega) (by omega)
          have HEN := Lib.hid hen
          have hel : (encL x).length = 3 := by
            have := congrArg List.length hen
            rw [byteCells_length] at this
            exact this
          have HEL := Lib.hid hel
          clear hen hel
          go_wp2_with (at_builtin; go_must (refine wpList_append_own _ rfl _ _ 22 rfl w.heap.size 5 i0 (.int .u8 0) 1 1 Try.underlying22 hi hz0 hz1 hz2 rfl (by decide) _ _ _ rfl (hown.alloc _) ⟨wr.heap.size, 0, none⟩ 3 3 [.int .u8 (bits .or .i32 224 (x / 4096) % 256), .int .u8 (bits .or .i32 128 (bits .and .i32 (x / 64) 63) % 256), .int .u8 (bits .or .i32 128 (bits .and .i32 x 63) % 256)] rfl rfl (lit_cells _ _ _ _ rfl) (by simp [Value.oneCell']) (by unfold maxLen; omega) (by omega) (by simp; omega) ?_))
          intro v' w2 hown2 hgrow _
          go_wp2_with fail
          go_roundw
          case rel =>
            refine ⟨k + 1, by omega, by go_num, ?_, (hbw.alloc hbs _).grown hgrow (by simp; omega) (fun g hg => (hown.lt g hg).1)⟩
            rw [hstep.out, List.length_append, byteCells_append, HEL.out, HEN.out]
            exact hown2
          case measure => simp [intOf]; omega
        by_cases q5 : x ≤ 57343
        · have p1 : 55296 ≤ x := by omega
          clear q0 q1 q2 q3
          have hen := encV_bad x (by omega)
          have HEN := Lib.hid hen
          have hel : (encL x).length = 3 := by
            have := congrArg List.length hen
            rw [byteCells_length] at this
            exact this
          have HEL := Lib.hid hel
          clear hen hel
          go_wp2_with (at_builtin; go_must (refine wpList_append_own _ rfl _ _ 22 rfl w.heap.size 5 i0 (.int .u8 0) 1 1 Try.underlying22 hi hz0 hz1 hz2 rfl (by decide) _ _ _ rfl (hown.alloc _) ⟨wr.heap.size, 0, none⟩ 3 3 [.int .u8 (239), .int .u8 (191), .int .u8 (189)] rfl rfl (lit_cells _ _ _ _ rfl) (by simp [Value.oneCell']) (by unfold maxLen; omega) (by omega) (by simp; omega) ?_))
          intro v' w2 hown2 hgrow _
          go_wp2_with fail
          go_roundw
          case rel =>
            refine ⟨k + 1, by omega, by go_num, ?_, (hbw.alloc hbs _).grown hgrow (by simp; omega) (fun g hg => (hown.lt g hg).1)⟩
            rw [hstep.out, List.length_append, byteCells_append, HEL.out, HEN.out]
            exact hown2
          case measure => simp [intOf]; omega
        by_cases q6 : x ≤ 65535
        · have p1 : 57344 ≤ x := by omega
          clear q0 q1 q2 q3 q5
          have hen := encV3 x (by omega) q6 (by omega)
          have HEN := Lib.hid hen
          have hel : (encL x).length = 3 := by
            have := congrArg List.length hen
            rw [byteCells_length] at this
            exact this
          have HEL := Lib.hid hel
          clear hen hel
          go_wp2_with (at_builtin; go_must (refine wpList_append_own _ rfl _ _ 22 rfl w.heap.size 5 i0 (.int .u8 0) 1 1 Try.underlying22 hi hz0 hz1 hz2 rfl (by decide) _ _ _ rfl (hown.alloc _) ⟨wr.heap.size, 0, none⟩ 3 3 [.int .u8 (bits .or .i32 224 (x / 4096) % 256), .int .u8 (bits .or .i32 128 (bits .and .i32 (x / 64) 63) % 256), .int .u8 (bits .or .i32 128 (bits .and .i32 x 63) % 256)] rfl rfl (lit_cells _ _ _ _ rfl) (by simp [Value.oneCell']) (by unfold maxLen; omega) (by omega) (by simp; omega) ?_))
          intro v' w2 hown2 hgrow _
          go_wp2_with fail
          go_roundw
          case rel =>
            refine ⟨k + 1, by omega, by go_num, ?_, (hbw.alloc hbs _).grown hgrow (by simp; omega) (fun g hg => (hown.lt g hg).1)⟩
            rw [hstep.out, List.length_append, byteCells_append, HEL.out, HEN.out]
            exact hown2
          case measure => simp [intOf]; omega
        · have p1 : 65536 ≤ x := by omega
          clear q0 q1 q2 q3 q5 q6
          have hen := encV4 x p1 q4
          have HEN := Lib.hid hen
          have hel : (encL x).length = 4 := by
            have := congrArg List.length hen
            rw [byteCells_length] at this
            exact this
          have HEL := Lib.hid hel
          clear hen hel
          go_wp2_with (at_builtin; go_must (refine wpList_append_own _ rfl _ _ 22 rfl w.heap.size 5 i0 (.int .u8 0) 1 1 Try.underlying22 hi hz0 hz1 hz2 rfl (by decide) _ _ _ rfl (hown.alloc _) ⟨wr.heap.size, 0, none⟩ 4 4 [.int .u8 (bits .or .i32 240 (x / 262144) % 256), .int .u8 (bits .or .i32 128 (bits .and .i32 (x / 4096) 63) % 256), .int .u8 (bits .or .i32 128 (bits .and .i32 (x / 64) 63) % 256), .int .u8 (bits .or .i32 128 (bits .and .i32 x 63) % 256)] rfl rfl (lit_cells _ _ _ _ rfl) (by simp [Value.oneCell']) (by unfold maxLen; omega) (by omega) (by simp; omega) ?_))
          intro v' w2 hown2 hgrow _
          go_wp2_with fail
          go_roundw
          case rel =>
            refine ⟨k + 1, by omega, by go_num, ?_, (hbw.alloc hbs _).grown hgrow (by simp; omega) (fun g hg => (hown.lt g hg).1)⟩
            rw [hstep.out, List.length_append, byteCells_append, HEL.out, HEN.out]
            exact hown2
          case measure => simp [intOf]; omega
      · have p1 : 1114112 ≤ x := by omega
        clear q0 q4
        have hen := encV_bad x (by omega)
        have HEN := Lib.hid hen
        have hel : (encL x).length = 3 := by
          have := congrArg List.length hen
          rw [byteCells_length] at this
          exact this
        have HEL := Lib.hid hel
        clear hen hel
        go_wp2_with (at_builtin; go_must (refine wpList_append_own _ rfl _ _ 22 rfl w.heap.size 5 i0 (.int .u8 0) 1 1 Try.underlying22 hi hz0 hz1 hz2 rfl (by decide) _ _ _ rfl (hown.alloc _) ⟨wr.heap.size, 0, none⟩ 3 3 [.int .u8 (239), .int .u8 (191), .int .u8 (189)] rfl rfl (lit_cells _ _ _ _ rfl) (by simp [Value.oneCell']) (by unfold maxLen; omega) (by omega) (by simp; omega) ?_))
        intro v' w2 hown2 hgrow _
        go_wp2_with fail
        go_roundw
        case rel =>
          refine ⟨k + 1, by omega, by go_num, ?_, (hbw.alloc hbs _).grown hgrow (by simp; omega) (fun g hg => (hown.lt g hg).1)⟩
          rw [hstep.out, List.length_append, byteCells_append, HEL.out, HEN.out]
          exact hown2
        case measure => simp [intOf]; omega
    · have e : l.take k = l := List.take_of_length_le (by omega)
      rw [e] at hown
      have hcv := (ownsBytes hown).conv
      have hfin := Lib.hid (show (⟨(flatE l).toArray⟩ : ByteArray) = runesBytes l by unfold flatE; rw [← runesBytes_list, ofList])
      obtain ⟨A, c', hv, _⟩ := ownsBytes hown
      clear hown e
      subst hv
      go_wp2_with fail
      go_ret
      exact ⟨ret_str (by rw [hfin.out]), hbw⟩
set_option maxRecDepth 100000 in
set_option maxHeartbeats 1000000 in
theorem rback_none (c : Nat) (w : World) :
    Calls Try.prog 22 #[.slice none 0 c] w fun e w' => e = .returned (.string ByteArray.empty) ∧ Below w.heap.size w w' := by
  have hcv : (convert 22 9 (.slice none 0 0)).run Try.prog w = .ok (.string ByteArray.empty) w := by
    rw [run_convert_bytes_string w _ _ 5 none 0 0 Try.underlying22 Try.underlying5 Try.underlying9]
    rfl
  go_enter Try.func22, Try.ntmps22
  go_wp2
  go_loop [3, 4] (fun v i => v = .slice none 0 0 ∧ i = .int .i64 0) (fun _ _ => 0)
  case atStart => exact ⟨rfl, rfl⟩
  case round =>
    obtain ⟨rfl, rfl⟩ := hrel
    go_wp2
    go_ret
    exact ⟨rfl, Below.refl _ _⟩

/-- The document's Back. -/
theorem rback_any (v : Value) (l : List Int) (w : World) (hv : RunesAt w w.heap.size v l) (hl : l.length ≤ 1000) :
    Calls Try.prog 22 #[v] w fun e w' => e = .returned (.string (runesBytes l)) ∧ Below w.heap.size w w' := by
  obtain ⟨A, c, rfl, _, hn, hB, hx⟩ := hv
  cases A with
  | some ad => exact rback_some ad c l w (hB ad rfl) hl (hx ad rfl)
  | none =>
    obtain rfl := hn rfl
    exact rback_none c w
end Go.Proofs.Ytdefmeffdcpcaaa
