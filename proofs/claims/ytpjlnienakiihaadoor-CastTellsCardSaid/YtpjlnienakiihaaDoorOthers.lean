/- The law CastOthers, walked. -/
import Derived.Test.YtpjlnienakiihaaDoorLight
import Derived.Test.YtpjlnienakiihaaDoorRefSame
namespace Go.Proofs.YtpjlnienakiihaaDoor
open Go.RowKit Go.Lib

@[go_sem] theorem mkStr (x : Value) (w : World) : (Instr.makeInterface 9 x).run Tryd.prog w = .ok (.iface 9 x) w := by kernel_rfl
@[go_sem] theorem mkNum (x : Value) (w : World) : (Instr.makeInterface 3 x).run Tryd.prog w = .ok (.iface 3 x) w := by kernel_rfl
@[go_sem] theorem mkPk (x : Value) (w : World) : (Instr.makeInterface 28 x).run Tryd.prog w = .ok (.iface 28 x) w := by kernel_rfl
@[go_sem] theorem mkPp (x : Value) (w : World) : (Instr.makeInterface 45 x).run Tryd.prog w = .ok (.iface 45 x) w := by kernel_rfl
@[go_sem] theorem mkPm (x : Value) (w : World) : (Instr.makeInterface 46 x).run Tryd.prog w = .ok (.iface 46 x) w := by kernel_rfl
@[go_sem] theorem mkSm (x : Value) (w : World) : (Instr.makeInterface 47 x).run Tryd.prog w = .ok (.iface 47 x) w := by kernel_rfl
@[go_sem] theorem mkSp (x : Value) (w : World) : (Instr.makeInterface 36 x).run Tryd.prog w = .ok (.iface 36 x) w := by kernel_rfl
@[go_sem] theorem mkEr (x : Value) (w : World) : (Instr.makeInterface 48 x).run Tryd.prog w = .ok (.iface 48 x) w := by kernel_rfl
theorem bStruct (p : Pk) (s : Sv) : Tryd.prog.built 36 [(0, .agg (pkC p s))] = some (pkC p s) := by kernel_rfl
theorem bs_msg1 (p : Pk) (s : Sv) (W : World) : (Instr.buildSlice 47 1 #[(0, .agg (pkC p s))]).run Tryd.prog W = .ok (.slice (some ⟨W.heap.size, 0, none⟩) 1 1) (W.alloc (.cells (pkC p s) 37)) := by kernel_rfl
theorem bs_msg {ops : Array Oper} {rest : List Oper} {a : Act} {w : World} {Q : Exit → Act → World → Prop} {d : Option Tmp} {x : Operand} {ty : TypeId} {ps : String} {af : Array Edge}
    (g : Nat) (hg : w.heap.size = g) (p : Pk) (s : Sv) (hx : a.eval x = .agg (pkC p s))
    (h : wpList Tryd.prog ops Q rest (a.put d (.slice (some ⟨g, 0, none⟩) 1 1)) (w.alloc (.cells (pkC p s) 37))) :
    wpList Tryd.prog ops Q ({ dst := d, op := .buildSlice 47 1 #[(0, x)], type := ty, pos := ps, after := af, guard := none } :: rest) a w :=
  wpList_plain rfl fun K hK => by
    subst hg
    unfold Oper.wp execOp
    simp only [Sem.run_bind, List.map_toArray, List.map_cons, List.map_nil, hx, bs_msg1, Result.andThen_ok]
    exact hK _ _ h

/-- None of the five forms. -/
def IsOther (v : Value) : Prop := v = .nilIface ∨ ∃ (u : TypeId) (x : Value), v = .iface u x ∧ u ≠ 67 ∧ u ≠ 37 ∧ u ≠ 68 ∧ u ≠ 55 ∧ u ≠ 56
theorem unwrap_other (v : Value) (h : IsOther v) (w : World) : Calls Tryd.prog 22 #[v] w fun e w' => e = .returned (.tuple #[pkV pk0 sv0, .int .i64 5]) ∧ Below w.heap.size w w' := by
  rcases h with rfl | ⟨u, x, rfl, h0, h1, h2, h3, h4⟩
  · exact unwrapNil w
  · exact unwrapNo u x h0 h1 h2 h3 h4 w
theorem packet_other (v : Value) (h : IsOther v) (w : World) : Calls Tryd.prog 10 #[v] w (PacketPost w pk0 5) :=
  Packet_of v 5 pk0 sv0 0 w (fun W => unwrap_other v h W) (pk0_at _ _) (Nat.zero_le _) pk0_ok sv0_nil
theorem try_other (v : Value) (h : IsOther v) (w : World) : Calls Tryd.prog 11 #[v] w fun e w' => e = .returned (.tuple #[.agg pk0C, .bool false]) ∧ Below w.heap.size w w' := by
  rcases h with rfl | ⟨u, x, rfl, h0, h1, h2, h3, h4⟩
  · exact try_no _ w fun W => claim_nil W
  · exact try_no _ w fun W => claim_no u x h1 W
theorem name_other (v : Value) (h : IsOther v) (w : World) (hN : NamesAt w) : Calls Tryd.prog 13 #[v] w fun e w' => e = .returned (.string ⟨#[110, 111, 110, 101]⟩) ∧ Below w.heap.size w w' :=
  Name_of v 5 pk0C rfl (pk_one _ _) w hN (fun W => unwrap_other v h W) (by simp)
theorem id_other (v : Value) (h : IsOther v) (w : World) : Calls Tryd.prog 15 #[v] w fun e w' => e = .returned (.int .i64 0) ∧ Below w.heap.size w w' := by
  rcases h with rfl | ⟨u, x, rfl, h0, h1, h2, h3, h4⟩
  · exact Id_of _ 0 w fun W => idNil W
  · exact Id_of _ 0 w fun W => idNo u x h1 h2 h3 W
theorem same0 (s t : Sv) (B : Nat) (w : World) (h1 : PkAt w B pk0 s) (h2 : PkAt w B pk0 t) (hB : B ≤ w.heap.size) : Calls Tryd.prog 14 #[pkV pk0 s, pkV pk0 t] w fun e w' => e = .returned (.bool true) ∧ Below w.heap.size w w' :=
  refSame_yes pk0 s t B w h1 h2 hB pk0_ok

set_option maxRecDepth 100000 in
set_option maxHeartbeats 4000000 in
theorem others_walk (sx : ByteArray) (n : Int) (p : Pk) (s : Sv) (w : World) (hs : sx.size ≤ maxLen) (hp : PkAt w w.heap.size p s) (hi : PkIn p) (hr : PkReach p) (hN : NamesAt w) :
    Calls Tryd.prog 4 #[.string sx, .int .i64 n, pkV p s] w fun e w' => e = .returned (.bool true) ∧ Below w.heap.size w w' := by
  have HK := Lib.hid (fun W hW => known_any W hW)
  have HN := Lib.hid hN
  have HP := Lib.hid hp
  have HI := Lib.hid (And.intro hi hr)
  unfold maxLen at hs
  have bw : Below w.heap.size w (w.alloc (.cells (pkC p s) 28)) := by (repeat (first | assumption | exact Below.refl _ _ | exact (Below.refl _ _).alloc (Nat.le_refl _) _ | (refine thn ?_ (by assumption)) | (refine alB ?_ _) | (refine dwN ?_ _) | (refine Below.drew ?_)))
  have BW := Lib.hid bw
  clear hN hp hi hr bw
  by_cases h1 : 60 < sx.size
  · go_enter Tryd.func4, Tryd.ntmps4
    go_wp2_with fail
    refine (HK.out _ (HN.out.on BW.out)).mono ?_
    rintro e w1 ⟨rfl, hb1⟩
    go_wp2_with fail
    go_ret
    exact ⟨rfl, by (repeat (first | assumption | exact Below.refl _ _ | exact (Below.refl _ _).alloc (Nat.le_refl _) _ | (refine thn ?_ (by assumption)) | (refine alB ?_ _) | (refine dwN ?_ _) | (refine Below.drew ?_)))⟩
  · have h1b : decide (60 < (sx.size : Int)) = false := decide_eq_false (by omega)
    go_enter Tryd.func4, Tryd.ntmps4
    go_wp2_with fail
    refine (HK.out _ (HN.out.on BW.out)).mono ?_
    rintro e w1 ⟨rfl, hb1⟩
    have r1 := heap_below hb1 (heap_alloc_new w _)
    have b1 : Below w.heap.size w w1 := by (repeat (first | assumption | exact Below.refl _ _ | exact (Below.refl _ _).alloc (Nat.le_refl _) _ | (refine thn ?_ (by assumption)) | (refine alB ?_ _) | (refine dwN ?_ _) | (refine Below.drew ?_)))
    clear hb1
    go_wp2_with ((with_reducible show wpList _ _ _ ({ dst := _, op := Op.load 28 _, type := _, pos := _, after := _, guard := _ } :: _) _ _); refine ld_pk w.heap.size (by rfl) (by rfl) (pkC p s) _ _ r1 (by rfl) ?_)
    refine (light_any p s w.heap.size w1 (HP.out.to (Nat.le_refl _) b1) b1.size HI.out.1 HI.out.2).mono ?_
    rintro e w2 ⟨rfl, hb2⟩
    have r2 := heap_below hb2 r1
    have b2 : Below w.heap.size w w2 := by (repeat (first | assumption | exact Below.refl _ _ | exact (Below.refl _ _).alloc (Nat.le_refl _) _ | (refine thn ?_ (by assumption)) | (refine alB ?_ _) | (refine dwN ?_ _) | (refine Below.drew ?_)))
    clear hb2 b1 r1
    by_cases hl : lightP p = true
    · rw [hl]
      have OK := Lib.hid (light_ok HI.out.1 hl)
      clear hl
      go_wp2_with (first
        | ((with_reducible show wpList _ _ _ ({ dst := _, op := Op.load 28 (Operand.tmp 5), type := _, pos := _, after := _, guard := _ } :: _) _ _); refine ld_pk w.heap.size (by rfl) (by rfl) (pkC p s) _ _ (by first | exact r2 | exact heap_keep r2 | exact heap_keep (heap_keep r2)) (by rfl) ?_)
        | (refine bl_pk p s (by rfl) (by rfl) (by first | exact bMessage p s | exact bStruct p s) ?_)
        | ((with_reducible show wpList _ _ _ ({ dst := _, op := Op.buildSlice 47 _ _, type := _, pos := _, after := _, guard := _ } :: _) _ _); refine bs_msg (w2.heap.size + 1) (by simp) p s (by rfl) ?_))
      have b3 : Below w.heap.size w (((w2.alloc (Obj.cells (pkC p s) 37)).alloc (Obj.cells (pkC p s) 37)).alloc (Obj.cells (#[Value.nilIface, Value.iface 9 (Value.string sx), Value.iface 3 (Value.int IntKind.i64 n), Value.iface 28 (Value.agg (pkC p s)), Value.iface 45 (Value.pointer (some ⟨w.heap.size, 0, none⟩)), Value.iface 46 (Value.pointer (some ⟨w2.heap.size, 0, none⟩)), Value.iface 47 (Value.slice (some ⟨w2.heap.size + 1, 0, none⟩) 1 1), Value.iface 36 (Value.agg (pkC p s)), Value.iface 48 (Value.int IntKind.i64 0)]) 20)) := by (repeat (first | assumption | exact Below.refl _ _ | exact (Below.refl _ _).alloc (Nat.le_refl _) _ | (refine thn ?_ (by assumption)) | (refine alB ?_ _) | (refine dwN ?_ _) | (refine Below.drew ?_)))
      have r3 : (((w2.alloc (Obj.cells (pkC p s) 37)).alloc (Obj.cells (pkC p s) 37)).alloc (Obj.cells (#[Value.nilIface, Value.iface 9 (Value.string sx), Value.iface 3 (Value.int IntKind.i64 n), Value.iface 28 (Value.agg (pkC p s)), Value.iface 45 (Value.pointer (some ⟨w.heap.size, 0, none⟩)), Value.iface 46 (Value.pointer (some ⟨w2.heap.size, 0, none⟩)), Value.iface 47 (Value.slice (some ⟨w2.heap.size + 1, 0, none⟩) 1 1), Value.iface 36 (Value.agg (pkC p s)), Value.iface 48 (Value.int IntKind.i64 0)]) 20)).heap[w2.heap.size + 1 + 1]? = some (.cells (#[Value.nilIface, Value.iface 9 (Value.string sx), Value.iface 3 (Value.int IntKind.i64 n), Value.iface 28 (Value.agg (pkC p s)), Value.iface 45 (Value.pointer (some ⟨w.heap.size, 0, none⟩)), Value.iface 46 (Value.pointer (some ⟨w2.heap.size, 0, none⟩)), Value.iface 47 (Value.slice (some ⟨w2.heap.size + 1, 0, none⟩) 1 1), Value.iface 36 (Value.agg (pkC p s)), Value.iface 48 (Value.int IntKind.i64 0)]) 20 (0, 0)) := by
        have := heap_alloc2_new (w2.alloc (Obj.cells (pkC p s) 37)) (Obj.cells (pkC p s) 37) (Obj.cells (#[Value.nilIface, Value.iface 9 (Value.string sx), Value.iface 3 (Value.int IntKind.i64 n), Value.iface 28 (Value.agg (pkC p s)), Value.iface 45 (Value.pointer (some ⟨w.heap.size, 0, none⟩)), Value.iface 46 (Value.pointer (some ⟨w2.heap.size, 0, none⟩)), Value.iface 47 (Value.slice (some ⟨w2.heap.size + 1, 0, none⟩) 1 1), Value.iface 36 (Value.agg (pkC p s)), Value.iface 48 (Value.int IntKind.i64 0)]) 20)
        simpa using this
      obtain ⟨cs, hcs, hsz, hall⟩ : ∃ cs : Array Value, cs = #[Value.nilIface, Value.iface 9 (Value.string sx), Value.iface 3 (Value.int IntKind.i64 n), Value.iface 28 (Value.agg (pkC p s)), Value.iface 45 (Value.pointer (some ⟨w.heap.size, 0, none⟩)), Value.iface 46 (Value.pointer (some ⟨w2.heap.size, 0, none⟩)), Value.iface 47 (Value.slice (some ⟨w2.heap.size + 1, 0, none⟩) 1 1), Value.iface 36 (Value.agg (pkC p s)), Value.iface 48 (Value.int IntKind.i64 0)] ∧ cs.size = 9 ∧ ∀ (k : Nat) (v : Value), cs[k]? = some v → IsOther v := ⟨_, rfl, rfl, fun k v h => by
        have hk : k < 9 := (Array.getElem?_eq_some_iff.1 h).1
        rcases (show k = 0 ∨ k = 1 ∨ k = 2 ∨ k = 3 ∨ k = 4 ∨ k = 5 ∨ k = 6 ∨ k = 7 ∨ k = 8 by omega) with rfl | rfl | rfl | rfl | rfl | rfl | rfl | rfl | rfl <;> (obtain rfl := Option.some.inj h) <;> first | exact .inl rfl | exact .inr ⟨_, _, rfl, by decide, by decide, by decide, by decide, by decide⟩⟩
      rw [← hcs] at b3 r3 ⊢
      have HALL := Lib.hid hall
      have HSZ := Lib.hid hsz
      clear hall hsz hcs r2
      generalize (((w2.alloc (Obj.cells (pkC p s) 37)).alloc (Obj.cells (pkC p s) 37)).alloc (Obj.cells cs 20)) = w3 at *
      go_loopw [44] (fun i wr => ∃ k : Nat, k ≤ 9 ∧ i = .int .i64 k ∧ Below w.heap.size w wr ∧ wr.heap[w2.heap.size + 1 + 1]? = some (.cells cs 20 (0, 0))) (fun i _ => 9 - (intOf i).toNat)
      case atStart => exact ⟨0, Nat.zero_le _, rfl, b3, r3⟩
      case round =>
        obtain ⟨k, hk, rfl, hb, hr⟩ := hrel
        clear r3 b3 b2
        by_cases hlt : k < 9
        · have hv : cs[k]? = some (cs[k]'(by have := HSZ.out; omega)) := Array.getElem?_eq_getElem _
          generalize cs[k]'(by have := HSZ.out; omega) = v at hv
          have hc : wr.cell? ⟨w2.heap.size + 1 + 1, k, none⟩ = some v := by rw [cell_of_row _ _ k _ _ _ hr]; exact hv
          have ho := HALL.out k v hv
          have HO := Lib.hid ho
          have HR := Lib.hid hr
          clear ho hr hv
          go_wp2_with fail
          refine (packet_other v HO.out wr).mono ?_
          intro e q1 h1
          obtain ⟨s1, rfl, ho1, hb1⟩ : ∃ s', e = .returned (.tuple #[pkV pk0 s', .bool false]) ∧ PkOwn q1 wr.heap.size pk0 s' ∧ Below wr.heap.size wr q1 := by obtain ⟨s', h, h2, hb⟩ := h1; exact ⟨s', h, h2, hb⟩
          have P1 := Lib.hid ho1.at_
          have x1 := heap_below hb1 HR.out
          have b1 : Below w.heap.size w q1 := hb.trans (hb1.mono hb.size)
          clear h1 ho1 hb1 hc
          go_wp2_with ((with_reducible show wpList _ _ _ ({ dst := _, op := Op.store 28 _ _, type := _, pos := _, after := _, guard := _ } :: _) _ _); refine stL q1.heap.size (by rfl) _ (pkC pk0 s1) (by rfl) (by rfl) (by rfl) (by rfl) pk_sz (pk_one _ _) ?_)
          refine (try_other v HO.out _).mono ?_
          rintro e q2 ⟨rfl, hb2⟩
          have x2 := heap_below hb2 (heap_keep x1)
          have y2 := heap_below hb2 (heap_alloc_new q1 _)
          have b2 : Below w.heap.size w q2 := by (repeat (first | assumption | exact Below.refl _ _ | exact (Below.refl _ _).alloc (Nat.le_refl _) _ | (refine thn ?_ (by assumption)) | (refine alB ?_ _) | (refine dwN ?_ _) | (refine Below.drew ?_)))
          have bq : Below q1.heap.size q1 q2 := ((Below.refl _ _).alloc (Nat.le_refl _) _).trans (hb2.mono (by simp))
          clear hb2 b1 x1
          go_wp2_with ((with_reducible show wpList _ _ _ ({ dst := _, op := Op.store 37 _ _, type := _, pos := _, after := _, guard := _ } :: _) _ _); refine stL q2.heap.size (by rfl) _ pk0C (by rfl) (by rfl) (by rfl) (by rfl) szMessage (pk_one _ _) ?_)
          refine (name_other v HO.out _ (HN.out.on (alB b2 _))).mono ?_
          rintro e q3 ⟨rfl, hb3⟩
          have x3 := heap_below hb3 (heap_keep x2)
          have y3 := heap_below hb3 (heap_keep y2)
          have z3 := heap_below hb3 (heap_alloc_new q2 _)
          have b3 : Below w.heap.size w q3 := by (repeat (first | assumption | exact Below.refl _ _ | exact (Below.refl _ _).alloc (Nat.le_refl _) _ | (refine thn ?_ (by assumption)) | (refine alB ?_ _) | (refine dwN ?_ _) | (refine Below.drew ?_)))
          have bq3 : Below q1.heap.size q1 q3 := bq.trans ((((Below.refl _ _).alloc (Nat.le_refl _) _).trans (hb3.mono (by simp))).mono bq.size)
          clear hb3 b2 x2 y2 bq
          go_wp2_with fail
          refine (id_other v HO.out _).mono ?_
          rintro e q4 ⟨rfl, hb4⟩
          have x4 := heap_below hb4 x3
          have y4 := heap_below hb4 y3
          have z4 := heap_below hb4 z3
          have b4 : Below w.heap.size w q4 := by (repeat (first | assumption | exact Below.refl _ _ | exact (Below.refl _ _).alloc (Nat.le_refl _) _ | (refine thn ?_ (by assumption)) | (refine alB ?_ _) | (refine dwN ?_ _) | (refine Below.drew ?_)))
          have bq4 : Below q1.heap.size q1 q4 := thn bq3 hb4
          clear hb4 b3 x3 y3 z3 bq3
          go_wp2_with ((with_reducible show wpList _ _ _ ({ dst := _, op := Op.load 28 _, type := _, pos := _, after := _, guard := _ } :: _) _ _); refine ld_pk q1.heap.size (by rfl) (by rfl) (pkC pk0 s1) _ _ y4 (by rfl) ?_)
          refine (same0 s1 sv0 q1.heap.size q4 (P1.out.below bq4) (pk0_at _ _) bq4.size).mono ?_
          rintro e q5 ⟨rfl, hb5⟩
          have x5 := heap_below hb5 x4
          have z5 := heap_below hb5 z4
          have b5 : Below w.heap.size w q5 := by (repeat (first | assumption | exact Below.refl _ _ | exact (Below.refl _ _).alloc (Nat.le_refl _) _ | (refine thn ?_ (by assumption)) | (refine alB ?_ _) | (refine dwN ?_ _) | (refine Below.drew ?_)))
          clear hb5 b4 x4 y4 z4 bq4
          go_wp2_with ((with_reducible show wpList _ _ _ ({ dst := _, op := Op.load 28 _, type := _, pos := _, after := _, guard := _ } :: _) _ _); refine ld_pk q2.heap.size (by rfl) (by rfl) pk0C _ _ z5 (by rfl) ?_)
          refine (same0 sv0 sv0 0 q5 (pk0_at _ _) (pk0_at _ _) (Nat.zero_le _)).mono ?_
          rintro e q6 ⟨rfl, hb6⟩
          have x6 := heap_below hb6 x5
          have b6 : Below w.heap.size w q6 := by (repeat (first | assumption | exact Below.refl _ _ | exact (Below.refl _ _).alloc (Nat.le_refl _) _ | (refine thn ?_ (by assumption)) | (refine alB ?_ _) | (refine dwN ?_ _) | (refine Below.drew ?_)))
          clear hb6 b5 x5 z5
          go_wp2_with fail
          go_roundw
          case rel => exact ⟨k + 1, hlt, by go_num, b6, x6⟩
          case measure => simp [intOf]; omega
        · go_wp2_with fail
          go_ret
          exact ⟨rfl, hb⟩
    · rw [Bool.eq_false_iff.2 hl]
      go_wp2_with fail
      go_ret
      exact ⟨rfl, by (repeat (first | assumption | exact Below.refl _ _ | exact (Below.refl _ _).alloc (Nat.le_refl _) _ | (refine thn ?_ (by assumption)) | (refine alB ?_ _) | (refine dwN ?_ _) | (refine Below.drew ?_)))⟩

end Go.Proofs.YtpjlnienakiihaaDoor
