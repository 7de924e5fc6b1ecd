/- The names of the forms, as the program laid them: what the row's condition gives a walk, and a world that meets it. -/
import Derived.Test.YtpjlnienakiihaaDoorKnown4
import Derived.ChangeSame
import Derived.ChangeVars
import Derived.JoinedOf
import Derived.RowKitTokens
import Derived.LaidLaws
import Derived.LaidHandle
import Derived.Stop.Joined
namespace Go.Proofs.YtpjlnienakiihaaDoor
open Go.ChangeShapes Go.WideShapes Go.RowKit

theorem Tryd.nm : Tryd.prog.globalNamed "hubbub/cast.names" = some 0 := by kernel_rfl
theorem Tryd.nmType : (Tryd.prog.globals[0]?).map (·.type) = some 65 := by kernel_rfl
theorem Tryd.cellsNm : Tryd.prog.cellsOf 65 = 6 := by kernel_rfl
theorem Tryd.cellsStr : Tryd.prog.cellsOf 9 = 1 := by kernel_rfl
def namesC : Array Value := #[.string ⟨#[103, 114, 101, 101, 116, 105, 110, 103]⟩, .string ⟨#[109, 101, 115, 115, 97, 103, 101]⟩, .string ⟨#[97, 99, 107]⟩, .string ⟨#[97, 115, 107]⟩, .string ⟨#[115, 105, 103, 110, 97, 108]⟩, .string ⟨#[110, 111, 110, 101]⟩]
def namesLaid {H : Type} : List (String × DataW H) := [("hubbub/cast.names", Rows.laid_hubbub_cast_names)]

theorem string_of_trod {H : Type} {enc : TypeId × Value → H} {P : Program} {w : World} {base : Nat} {sp : Nat → Bool} {held : Bool} {fuel : Nat} {t : TypeId} {c : Value} {y : DataW H × List MemPlace}
    (ht : P.underlying t = some .string) (h : DataW.trod enc P w base sp held fuel t [c] = some y) : ∃ s : ByteArray, c = .string s ∧ y = (.lit (.string s.data.toList), []) := by
  cases fuel with
  | zero => simp [DataW.trod] at h
  | succ fuel =>
    cases c <;> simp [DataW.trod, ht] at h
    rename_i s
    obtain ⟨_, rfl⟩ := h
    exact ⟨s, rfl, rfl⟩
theorem bytes_lit {s : ByteArray} {l : List UInt8} (h : s.toList = l) : s = ⟨l.toArray⟩ := by
  rw [ByteArray.toList_eq] at h
  subst h; cases s; simp

theorem cells_of_laid {W : World} (h : laidMet Tryd.prog [("hubbub/cast.names", Rows.laid_hubbub_cast_names)] W) : W.var? Tryd.prog "hubbub/cast.names" = some namesC := by
  obtain ⟨ps, ⟨g, t, cs, fuel, p, q, hg, ht, hvar, hd, _, _⟩, _⟩ := h
  obtain rfl := Option.some.inj (Tryd.nm.symm.trans hg)
  obtain rfl := Option.some.inj (Tryd.nmType.symm.trans ht)
  rw [hvar]
  congr 1
  obtain ⟨l⟩ := cs
  cases fuel with
  | zero => simp [DataW.trod] at hd
  | succ fuel =>
    simp only [DataW.trod, Tryd.underlying65, Tryd.cellsNm, Tryd.cellsStr] at hd
    split at hd
    · rename_i hl
      obtain ⟨c0, c1, c2, c3, c4, c5, rfl⟩ : ∃ c0 c1 c2 c3 c4 c5, l = [c0, c1, c2, c3, c4, c5] := by
        match l, hl with
        | [a, b, c, d, e, f], _ => exact ⟨a, b, c, d, e, f, rfl⟩
      have e : List.range 6 = [0, 1, 2, 3, 4, 5] := rfl
      rw [e] at hd
      simp only [Option.map_eq_some_iff, List.mapM_cons, List.mapM_nil, Option.bind_eq_bind, Option.bind_eq_some_iff, Option.pure_def, Option.some.injEq] at hd
      obtain ⟨xs, ⟨y0, h0, _, ⟨y1, h1, _, ⟨y2, h2, _, ⟨y3, h3, _, ⟨y4, h4, _, ⟨y5, h5, _, rfl, rfl⟩, rfl⟩, rfl⟩, rfl⟩, rfl⟩, rfl⟩, hx⟩ := hd
      obtain ⟨n0, rfl, rfl⟩ := string_of_trod Tryd.underlying9 h0
      obtain ⟨n1, rfl, rfl⟩ := string_of_trod Tryd.underlying9 h1
      obtain ⟨n2, rfl, rfl⟩ := string_of_trod Tryd.underlying9 h2
      obtain ⟨n3, rfl, rfl⟩ := string_of_trod Tryd.underlying9 h3
      obtain ⟨n4, rfl, rfl⟩ := string_of_trod Tryd.underlying9 h4
      obtain ⟨n5, rfl, rfl⟩ := string_of_trod Tryd.underlying9 h5
      simp only [Rows.laid_hubbub_cast_names, ← ByteArray.toList_eq] at hx
      simp at hx
      obtain ⟨⟨e0, e1, e2, e3, e4, e5⟩, _⟩ := hx
      rw [bytes_lit e0, bytes_lit e1, bytes_lit e2, bytes_lit e3, bytes_lit e4, bytes_lit e5]
      rfl
    · cases hd
theorem names_of_laid {W : World} (h : laidMetH Tryd.prog [("hubbub/cast.names", Rows.laid_hubbub_cast_names)] W) : NamesAt W := by
  have h' : laidMet Tryd.prog [("hubbub/cast.names", Rows.laid_hubbub_cast_names)] W := h
  have hv := cells_of_laid h'
  exact ⟨World.var?_cell Tryd.nm hv 0, World.var?_cell Tryd.nm hv 1, World.var?_cell Tryd.nm hv 2, World.var?_cell Tryd.nm hv 3, World.var?_cell Tryd.nm hv 4, World.var?_cell Tryd.nm hv 5⟩

/-- A world that meets the condition: the settled one, the names laid. -/
noncomputable def laidWorld (os : Os) : World :=
  let w0 := World.holding Tryd.prog os ⟨#[], #[], []⟩
  { w0 with heap := w0.heap.modify 0 fun
      | .cells _ t frozen => .cells namesC t frozen
      | o => o }
theorem laidWorld_met (os : Os) (args : Array Value) : laidMetH Tryd.prog [("hubbub/cast.names", Rows.laid_hubbub_cast_names)] ((laidWorld os).forCall (fun _ _ => 0) ⟨#[], args, []⟩).memory :=
  laidMetH_of_parts (laidMet_of_run' 8 (by kernel_rfl) (by kernel_rfl)) (by kernel_rfl)

end Go.Proofs.YtpjlnienakiihaaDoor
