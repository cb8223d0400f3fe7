/- The table of key words: the fact out of a row's condition; a world for the witness with the table in its place. -/
import Derived.Test.YtkpocljlmbihcaaDoorKwk
import Derived.OpenVars
import Derived.Lib.LaidTab
import Derived.LaidMore
import Derived.OpenShut
namespace Go.Proofs.YtkpocljlmbihcaaDoor
set_option maxRecDepth 100000
open Go.RowKit

/-- an array of texts that reads as the table holds the table's texts, cell for cell -/
theorem cells_of_texts {H : Type} {enc : TypeId × Value → H} {P : Program} {w : World} {base : Nat} {sp : Nat → Bool} {held : Bool} {fuel : Nat} {t e : TypeId} {n : Nat} {cs : List Value} {zs : List (List UInt8)} {p : List MemPlace}
    (ht : P.underlying t = some (.array n e)) (he : P.underlying e = some .string) (hce : P.cellsOf e = 1) (hct : P.cellsOf t = n)
    (h : DataW.trod enc P w base sp held fuel t cs = some (.agg (zs.map fun z => .lit (.string z)), p)) : cs = zs.map fun z => Value.string ⟨z.toArray⟩ := by
  cases fuel with
  | zero => simp [DataW.trod] at h
  | succ fuel =>
    simp only [DataW.trod, ht, hce, hct, Nat.mul_one] at h
    split at h
    · rename_i hl
      obtain ⟨xs, hm, hx⟩ := Option.map_eq_some_iff.1 h
      have hxs : xs.map (·.1) = zs.map fun z => (DataW.lit (.string z) : DataW H) := by
        have := congrArg Prod.fst hx
        simpa using this
      have hxl : xs.length = n := by simpa using Lib.mapM_length hm
      have hzl : zs.length = n := by
        have := congrArg List.length hxs
        simp at this
        omega
      apply List.ext_getElem?
      intro i
      by_cases hi : i < n
      · obtain ⟨b, hb, hf⟩ := Lib.mapM_at hm i i (by simp [hi])
        obtain ⟨z, hc, rfl, _⟩ := DataW.trod_string he hf
        have h1 : cs[i]? = some (.string z) := by
          have := congrArg (·[0]?) hc
          simpa [List.getElem?_take, List.getElem?_drop] using this
        have h2 : (xs.map (·.1))[i]? = some (DataW.lit (.string z.data.toList) : DataW H) := by simp [hb]
        rw [hxs] at h2
        simp only [List.getElem?_map, Option.map_eq_some_iff, DataW.lit.injEq, Lit.string.injEq] at h2
        obtain ⟨z', hz', hz2⟩ := h2
        rw [h1, List.getElem?_map, hz', Option.map_some, hz2]
      · rw [List.getElem?_eq_none (by omega), List.getElem?_eq_none (by simp; omega)]
    · cases h
theorem block_of_var {P : Program} {w : World} {n : String} {g : Nat} {cs : Array Value} (hg : P.globalNamed n = some g) (h : w.var? P n = some cs) : ∃ (t : TypeId) (fr : Nat × Nat), w.heap[g]? = some (.cells cs t fr) := by
  simp only [World.var?, hg, Option.bind_some] at h
  split at h
  · rename_i c t fr hb
    simp only [Option.some.injEq] at h
    subst h
    exact ⟨t, fr, hb⟩
  · cases h
theorem gKwt : Tryd.prog.globalNamed "loop.example/g00838/impl.keyWords" = some 3 := by kernel_rfl
theorem tKwt : (Tryd.prog.globals[3]?).map (·.type) = some 124 := by kernel_rfl
theorem kwt_of_head {W : World} {r : List (String × DataW Unit)} (h : laidMet Tryd.prog (("loop.example/g00838/impl.keyWords", Rows.laid_loop_example_g00838_impl_keyWords) :: r) W) : Kwt W := by
  obtain ⟨ps, ⟨g', t', cs, fuel, p, q, hg', ht', hvar, hd, _, _⟩, _⟩ := h
  obtain rfl := Option.some.inj (gKwt.symm.trans hg')
  obtain rfl := Option.some.inj (tKwt.symm.trans ht')
  have hcs := cells_of_texts (zs := kwA.map fun s => s.data.toList) Tryd.underlying124 Tryd.underlying9 (by kernel_rfl) (by kernel_rfl) (show DataW.trod _ Tryd.prog W _ _ _ fuel 124 cs.toList = some (.agg ((kwA.map fun s => s.data.toList).map fun z => .lit (.string z)), p) from hd)
  obtain ⟨t, fr, hb⟩ := block_of_var gKwt hvar
  refine ⟨t, fr, ?_⟩
  rw [hb, show cs = (kwA.map Value.string).toArray from Array.toList_inj.1 (by rw [hcs]; rfl)]
/-- a world for the witness: the settled one, the table in its place -/
noncomputable def laidWorldK (os : Os) : World :=
  { World.holding Tryd.prog os ⟨#[], #[], []⟩ with heap := (World.holding Tryd.prog os ⟨#[], #[], []⟩).heap.modify 3 fun
      | .cells _ t frozen => .cells #[.string ⟨#[113, 100, 105, 115, 99]⟩, .string ⟨#[100, 101, 102, 97, 117, 108, 116]⟩, .string ⟨#[99, 108, 97, 115, 115]⟩, .string ⟨#[114, 97, 116, 101]⟩, .string ⟨#[99, 101, 105, 108]⟩, .string ⟨#[98, 117, 114, 115, 116]⟩, .string ⟨#[99, 98, 117, 114, 115, 116]⟩, .string ⟨#[112, 114, 105, 111]⟩, .string ⟨#[108, 105, 109, 105, 116]⟩, .string ⟨#[102, 105, 108, 116, 101, 114]⟩, .string ⟨#[115, 111, 117, 114, 99, 101]⟩, .string ⟨#[100, 101, 115, 116]⟩, .string ⟨#[112, 111, 114, 116]⟩, .string ⟨#[109, 97, 114, 107]⟩] t frozen
      | o => o }
end Go.Proofs.YtkpocljlmbihcaaDoor
