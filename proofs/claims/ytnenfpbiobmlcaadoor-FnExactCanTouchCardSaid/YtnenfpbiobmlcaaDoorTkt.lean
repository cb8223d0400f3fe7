/- The tables of key words and of signs: facts out of the rows' conditions; a world for the witness with the four tables in place. -/
import Derived.Test.YtnenfpbiobmlcaaDoorTkw
import Derived.Test.YtnenfpbiobmlcaaDoorUni
namespace Go.Proofs.YtnenfpbiobmlcaaDoor
set_option maxRecDepth 100000
open Go.RowKit

/-- an array of texts that reads as the table holds the table's texts, cell for cell -/
theorem cells_of_texts {H : Type} {enc : TypeId × Value → H} {P : Program} {w : World} {base : Nat} {sp : Nat → Bool} {held : Bool} {fuel : Nat} {t e : TypeId} {n : Nat} {cs : List Value} {zs : List (List UInt8)} {p : List MemPlace}
    (ht : P.underlying t = some (.array n e)) (he : P.underlying e = some .string) (hce : P.cellsOf e = 1) (hct : P.cellsOf t = n)
    (h : DataW.trod enc P w base sp held fuel t cs = some (.agg (zs.map fun z => .lit (.string z)), p)) : cs = zs.map fun z => Value.string ⟨z.toArray⟩ := by
  cases fuel with
  | zero => simp [DataW.trod] at h
  | succ fuel =>
    simp only [DataW.trod, ht, hce, hct, Nat.mul_one] at h
    split at h
    · rename_i hl
      obtain ⟨xs, hm, hx⟩ := Option.map_eq_some_iff.1 h
      have hxs : xs.map (·.1) = zs.map fun z => (DataW.lit (.string z) : DataW H) := by
        have := congrArg Prod.fst hx
        simpa using this
      have hxl : xs.length = n := by simpa using Lib.mapM_length hm
      have hzl : zs.length = n := by
        have := congrArg List.length hxs
        simp at this
        omega
      apply List.ext_getElem?
      intro i
      by_cases hi : i < n
      · obtain ⟨b, hb, hf⟩ := Lib.mapM_at hm i i (by simp [hi])
        obtain ⟨z, hc, rfl, _⟩ := DataW.trod_string he hf
        have h1 : cs[i]? = some (.string z) := by
          have := congrArg (·[0]?) hc
          simpa [List.getElem?_take, List.getElem?_drop] using this
        have h2 : (xs.map (·.1))[i]? = some (DataW.lit (.string z.data.toList) : DataW H) := by simp [hb]
        rw [hxs] at h2
        simp only [List.getElem?_map, Option.map_eq_some_iff, DataW.lit.injEq, Lit.string.injEq] at h2
        obtain ⟨z', hz', hz2⟩ := h2
        rw [h1, List.getElem?_map, hz', Option.map_some, hz2]
      · rw [List.getElem?_eq_none (by omega), List.getElem?_eq_none (by simp; omega)]
    · cases h
theorem block_of_var {P : Program} {w : World} {n : String} {g : Nat} {cs : Array Value} (hg : P.globalNamed n = some g) (h : w.var? P n = some cs) : ∃ (t : TypeId) (fr : Nat × Nat), w.heap[g]? = some (.cells cs t fr) := by
  simp only [World.var?, hg, Option.bind_some] at h
  split at h
  · rename_i c t fr hb
    simp only [Option.some.injEq] at h
    subst h
    exact ⟨t, fr, hb⟩
  · cases h
theorem gKwt : Tryd.prog.globalNamed "loop.example/g00838/impl.keyWords" = some 0 := by kernel_rfl
theorem tKwt : (Tryd.prog.globals[0]?).map (·.type) = some 62 := by kernel_rfl
theorem kwt_of_head {W : World} {r : List (String × DataW Unit)} (h : laidMet Tryd.prog (("loop.example/g00838/impl.keyWords", Rows.laid_loop_example_g00838_impl_keyWords) :: r) W) : Kwt W := by
  obtain ⟨ps, ⟨g', t', cs, fuel, p, q, hg', ht', hvar, hd, _, _⟩, _⟩ := h
  obtain rfl := Option.some.inj (gKwt.symm.trans hg')
  obtain rfl := Option.some.inj (tKwt.symm.trans ht')
  have hcs := cells_of_texts (zs := kwA.map fun s => s.data.toList) Tryd.underlying62 Tryd.underlying9 (by kernel_rfl) (by kernel_rfl) (show DataW.trod _ Tryd.prog W _ _ _ fuel 62 cs.toList = some (.agg ((kwA.map fun s => s.data.toList).map fun z => .lit (.string z)), p) from hd)
  obtain ⟨t, fr, hb⟩ := block_of_var gKwt hvar
  refine ⟨t, fr, ?_⟩
  rw [hb, show cs = (kwA.map Value.string).toArray from Array.toList_inj.1 (by rw [hcs]; rfl)]
theorem gSgt : Tryd.prog.globalNamed "loop.example/g00838/impl.signs" = some 1 := by kernel_rfl
theorem tSgt : (Tryd.prog.globals[1]?).map (·.type) = some 88 := by kernel_rfl
theorem sgt_of_head {W : World} {r : List (String × DataW Unit)} (h : laidMet Tryd.prog (("loop.example/g00838/impl.signs", Rows.laid_loop_example_g00838_impl_signs) :: r) W) : Sgt W := by
  obtain ⟨ps, ⟨g', t', cs, fuel, p, q, hg', ht', hvar, hd, _, _⟩, _⟩ := h
  obtain rfl := Option.some.inj (gSgt.symm.trans hg')
  obtain rfl := Option.some.inj (tSgt.symm.trans ht')
  have hcs := cells_of_texts (zs := sgA.map fun s => s.data.toList) Tryd.underlying88 Tryd.underlying9 (by kernel_rfl) (by kernel_rfl) (show DataW.trod _ Tryd.prog W _ _ _ fuel 88 cs.toList = some (.agg ((sgA.map fun s => s.data.toList).map fun z => .lit (.string z)), p) from hd)
  obtain ⟨t, fr, hb⟩ := block_of_var gSgt hvar
  refine ⟨t, fr, ?_⟩
  rw [hb, show cs = (sgA.map Value.string).toArray from Array.toList_inj.1 (by rw [hcs]; rfl)]
open Go.ChangeShapes in
/-- Four named variables, opened. -/
theorem trodVars_four {H : Type} {enc : TypeId × Value → H} {P : Program} {w : World} {spare : Nat → Bool} {n0 n1 n2 n3 : String} {gs : List (DataW H)} {ps : List MemPlace} (h : DataW.TrodVars enc P w spare [n0, n1, n2, n3] gs ps) :
    ∃ d0 d1 d2 d3, gs = [d0, d1, d2, d3] := by
  cases gs with
  | nil => simp [DataW.TrodVars] at h
  | cons d ds =>
    obtain ⟨g0, t0, cs0, f0, p0, q0, h1, h2, h3, h4, hs, e⟩ := h
    cases ds with
    | nil => simp [DataW.TrodVars] at hs
    | cons d1 ds =>
      obtain ⟨g1, t1, cs1, f1, p1, q1, _, _, _, _, hs, _⟩ := hs
      obtain ⟨g2, t2, cs2, f2, d2, p2, g3, t3, cs3, f3, d3, p3, rfl, _⟩ := trodVars_two hs
      exact ⟨d, d1, d2, d3, rfl⟩
/-- a world for the witness: the settled one, the tables in their places -/
noncomputable def laidWorld3 (os : Os) : World :=
  { laidWorld os with heap := (((laidWorld os).heap.modify 3 fun
      | .cells _ t frozen => .cells #[.string ⟨#[109]⟩, .int .i64 1000000, .string ⟨#[107]⟩, .int .i64 1000] t frozen
      | o => o).modify 0 fun
      | .cells _ t frozen => .cells #[.string ⟨#[113, 100, 105, 115, 99]⟩, .string ⟨#[100, 101, 102, 97, 117, 108, 116]⟩, .string ⟨#[99, 108, 97, 115, 115]⟩, .string ⟨#[114, 97, 116, 101]⟩, .string ⟨#[99, 101, 105, 108]⟩, .string ⟨#[98, 117, 114, 115, 116]⟩, .string ⟨#[99, 98, 117, 114, 115, 116]⟩, .string ⟨#[112, 114, 105, 111]⟩, .string ⟨#[108, 105, 109, 105, 116]⟩, .string ⟨#[102, 105, 108, 116, 101, 114]⟩, .string ⟨#[115, 111, 117, 114, 99, 101]⟩, .string ⟨#[100, 101, 115, 116]⟩, .string ⟨#[112, 111, 114, 116]⟩, .string ⟨#[109, 97, 114, 107]⟩] t frozen
      | o => o).modify 1 fun
      | .cells _ t frozen => .cells #[.string ⟨#[123]⟩, .string ⟨#[125]⟩, .string ⟨#[59]⟩, .string ⟨#[47]⟩, .string ⟨#[61]⟩, .string ⟨#[45, 62]⟩] t frozen
      | o => o }
end Go.Proofs.YtnenfpbiobmlcaaDoor
