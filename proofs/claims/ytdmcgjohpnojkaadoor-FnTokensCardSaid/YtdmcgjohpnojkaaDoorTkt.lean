/- The tables of key words and of signs: facts out of the rows' conditions; a world for the witness with the four tables in place. -/
import Derived.Test.YtdmcgjohpnojkaaDoorTkw
import Derived.Test.YtdmcgjohpnojkaaDoorSpl
import Derived.Test.YtdmcgjohpnojkaaDoorKwl
namespace Go.Proofs.YtdmcgjohpnojkaaDoor
set_option maxRecDepth 100000
open Go.RowKit

theorem gSgt : Tryd.prog.globalNamed "loop.example/g00838/impl.signs" = some 0 := by kernel_rfl
theorem tSgt : (Tryd.prog.globals[0]?).map (·.type) = some 104 := by kernel_rfl
theorem sgt_of_head {W : World} {r : List (String × DataW Unit)} (h : laidMet Tryd.prog (("loop.example/g00838/impl.signs", Rows.laid_loop_example_g00838_impl_signs) :: r) W) : Sgt W := by
  obtain ⟨ps, ⟨g', t', cs, fuel, p, q, hg', ht', hvar, hd, _, _⟩, _⟩ := h
  obtain rfl := Option.some.inj (gSgt.symm.trans hg')
  obtain rfl := Option.some.inj (tSgt.symm.trans ht')
  have hcs := cells_of_texts (zs := sgA.map fun s => s.data.toList) Tryd.underlying104 Tryd.underlying9 (by kernel_rfl) (by kernel_rfl) (show DataW.trod _ Tryd.prog W _ _ _ fuel 104 cs.toList = some (.agg ((sgA.map fun s => s.data.toList).map fun z => .lit (.string z)), p) from hd)
  obtain ⟨t, fr, hb⟩ := block_of_var gSgt hvar
  refine ⟨t, fr, ?_⟩
  rw [hb, show cs = (sgA.map Value.string).toArray from Array.toList_inj.1 (by rw [hcs]; rfl)]
open Go.ChangeShapes in
/-- Four named variables, opened. -/
theorem trodVars_four {H : Type} {enc : TypeId × Value → H} {P : Program} {w : World} {spare : Nat → Bool} {n0 n1 n2 n3 : String} {gs : List (DataW H)} {ps : List MemPlace} (h : DataW.TrodVars enc P w spare [n0, n1, n2, n3] gs ps) :
    ∃ d0 d1 d2 d3, gs = [d0, d1, d2, d3] := by
  cases gs with
  | nil => simp [DataW.TrodVars] at h
  | cons d ds =>
    obtain ⟨g0, t0, cs0, f0, p0, q0, h1, h2, h3, h4, hs, e⟩ := h
    cases ds with
    | nil => simp [DataW.TrodVars] at hs
    | cons d1 ds =>
      obtain ⟨g1, t1, cs1, f1, p1, q1, _, _, _, _, hs, _⟩ := hs
      obtain ⟨g2, t2, cs2, f2, d2, p2, g3, t3, cs3, f3, d3, p3, rfl, _⟩ := trodVars_two hs
      exact ⟨d, d1, d2, d3, rfl⟩
/-- a world for the witness: the settled one, the tables in their places -/
noncomputable def laidWorld3 (os : Os) : World :=
  { laidWorld os with heap := (((laidWorld os).heap.modify 3 fun
      | .cells _ t frozen => .cells #[.string ⟨#[109]⟩, .int .i64 1000000, .string ⟨#[107]⟩, .int .i64 1000] t frozen
      | o => o).modify 1 fun
      | .cells _ t frozen => .cells #[.string ⟨#[113, 100, 105, 115, 99]⟩, .string ⟨#[100, 101, 102, 97, 117, 108, 116]⟩, .string ⟨#[99, 108, 97, 115, 115]⟩, .string ⟨#[114, 97, 116, 101]⟩, .string ⟨#[99, 101, 105, 108]⟩, .string ⟨#[98, 117, 114, 115, 116]⟩, .string ⟨#[99, 98, 117, 114, 115, 116]⟩, .string ⟨#[112, 114, 105, 111]⟩, .string ⟨#[108, 105, 109, 105, 116]⟩, .string ⟨#[102, 105, 108, 116, 101, 114]⟩, .string ⟨#[115, 111, 117, 114, 99, 101]⟩, .string ⟨#[100, 101, 115, 116]⟩, .string ⟨#[112, 111, 114, 116]⟩, .string ⟨#[109, 97, 114, 107]⟩] t frozen
      | o => o).modify 0 fun
      | .cells _ t frozen => .cells #[.string ⟨#[123]⟩, .string ⟨#[125]⟩, .string ⟨#[59]⟩, .string ⟨#[47]⟩, .string ⟨#[61]⟩, .string ⟨#[45, 62]⟩] t frozen
      | o => o }
end Go.Proofs.YtdmcgjohpnojkaaDoor
