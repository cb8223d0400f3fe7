/- Decimal texts and texts of any kind: contracts of ReadNumber and ReadAny of the model, and of ReadAny of the program. -/
import Derived.Test.YteogadbjnmcblaaDoorNrd
import Derived.Test.YteogadbjnmcblaaDoorRnb
namespace Go.Proofs.YteogadbjnmcblaaDoor
set_option maxRecDepth 100000
open Go.RowKit

theorem unitN_range {o : Option Int} {f lim v : Int} (hf : 0 ≤ f) (hl : lim * f ≤ 1000000000) (h : ∀ v, o = Option.some v → 0 ≤ v) (h2 : ∀ v, o = Option.some v → v ≤ lim) (e : unitN o f = Option.some v) : 0 ≤ v ∧ v ≤ 1000000000 := by
  rcases opt_three o h with (rfl | rfl) | ⟨u, rfl, hu⟩
  · rw [unitN_none] at e; cases e
  · rw [unitN_zero] at e; cases e
  · rw [unitN_some f hu] at e
    obtain rfl := Option.some.inj e
    have g1 := h2 u rfl
    exact ⟨Int.mul_nonneg (by omega) hf, Int.le_trans (Int.mul_le_mul_of_nonneg_right g1 hf) hl⟩
theorem rnr_range (l : List UInt8) (v : Int) (h : rnr l = Option.some v) : 0 ≤ v ∧ v ≤ 1000000000 := by
  unfold rnr at h
  split at h
  · exact unitN_range (lim := 1000) (by omega) (by omega) (fun v q => rdT_nonneg 10 1000 (by omega) _ v q) (fun v q => rdT_le 10 1000 (by omega) _ v q) h
  · split at h
    · exact unitN_range (lim := 1000000) (by omega) (by omega) (fun v q => rdT_nonneg 10 1000000 (by omega) _ v q) (fun v q => rdT_le 10 1000000 (by omega) _ v q) h
    · exact ⟨rdT_nonneg 10 1000000000 (by omega) _ v h, rdT_le 10 1000000000 (by omega) _ v h⟩
/-- the value of a text of any kind -/
def ray (l : List UInt8) : Option Int := if Lib.hasPrefix l [48, 120] = true then rhx l else rnr l
theorem ray_hex {l : List UInt8} (h : Lib.hasPrefix l [48, 120] = true) : ray l = rhx l := by unfold ray; rw [if_pos h]
theorem ray_dec {l : List UInt8} (h : Lib.hasPrefix l [48, 120] = false) : ray l = rnr l := by unfold ray; rw [if_neg (by simp [h])]
theorem ray_range (l : List UInt8) (v : Int) (h : ray l = Option.some v) : 0 ≤ v ∧ v ≤ 1000000000 := by
  rcases Bool.eq_false_or_eq_true (Lib.hasPrefix l [48, 120]) with hp | hp
  · rw [ray_hex hp, rhx_yes hp] at h
    have h2 := rdT_le 16 65535 (by omega) _ v h
    exact ⟨rdT_nonneg 16 65535 (by omega) _ v h, by omega⟩
  · rw [ray_dec hp] at h
    exact rnr_range l v h
end Go.Proofs.YteogadbjnmcblaaDoor
