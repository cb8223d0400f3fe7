/- Canonical texts: contracts of NumberText, program and model. -/
import Derived.Test.YtkpocljlmbihcaaDoorFri
namespace Go.Proofs.YtkpocljlmbihcaaDoor
set_option maxRecDepth 100000
open Go.RowKit

/-- the canonical text of a value -/
def headS (n : Nat) : ByteArray := (formsL n).getD 0 ⟨#[]⟩
theorem forms_pos (n : Nat) : 0 < (formsL n).length := by unfold formsL preL; simp; omega
theorem forms_le (n : Nat) : (formsL n).length ≤ 8 := Nat.le_trans (preL_le n 3) (by omega)
theorem SaysStrB.of {w w1 w2 : World} {s : ByteArray} {b : Bool} {e : Ending} (h : SaysStrB w1 s b e w2) (hb : Below w.heap.size w w1) : SaysStrB w s b e w2 := ⟨h.1, hb.trans (h.2.mono hb.size)⟩
theorem nuText_any (n : Nat) (hn : (n : Int) ≤ 1000000000) (w : World) :
    Calls Tryd.prog 46 #[.int .i64 n] w fun e w' => e = .returned (.string (headS n)) ∧ Below w.heap.size w w' := by
  have HN : Hid (∀ w, Calls Tryd.prog 69 #[.int .i64 n] w fun e w' => ∃ (g l cap : Nat), 0 < l ∧ e = .returned (.slice (some ⟨g, 0, none⟩) l cap) ∧ w'.cell? ⟨g, 0, none⟩ = some (.string (headS n)) ∧ Below w.heap.size w w') :=
    Lib.hid (fun w => (nuForms_any n hn w).mono fun e w' ⟨v, he, ho, hb⟩ => by
      obtain ⟨g, cap, rfl, hs⟩ := ho.some (forms_pos n)
      exact ⟨g, _, cap, forms_pos n, he, hs.cell 0 (forms_pos n), hb⟩)
  go_enter Tryd.func46, Tryd.ntmps46
  go_wp2_with (go_at_call 69; refine (HN.out _).mono ?_; rintro e w1 ⟨g, l, cap, hl, rfl, hc, hb⟩; have HB := Lib.hid hb; clear hb)
  go_ret
  exact ⟨rfl, HB.out⟩
theorem implNumberText_any (n : Nat) (hn : (n : Int) ≤ 1000000000) (w : World) (hU : Hid (Units w)) (hP : Hid (Pow w)) :
    Calls Tryd.prog 24 #[.int .i64 n] w (SaysStrB w (headS n) true) := by
  have HN : Hid (∀ w, Hid (Units w) → Hid (Pow w) → Calls Tryd.prog 49 #[.int .i64 n] w fun e w' => ∃ (g l cap : Nat), 0 < l ∧ e = .returned (.tuple #[.slice (some ⟨g, 0, none⟩) l cap, .bool true]) ∧ w'.cell? ⟨g, 0, none⟩ = some (.string (headS n)) ∧ Below w.heap.size w w') :=
    Lib.hid (fun w hU hP => (implForms_any n hn w hU hP).mono fun e w' ⟨v, he, ho, hb⟩ => by
      obtain ⟨g, cap, rfl, hs⟩ := ho.some (forms_pos n)
      exact ⟨g, _, cap, forms_pos n, he, hs.cell 0 (forms_pos n), hb⟩)
  go_enter Tryd.func24, Tryd.ntmps24
  go_wp2_with (go_at_call 49; refine (HN.out _ hU hP).mono ?_; rintro e w1 ⟨g, l, cap, hl, rfl, hc, hb⟩; have HB := Lib.hid hb; clear hb)
  go_ret2
  exact ⟨rfl, HB.out⟩
theorem implNumberText_no (n : Int) (h : Hid (n < 0 ∨ 1000000000 < n)) (w : World) :
    Calls Tryd.prog 24 #[.int .i64 n] w (SaysStrB w ⟨#[]⟩ false) := by
  have HN := Lib.hid (fun w => implForms_no n h w)
  go_enter Tryd.func24, Tryd.ntmps24
  go_wp2_with (go_at_call 49; refine (HN.out _).mono ?_; rintro e w' ⟨rfl, rfl⟩)
  go_ret2
  exact ⟨rfl, Below.refl _ _⟩
end Go.Proofs.YtkpocljlmbihcaaDoor
