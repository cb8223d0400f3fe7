/- Canonical texts: contracts of NumberText and IsCanonical, program and model. -/
import Derived.Test.YtniggnjnpapkeaaDoorFri
import Derived.Test.YtniggnjnpapkeaaDoorRns
namespace Go.Proofs.YtniggnjnpapkeaaDoor
set_option maxRecDepth 100000
open Go.RowKit

/-- the canonical text of a value -/
def headS (n : Nat) : ByteArray := (formsL n).getD 0 ⟨#[]⟩
theorem forms_pos (n : Nat) : 0 < (formsL n).length := by unfold formsL preL; simp; omega
theorem forms_le (n : Nat) : (formsL n).length ≤ 8 := Nat.le_trans (preL_le n 3) (by omega)
theorem SaysStrB.of {w w1 w2 : World} {s : ByteArray} {b : Bool} {e : Ending} (h : SaysStrB w1 s b e w2) (hb : Below w.heap.size w w1) : SaysStrB w s b e w2 := ⟨h.1, hb.trans (h.2.mono hb.size)⟩
theorem nuText_any (n : Nat) (hn : (n : Int) ≤ 1000000000) (w : World) :
    Calls Tryd.prog 33 #[.int .i64 n] w fun e w' => e = .returned (.string (headS n)) ∧ Below w.heap.size w w' := by
  have HN : Hid (∀ w, Calls Tryd.prog 34 #[.int .i64 n] w fun e w' => ∃ (g l cap : Nat), 0 < l ∧ e = .returned (.slice (some ⟨g, 0, none⟩) l cap) ∧ w'.cell? ⟨g, 0, none⟩ = some (.string (headS n)) ∧ Below w.heap.size w w') :=
    Lib.hid (fun w => (nuForms_any n hn w).mono fun e w' ⟨v, he, ho, hb⟩ => by
      obtain ⟨g, cap, rfl, hs⟩ := ho.some (forms_pos n)
      exact ⟨g, _, cap, forms_pos n, he, hs.cell 0 (forms_pos n), hb⟩)
  go_enter Tryd.func33, Tryd.ntmps33
  go_wp2_with (go_at_call 34; refine (HN.out _).mono ?_; rintro e w1 ⟨g, l, cap, hl, rfl, hc, hb⟩; have HB := Lib.hid hb; clear hb)
  go_ret
  exact ⟨rfl, HB.out⟩
theorem specNumberText_any (n : Nat) (hn : (n : Int) ≤ 1000000000) (w : World) :
    Calls Tryd.prog 15 #[.int .i64 n] w (SaysStrB w (headS n) true) := by
  have h0 : (0 : Int) ≤ n := by omega
  have HN := Lib.hid (fun w => nuText_any n hn w)
  go_enter Tryd.func15, Tryd.ntmps15
  go_wp2_with (first | (go_at_call 32; (with_reducible refine (nuValue_true _ _ h0 hn).mono ?_); rintro e w' ⟨rfl, rfl⟩) | (go_at_call 33; (with_reducible refine (HN.out _).mono ?_); rintro e w1 ⟨rfl, hb⟩; have HB := Lib.hid hb; clear hb))
  go_ret2
  exact ⟨rfl, HB.out⟩
theorem specNumberText_no (n : Int) (h : Hid (n < 0 ∨ 1000000000 < n)) (w : World) :
    Calls Tryd.prog 15 #[.int .i64 n] w (SaysStrB w ⟨#[]⟩ false) := by
  go_enter Tryd.func15, Tryd.ntmps15
  go_wp2_with (go_at_call 32; refine (nuValue_false _ _ h.out).mono ?_; rintro e w' ⟨rfl, rfl⟩)
  go_ret2
  exact ⟨rfl, Below.refl _ _⟩
theorem implNumberText_any (n : Nat) (hn : (n : Int) ≤ 1000000000) (w : World) (hU : Hid (Units w)) (hP : Hid (Pow w)) :
    Calls Tryd.prog 16 #[.int .i64 n] w (SaysStrB w (headS n) true) := by
  have HN : Hid (∀ w, Hid (Units w) → Hid (Pow w) → Calls Tryd.prog 18 #[.int .i64 n] w fun e w' => ∃ (g l cap : Nat), 0 < l ∧ e = .returned (.tuple #[.slice (some ⟨g, 0, none⟩) l cap, .bool true]) ∧ w'.cell? ⟨g, 0, none⟩ = some (.string (headS n)) ∧ Below w.heap.size w w') :=
    Lib.hid (fun w hU hP => (implForms_any n hn w hU hP).mono fun e w' ⟨v, he, ho, hb⟩ => by
      obtain ⟨g, cap, rfl, hs⟩ := ho.some (forms_pos n)
      exact ⟨g, _, cap, forms_pos n, he, hs.cell 0 (forms_pos n), hb⟩)
  go_enter Tryd.func16, Tryd.ntmps16
  go_wp2_with (go_at_call 18; refine (HN.out _ hU hP).mono ?_; rintro e w1 ⟨g, l, cap, hl, rfl, hc, hb⟩; have HB := Lib.hid hb; clear hb)
  go_ret2
  exact ⟨rfl, HB.out⟩
theorem implNumberText_no (n : Int) (h : Hid (n < 0 ∨ 1000000000 < n)) (w : World) :
    Calls Tryd.prog 16 #[.int .i64 n] w (SaysStrB w ⟨#[]⟩ false) := by
  have HN := Lib.hid (fun w => implForms_no n h w)
  go_enter Tryd.func16, Tryd.ntmps16
  go_wp2_with (go_at_call 18; refine (HN.out _).mono ?_; rintro e w' ⟨rfl, rfl⟩)
  go_ret2
  exact ⟨rfl, Below.refl _ _⟩
/-- both functions answer the same -/
theorem numberText_both (n : Int) : ∃ (s : ByteArray) (b : Bool),
    Hid (∀ w, Hid (Units w) → Hid (Pow w) → Calls Tryd.prog 16 #[.int .i64 n] w (SaysStrB w s b)) ∧ Hid (∀ w, Calls Tryd.prog 15 #[.int .i64 n] w (SaysStrB w s b)) := by
  by_cases h : 0 ≤ n ∧ n ≤ 1000000000
  · obtain ⟨m, rfl⟩ := Int.eq_ofNat_of_zero_le h.1
    exact ⟨headS m, true, fun w hU hP => implNumberText_any m h.2 w hU hP, fun w => specNumberText_any m h.2 w⟩
  · have H : Hid (n < 0 ∨ 1000000000 < n) := Lib.hid (by omega)
    exact ⟨⟨#[]⟩, false, fun w _ _ => implNumberText_no n H w, fun w => specNumberText_no n H w⟩
/-- a string is the canonical text of its value -/
def canB (s : ByteArray) : Bool := match rnr s.data.toList with | none => false | Option.some v => (headS v.toNat).toList == s.toList
theorem canB_none {s : ByteArray} (h : rnr s.data.toList = none) : canB s = false := by unfold canB; rw [h]
theorem canB_some {s : ByteArray} {v : Int} (h : rnr s.data.toList = Option.some v) : canB s = ((headS v.toNat).toList == s.toList) := by unfold canB; rw [h]
theorem implCan_any (s : ByteArray) (hs : s.size ≤ 1048576) (w : World) (hD : Hid (Dig w)) (hU : Hid (Units w)) (hP : Hid (Pow w)) :
    Calls Tryd.prog 23 #[.string s] w fun e w' => e = .returned (.bool (canB s)) ∧ Below w.heap.size w w' := by
  have HR := Lib.hid (fun w hD hU => implReadNumber_any s w hD hU hs)
  obtain ⟨o, ho⟩ : ∃ o, rnr s.data.toList = o := ⟨_, rfl⟩
  have hn := opt_ways o (fun v h => (rnr_range _ v (ho.trans h)).1)
  have hr : ∀ v, o = Option.some v → v ≤ 1000000000 := fun v h => (rnr_range _ v (ho.trans h)).2
  rw [ho] at HR
  rcases hn with rfl | ⟨v, rfl, hv⟩
  · rw [canB_none ho]
    clear ho hr
    go_enter Tryd.func23, Tryd.ntmps23
    go_wp2_with (go_at_call 10; refine (HR.out _ hD hU).mono ?_; rw [show SaysRd w none = SaysPair w 0 false from rfl]; rintro e w1 ⟨rfl, b1⟩; have B1 := Lib.hid b1; clear b1)
    go_ret
    exact ⟨rfl, B1.out⟩
  · rw [canB_some ho]
    have hv1 := hr v rfl
    obtain ⟨m, rfl⟩ := Int.eq_ofNat_of_zero_le hv
    have HN := Lib.hid (fun w hU hP => implNumberText_any m hv1 w hU hP)
    rw [show ((m : Int)).toNat = m from rfl]
    obtain ⟨t, ht⟩ : ∃ t, headS m = t := ⟨_, rfl⟩
    rw [ht] at HN ⊢
    clear ho hr ht
    go_enter Tryd.func23, Tryd.ntmps23
    go_wp2_with (go_at_call 10; refine (HR.out _ hD hU).mono ?_; rw [show SaysRd w (Option.some (m : Int)) = SaysPair w m true from rfl]; rintro e w1 ⟨rfl, b1⟩; have B1 := Lib.hid b1; have U1 := Lib.hid (hU.out.below b1); have P1 := Lib.hid (hP.out.below b1); clear b1)
    go_wp2_with (go_at_call 16; refine (HN.out _ U1 P1).mono ?_; rintro e w2 ⟨rfl, b2⟩; have B2 := Lib.hid b2; clear b2)
    go_ret
    exact ⟨rfl, B1.out.trans (B2.out.mono B1.out.size)⟩
theorem specCan_any (s : ByteArray) (hs : s.size ≤ 1048576) (w : World) :
    Calls Tryd.prog 22 #[.string s] w fun e w' => e = .returned (.bool (canB s)) ∧ Below w.heap.size w w' := by
  have HR := Lib.hid (fun w => nuRead_any s w hs)
  obtain ⟨o, ho⟩ : ∃ o, rnr s.data.toList = o := ⟨_, rfl⟩
  have hn := opt_ways o (fun v h => (rnr_range _ v (ho.trans h)).1)
  have hr : ∀ v, o = Option.some v → v ≤ 1000000000 := fun v h => (rnr_range _ v (ho.trans h)).2
  rw [ho] at HR
  rcases hn with rfl | ⟨v, rfl, hv⟩
  · rw [canB_none ho]
    clear ho hr
    go_enter Tryd.func22, Tryd.ntmps22
    go_wp2_with (go_at_call 24; refine (HR.out _).mono ?_; rw [show optM none = -1 from rfl]; rintro e w1 ⟨rfl, b1⟩; have B1 := Lib.hid b1; clear b1)
    go_ret
    exact ⟨rfl, B1.out⟩
  · rw [canB_some ho]
    have hv1 := hr v rfl
    have d := is_le hv
    obtain ⟨m, rfl⟩ := Int.eq_ofNat_of_zero_le hv
    have HN := Lib.hid (fun w => nuText_any m hv1 w)
    rw [show ((m : Int)).toNat = m from rfl]
    obtain ⟨t, ht⟩ : ∃ t, headS m = t := ⟨_, rfl⟩
    rw [ht] at HN ⊢
    rw [show optM (Option.some (m : Int)) = (m : Int) from rfl] at HR
    clear ho hr ht
    have B0 := Lib.hid (Below.refl w.heap.size w)
    go_enter Tryd.func22, Tryd.ntmps22
    go_wp2_with (first | (go_at_call 24; (with_reducible refine (HR.out _).mono ?_); rintro e w1 ⟨rfl, b1⟩; have B0 := Lib.hid (B0.out.trans (b1.mono B0.out.size)); clear b1) | (go_at_call 33; (with_reducible refine (HN.out _).mono ?_); rintro e w1 ⟨rfl, b1⟩; have B0 := Lib.hid (B0.out.trans (b1.mono B0.out.size)); clear b1))
    go_ret
    exact ⟨rfl, B0.out⟩
end Go.Proofs.YtniggnjnpapkeaaDoor
