import Derived.Test.YthgbhnedfdnfpaaGreatDoorPkf
import Derived.Deep.AppendLies
import Derived.Deep.RegionLaw
/- The texts of a value in the program: contracts of FormsOf. -/
namespace Go.Proofs.YthgbhnedfdnfpaaGreatDoor
set_option maxRecDepth 100000
open Go.RowKit

def FormRelI (w : World) (n : Nat) (v i : Value) (wr : World) : Prop :=
  ∃ k : Nat, k ≤ 2 ∧ i = .int .i64 k ∧ OwnZ wr w.heap.size v (preL n k).length (preL n k) ∧ Below w.heap.size w wr
set_option maxHeartbeats 6400000 in
theorem implForms_pos (n : Nat) (hn : (n : Int) ≤ 1000000000) (hp : 0 < (n : Int)) (w : World) (hU : Hid (Units w)) (hP : Hid (Pow w)) :
    Calls Tryz.prog 68 #[.int .i64 n] w fun e w' => ∃ v, e = .returned (.tuple #[v, .bool true]) ∧ OwnZ w' w.heap.size v (formsL n).length (formsL n) ∧ Below w.heap.size w w' := by
  obtain ⟨i0, hi, hz0, hz1, hz2⟩ := info_parts infoStr
  obtain ⟨c0, c1, c2, c3⟩ := hU.out
  have j0 := unit_at0
  have j1 := unit_at1
  have N1 : Hid (∀ w, Hid (Pow w) → Calls Tryz.prog 38 #[.int .i64 ((n : Int) / 1000000)] w fun e w' => e = .returned (.string (numS (n / 1000000))) ∧ Below w.heap.size w w') := Lib.hid (itoa_any (n / 1000000) (by omega))
  have N2 : Hid (∀ w, Hid (Pow w) → Calls Tryz.prog 38 #[.int .i64 ((n : Int) / 1000)] w fun e w' => e = .returned (.string (numS (n / 1000))) ∧ Below w.heap.size w w') := Lib.hid (itoa_any (n / 1000) (by omega))
  have N3 := Lib.hid (itoa_any n hn)
  have S1 : (numS (n / 1000000)).size ≤ 1000000001 := by have := numS_size (n / 1000000); omega
  have S2 : (numS (n / 1000)).size ≤ 1000000001 := by have := numS_size (n / 1000); omega
  have S3 : (numS n).size ≤ 1000000001 := by have := numS_size n; omega
  have d0 : ((n : Int) != 0) = true := by simp; omega
  go_enter Tryz.func68, Tryz.ntmps68
  go_wp2_with (go_at_call 101; refine (isValue_true _ _ (by omega) hn).mono ?_; rintro e w' ⟨rfl, rfl⟩)
  go_loopw [4, 11] (fun v i wr => FormRelI w n v i wr) (fun _ i _ => 2 - (intOf i).toNat)
  case atStart => exact ⟨0, by omega, rfl, World.ownsRow_nil _ _ _ _, Below.refl _ _⟩
  case round =>
    obtain ⟨k, hk, rfl, ho, hb⟩ := hrel
    have HO1 := Lib.hid ho
    have HB1 := Lib.hid hb
    have HPr : Hid (Pow wr) := Lib.hid (hP.out.below hb)
    clear ho hb
    rcases (show k = 0 ∨ k = 1 ∨ k = 2 by omega) with rfl | rfl | rfl
    · by_cases hm : (n : Int) % 1000000 = 0
      · have dm : ((n : Int) % 1000000 == 0) = true := by simp [hm]
        have e : isM n = true := by unfold isM; simp; omega
        clear hm
        go_wp2_with fail
        obtain ⟨wu, hwu⟩ : ∃ wu, wr.alloc (.cells #[.string ⟨#[109]⟩, .int .i64 1000000] 115) = wu := ⟨_, rfl⟩
        rw [hwu]
        obtain ⟨k2, k3⟩ := unit_cells _ _ _ _ _ hwu.symm
        have bu := unit_below _ _ _ _ _ hwu.symm
        have HOu := Lib.hid (HO1.out.below bu (Nat.le_refl _))
        have HBu := Lib.hid (HB1.out.trans (bu.mono HB1.out.size))
        have HPu : Hid (Pow wu) := Lib.hid (HPr.out.below bu)
        clear bu hwu
        have q1 : IntKind.i64.wrap ((n : Int) / 1000000) = (n : Int) / 1000000 := IntWalk.i64_in _ (by omega)
        have q2 : (n : Int).tdiv 1000000 = (n : Int) / 1000000 := Int.tdiv_eq_ediv_of_nonneg (by omega)
        have hno : ¬ (9223372036854775807 < (numS (n / 1000000)).size + (⟨#[109]⟩ : ByteArray).size) := by rw [size_lit]; omega
        have hno2 : ¬ (9223372036854775807 < (numS (n / 1000000)).size + 1) := by omega
        go_region_law (first
          | (refine step_append_lies _ (by rfl) _ _ _ (by rfl) w.heap.size 9 i0 (.string ⟨#[]⟩) 1 16 Tryz.underlying44 hi hz0 hz1 hz2 rfl (by decide) _ _ _ (by rfl) (World.ownsRow.alloc (w := w2) HO2.out _) ⟨w2.heap.size, 0, none⟩ 1 1 [.string (numS (n / 1000000) ++ ⟨#[109]⟩)] (by rfl) (by rfl) (one_new w2 _ _) (by intro u hu; simp at hu; subst hu; rfl) (by omega) (by have := preL_le n 0; unfold maxLen; omega) (by have := preL_le n 0; omega) (by have := HB2.out.size; simp; omega) _ rfl ?_; intro g cap w3 hown1 hgrow1 _ _; have R := Lib.hid (OwnZ.snoc (wr := w2) HO2.out HB2.out.size HB2.out hown1 hgrow1); clear hown1 hgrow1)
          | (go_simp; go_at_call 38; refine (N1.out wu.drew (show Hid (Pow wu.drew) from HPu)).mono ?_; rintro e w2 ⟨rfl, b2⟩; have HO2 := Lib.hid (OwnZ.below (w := wu.drew) HOu.out b2 (Nat.le_refl _)); have HB2 := Lib.hid ((show Below w.heap.size w wu.drew from below_drewN HBu.out 1).trans (b2.mono (show w.heap.size ≤ wu.heap.size from HBu.out.size))); have k4 := (b2.cell (p := ⟨wr.heap.size, 0, none⟩) (World.block_lt_of_cell? wu _ k2)).trans k2; have k5 := (b2.cell (p := ⟨wr.heap.size, 1, none⟩) (World.block_lt_of_cell? wu _ k3)).trans k3; clear b2))
        all_goals
          go_wp2
          go_roundw
          case rel => exact ⟨1, by omega, by go_num, R.out.1.to (pm1 e) (snoc_len (pm1 e)), R.out.2⟩
          case measure => simp [intOf]
      · have dm : ((n : Int) % 1000000 == 0) = false := by simp [hm]
        have e : isM n = false := by unfold isM; simp; omega
        clear hm
        go_wp2_with fail
        go_roundw
        case rel => exact ⟨1, by omega, by go_num, (HO1.out.below ((Below.refl _ _).alloc (Nat.le_refl _) _) (Nat.le_refl _)).to (pm0 e) (by rw [pm0 e]), HB1.out.alloc HB1.out.size _⟩
        case measure => simp [intOf]
    · by_cases hm : (n : Int) % 1000 = 0
      · have dm : ((n : Int) % 1000 == 0) = true := by simp [hm]
        have e : isK n = true := by unfold isK; simp; omega
        clear hm
        go_wp2_with fail
        obtain ⟨wu, hwu⟩ : ∃ wu, wr.alloc (.cells #[.string ⟨#[107]⟩, .int .i64 1000] 115) = wu := ⟨_, rfl⟩
        rw [hwu]
        obtain ⟨k2, k3⟩ := unit_cells _ _ _ _ _ hwu.symm
        have bu := unit_below _ _ _ _ _ hwu.symm
        have HOu := Lib.hid (HO1.out.below bu (Nat.le_refl _))
        have HBu := Lib.hid (HB1.out.trans (bu.mono HB1.out.size))
        have HPu : Hid (Pow wu) := Lib.hid (HPr.out.below bu)
        clear bu hwu
        have q1 : IntKind.i64.wrap ((n : Int) / 1000) = (n : Int) / 1000 := IntWalk.i64_in _ (by omega)
        have q2 : (n : Int).tdiv 1000 = (n : Int) / 1000 := Int.tdiv_eq_ediv_of_nonneg (by omega)
        have hno : ¬ (9223372036854775807 < (numS (n / 1000)).size + (⟨#[107]⟩ : ByteArray).size) := by rw [size_lit]; omega
        have hno2 : ¬ (9223372036854775807 < (numS (n / 1000)).size + 1) := by omega
        go_region_law (first
          | (refine step_append_lies _ (by rfl) _ _ _ (by rfl) w.heap.size 9 i0 (.string ⟨#[]⟩) 1 16 Tryz.underlying44 hi hz0 hz1 hz2 rfl (by decide) _ _ _ (by rfl) (World.ownsRow.alloc (w := w2) HO2.out _) ⟨w2.heap.size, 0, none⟩ 1 1 [.string (numS (n / 1000) ++ ⟨#[107]⟩)] (by rfl) (by rfl) (one_new w2 _ _) (by intro u hu; simp at hu; subst hu; rfl) (by omega) (by have := preL_le n 1; unfold maxLen; omega) (by have := preL_le n 1; omega) (by have := HB2.out.size; simp; omega) _ rfl ?_; intro g cap w3 hown1 hgrow1 _ _; have R := Lib.hid (OwnZ.snoc (wr := w2) HO2.out HB2.out.size HB2.out hown1 hgrow1); clear hown1 hgrow1)
          | (go_simp; go_at_call 38; refine (N2.out wu.drew (show Hid (Pow wu.drew) from HPu)).mono ?_; rintro e w2 ⟨rfl, b2⟩; have HO2 := Lib.hid (OwnZ.below (w := wu.drew) HOu.out b2 (Nat.le_refl _)); have HB2 := Lib.hid ((show Below w.heap.size w wu.drew from below_drewN HBu.out 1).trans (b2.mono (show w.heap.size ≤ wu.heap.size from HBu.out.size))); have k4 := (b2.cell (p := ⟨wr.heap.size, 0, none⟩) (World.block_lt_of_cell? wu _ k2)).trans k2; have k5 := (b2.cell (p := ⟨wr.heap.size, 1, none⟩) (World.block_lt_of_cell? wu _ k3)).trans k3; clear b2))
        all_goals
          go_wp2
          go_roundw
          case rel => exact ⟨2, by omega, by go_num, R.out.1.to (pk1 e) (snoc_len (pk1 e)), R.out.2⟩
          case measure => simp [intOf]
      · have dm : ((n : Int) % 1000 == 0) = false := by simp [hm]
        have e : isK n = false := by unfold isK; simp; omega
        clear hm
        go_wp2_with fail
        go_roundw
        case rel => exact ⟨2, by omega, by go_num, (HO1.out.below ((Below.refl _ _).alloc (Nat.le_refl _) _) (Nat.le_refl _)).to (pk0 e) (by rw [pk0 e]), HB1.out.alloc HB1.out.size _⟩
        case measure => simp [intOf]
    · go_wp2_with (first
        | (go_at_call 38; (with_reducible refine (N3.out _ HPr).mono ?_); rintro e w2 ⟨rfl, b2⟩; have HO2 := Lib.hid (HO1.out.below b2 (Nat.le_refl _)); have HB2 := Lib.hid (HB1.out.trans (b2.mono HB1.out.size)); clear b2)
        | (at_builtin; refine wpList_append_own _ rfl _ _ 44 rfl w.heap.size 9 i0 (.string ⟨#[]⟩) 1 16 Tryz.underlying44 hi hz0 hz1 hz2 rfl (by decide) _ _ _ rfl (World.ownsRow.alloc (w := w2) HO2.out _) ⟨w2.heap.size, 0, none⟩ 1 1 [.string (numS n)] rfl rfl (one_new w2 _ _) (by intro u hu; simp at hu; subst hu; rfl) (by have := preL_le n 2; unfold maxLen; omega) (by have := preL_le n 2; omega) (by have := HB2.out.size; simp; omega) ?_; intro v' w3 hown1 hgrow1 _; have R := Lib.hid (OwnZ.snoc (wr := w2) HO2.out HB2.out.size HB2.out hown1 hgrow1); clear hown1 hgrow1))
      go_ret2
      exact ⟨_, rfl, R.out.1.to (pn1 n) (snoc_len (pn1 n)), R.out.2⟩
set_option maxHeartbeats 6400000 in
theorem implForms_zero (w : World) (hU : Hid (Units w)) (hP : Hid (Pow w)) :
    Calls Tryz.prog 68 #[.int .i64 0] w fun e w' => ∃ v, e = .returned (.tuple #[v, .bool true]) ∧ OwnZ w' w.heap.size v (formsL 0).length (formsL 0) ∧ Below w.heap.size w w' := by
  obtain ⟨i0, hi, hz0, hz1, hz2⟩ := info_parts infoStr
  obtain ⟨c0, c1, c2, c3⟩ := hU.out
  have j0 := unit_at0
  have j1 := unit_at1
  have N3 : Hid (∀ w, Hid (Pow w) → Calls Tryz.prog 38 #[.int .i64 0] w fun e w' => e = .returned (.string (numS 0)) ∧ Below w.heap.size w w') := Lib.hid (itoa_any 0 (by omega))
  have S3 : (numS 0).size ≤ 1000000001 := by have := numS_size 0; omega
  go_enter Tryz.func68, Tryz.ntmps68
  go_wp2_with (go_at_call 101; refine (isValue_true _ _ (by omega) (by omega)).mono ?_; rintro e w' ⟨rfl, rfl⟩)
  go_loopw [4, 11] (fun v i wr => FormRelI w 0 v i wr) (fun _ i _ => 2 - (intOf i).toNat)
  case atStart => exact ⟨0, by omega, rfl, World.ownsRow_nil _ _ _ _, Below.refl _ _⟩
  case round =>
    obtain ⟨k, hk, rfl, ho, hb⟩ := hrel
    have HO1 := Lib.hid ho
    have HB1 := Lib.hid hb
    have HPr : Hid (Pow wr) := Lib.hid (hP.out.below hb)
    clear ho hb
    rcases (show k = 0 ∨ k = 1 ∨ k = 2 by omega) with rfl | rfl | rfl
    · go_wp2_with fail
      go_roundw
      case rel => exact ⟨1, by omega, by go_num, (HO1.out.below ((Below.refl _ _).alloc (Nat.le_refl _) _) (Nat.le_refl _)).to (pm0 isM_zero) (by rw [pm0 isM_zero]), HB1.out.alloc HB1.out.size _⟩
      case measure => simp [intOf]
    · go_wp2_with fail
      go_roundw
      case rel => exact ⟨2, by omega, by go_num, (HO1.out.below ((Below.refl _ _).alloc (Nat.le_refl _) _) (Nat.le_refl _)).to (pk0 isK_zero) (by rw [pk0 isK_zero]), HB1.out.alloc HB1.out.size _⟩
      case measure => simp [intOf]
    · go_wp2_with (first
        | (go_at_call 38; (with_reducible refine (N3.out _ HPr).mono ?_); rintro e w2 ⟨rfl, b2⟩; have HO2 := Lib.hid (HO1.out.below b2 (Nat.le_refl _)); have HB2 := Lib.hid (HB1.out.trans (b2.mono HB1.out.size)); clear b2)
        | (at_builtin; refine wpList_append_own _ rfl _ _ 44 rfl w.heap.size 9 i0 (.string ⟨#[]⟩) 1 16 Tryz.underlying44 hi hz0 hz1 hz2 rfl (by decide) _ _ _ rfl (World.ownsRow.alloc (w := w2) HO2.out _) ⟨w2.heap.size, 0, none⟩ 1 1 [.string (numS 0)] rfl rfl (one_new w2 _ _) (by intro u hu; simp at hu; subst hu; rfl) (by have := preL_le 0 2; unfold maxLen; omega) (by have := preL_le 0 2; omega) (by have := HB2.out.size; simp; omega) ?_; intro v' w3 hown1 hgrow1 _; have R := Lib.hid (OwnZ.snoc (wr := w2) HO2.out HB2.out.size HB2.out hown1 hgrow1); clear hown1 hgrow1))
      go_ret2
      exact ⟨_, rfl, R.out.1.to (pn1 0) (snoc_len (pn1 0)), R.out.2⟩
theorem implForms_any (n : Nat) (hn : (n : Int) ≤ 1000000000) (w : World) (hU : Hid (Units w)) (hP : Hid (Pow w)) :
    Calls Tryz.prog 68 #[.int .i64 n] w fun e w' => ∃ v, e = .returned (.tuple #[v, .bool true]) ∧ OwnZ w' w.heap.size v (formsL n).length (formsL n) ∧ Below w.heap.size w w' := by
  rcases Nat.eq_zero_or_pos n with rfl | h
  · exact implForms_zero w hU hP
  · exact implForms_pos n hn (by omega) w hU hP
end Go.Proofs.YthgbhnedfdnfpaaGreatDoor

/- Canonical texts: contracts of NumberText, program and model. -/
namespace Go.Proofs.YthgbhnedfdnfpaaGreatDoor
set_option maxRecDepth 100000
open Go.RowKit

def headS (n : Nat) : ByteArray := (formsL n).getD 0 ⟨#[]⟩
theorem forms_pos (n : Nat) : 0 < (formsL n).length := by unfold formsL preL; simp; omega
theorem SaysStrB.of {w w1 w2 : World} {s : ByteArray} {b : Bool} {e : Ending} (h : SaysStrB w1 s b e w2) (hb : Below w.heap.size w w1) : SaysStrB w s b e w2 := ⟨h.1, hb.trans (h.2.mono hb.size)⟩
theorem nuText_any (n : Nat) (hn : (n : Int) ≤ 1000000000) (w : World) :
    Calls Tryz.prog 97 #[.int .i64 n] w fun e w' => e = .returned (.string (headS n)) ∧ Below w.heap.size w w' := by
  have HN : Hid (∀ w, Calls Tryz.prog 117 #[.int .i64 n] w fun e w' => ∃ (g l cap : Nat), 0 < l ∧ e = .returned (.slice (some ⟨g, 0, none⟩) l cap) ∧ w'.cell? ⟨g, 0, none⟩ = some (.string (headS n)) ∧ Below w.heap.size w w') :=
    Lib.hid (fun w => (nuForms_any n hn w).mono fun e w' ⟨v, he, ho, hb⟩ => by
      obtain ⟨g, cap, rfl, hs⟩ := ho.some (forms_pos n)
      exact ⟨g, _, cap, forms_pos n, he, hs.cell 0 (forms_pos n), hb⟩)
  go_enter Tryz.func97, Tryz.ntmps97
  go_wp2_with (go_at_call 117; refine (HN.out _).mono ?_; rintro e w1 ⟨g, l, cap, hl, rfl, hc, hb⟩; have HB := Lib.hid hb; clear hb)
  go_ret
  exact ⟨rfl, HB.out⟩
theorem implNumberText_any (n : Nat) (hn : (n : Int) ≤ 1000000000) (w : World) (hU : Hid (Units w)) (hP : Hid (Pow w)) :
    Calls Tryz.prog 40 #[.int .i64 n] w (SaysStrB w (headS n) true) := by
  have HN : Hid (∀ w, Hid (Units w) → Hid (Pow w) → Calls Tryz.prog 68 #[.int .i64 n] w fun e w' => ∃ (g l cap : Nat), 0 < l ∧ e = .returned (.tuple #[.slice (some ⟨g, 0, none⟩) l cap, .bool true]) ∧ w'.cell? ⟨g, 0, none⟩ = some (.string (headS n)) ∧ Below w.heap.size w w') :=
    Lib.hid (fun w hU hP => (implForms_any n hn w hU hP).mono fun e w' ⟨v, he, ho, hb⟩ => by
      obtain ⟨g, cap, rfl, hs⟩ := ho.some (forms_pos n)
      exact ⟨g, _, cap, forms_pos n, he, hs.cell 0 (forms_pos n), hb⟩)
  go_enter Tryz.func40, Tryz.ntmps40
  go_wp2_with (go_at_call 68; refine (HN.out _ hU hP).mono ?_; rintro e w1 ⟨g, l, cap, hl, rfl, hc, hb⟩; have HB := Lib.hid hb; clear hb)
  go_ret2
  exact ⟨rfl, HB.out⟩
end Go.Proofs.YthgbhnedfdnfpaaGreatDoor
