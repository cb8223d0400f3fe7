import Derived.Test.YtkpocljlmbihcaaDoorPke
import Derived.Test.YtkpocljlmbihcaaDoorPkf
import Derived.Deep.QuietTactic
import Derived.BigQuiet
import Derived.Lib.ItoaMem
import Derived.Lib.AppendIntMem
import Derived.Test.YtkpocljlmbihcaaDoorPka
import Derived.Deep.AppendLies
import Derived.Deep.RegionLaw
/- The texts of a value in the model: contracts of nuForms. -/
namespace Go.Proofs.YtkpocljlmbihcaaDoor
set_option maxRecDepth 100000
open Go.RowKit

def mF (n : Nat) : ByteArray := numS (n / 1000000) ++ ⟨#[109]⟩
def kF (n : Nat) : ByteArray := numS (n / 1000) ++ ⟨#[107]⟩
/-- has a text with the unit m, with the unit k -/
def isM (n : Nat) : Bool := decide (n % 1000000 = 0) && decide (0 < n)
def isK (n : Nat) : Bool := decide (n % 1000 = 0) && decide (0 < n)
/-- the texts of a value with the first k units -/
def preL (n : Nat) : Nat → List ByteArray
  | 0 => []
  | 1 => if isM n then [mF n] else []
  | 2 => (if isM n then [mF n] else []) ++ (if isK n then [kF n] else [])
  | _ => (if isM n then [mF n] else []) ++ (if isK n then [kF n] else []) ++ [numS n]
/-- all texts of a value -/
def formsL (n : Nat) : List ByteArray := preL n 3
theorem preL_le (n k : Nat) : (preL n k).length ≤ 3 := by
  unfold preL
  split <;> (repeat' split) <;> simp
theorem UnitsAt.below {w w' : World} {g B : Nat} (h : UnitsAt w g) (hb : Below B w w') (hg : g < B) : UnitsAt w' g :=
  ⟨(hb.cell (p := ⟨g, 0, none⟩) hg).trans h.1, (hb.cell (p := ⟨g, 1, none⟩) hg).trans h.2.1, (hb.cell (p := ⟨g, 2, none⟩) hg).trans h.2.2⟩
theorem OwnZ.base {w : World} {B B' n : Nat} {v : Value} {l : List ByteArray} (h : OwnZ w B v n l) (hB : B' ≤ B) : OwnZ w B' v n l := by
  obtain ⟨h1, h2⟩ := h
  refine ⟨h1, ?_⟩
  rcases h2 with h2 | ⟨g', cap', cur, a, b, c, d⟩
  · exact .inl h2
  · exact .inr ⟨g', cap', cur, a, Nat.le_trans hB b, c, d⟩
def FormRel (w1 : World) (n : Nat) (v i : Value) (wr : World) : Prop :=
  ∃ k : Nat, k ≤ 3 ∧ i = .int .i64 k ∧ OwnZ wr w1.heap.size v (preL n k).length (preL n k) ∧ Below w1.heap.size w1 wr
theorem OwnZ.to {w : World} {B n m : Nat} {v : Value} {l l' : List ByteArray} (h : OwnZ w B v n l) (hl : l = l') (hn : n = m) : OwnZ w B v m l' := by subst hl hn; exact h
theorem size_lit (c : UInt8) : (⟨#[c]⟩ : ByteArray).size = 1 := rfl
theorem pm1 {n : Nat} (e : isM n = true) : preL n 0 ++ [mF n] = preL n 1 := by simp [preL, e]
theorem pm0 {n : Nat} (e : isM n = false) : preL n 0 = preL n 1 := by simp [preL, e]
theorem pk1 {n : Nat} (e : isK n = true) : preL n 1 ++ [kF n] = preL n 2 := by simp [preL, e]
theorem pk0 {n : Nat} (e : isK n = false) : preL n 1 = preL n 2 := by simp [preL, e]
theorem pn1 (n : Nat) : preL n 2 ++ [numS n] = preL n 3 := by simp [preL]
theorem str_nil (a : ByteArray) : a ++ (⟨#[]⟩ : ByteArray) = a := by apply ByteArray.ext; simp [ByteArray.data_append]
theorem snoc_len {l l' : List ByteArray} {c : ByteArray} (h : l ++ [c] = l') : l.length + 1 = l'.length := by rw [← h]; simp
theorem isM_zero : isM 0 = false := rfl
theorem isK_zero : isK 0 = false := rfl
theorem pn2 (n : Nat) : preL n 2 ++ [numS n ++ ⟨#[]⟩] = preL n 3 := by rw [str_nil]; exact pn1 n
theorem formsL_zero : formsL 0 = preL 0 3 := rfl
set_option maxHeartbeats 6400000 in
theorem nuForms_pos (n : Nat) (hn : (n : Int) ≤ 1000000000) (hp : 0 < (n : Int)) (w : World) :
    Calls Tryd.prog 69 #[.int .i64 n] w fun e w' => ∃ v, e = .returned v ∧ OwnZ w' w.heap.size v (formsL n).length (formsL n) ∧ Below w.heap.size w w' := by
  obtain ⟨i0, hi, hz0, hz1, hz2⟩ := info_parts infoStr
  have N1 : Hid (∀ w, Calls Tryd.prog 37 #[.int .i64 ((n : Int) / 1000000)] w fun e w' => e = .returned (.string (numS (n / 1000000))) ∧ Below w.heap.size w w') := Lib.hid (l1Num_any (n / 1000000) (by omega))
  have N2 : Hid (∀ w, Calls Tryd.prog 37 #[.int .i64 ((n : Int) / 1000)] w fun e w' => e = .returned (.string (numS (n / 1000))) ∧ Below w.heap.size w w') := Lib.hid (l1Num_any (n / 1000) (by omega))
  have N3 := Lib.hid (l1Num_any n hn)
  have S1 : (numS (n / 1000000)).size ≤ 1000000001 := by have := numS_size (n / 1000000); omega
  have S2 : (numS (n / 1000)).size ≤ 1000000001 := by have := numS_size (n / 1000); omega
  have S3 : (numS n).size ≤ 1000000001 := by have := numS_size n; omega
  have dp := is_lt hp
  go_enter Tryd.func69, Tryd.ntmps69
  go_wp2_with (go_at_call 88; refine (nuUnits_any _).mono ?_; rintro e w1 ⟨rfl, hu, b1⟩; have HU := Lib.hid hu; have HS : Hid (w.heap.size < w1.heap.size) := Lib.hid (World.block_lt_of_cell? _ _ hu.1); have B1 := Lib.hid b1; clear b1 hu)
  go_loopw [3, 8] (fun v i wr => FormRel w1 n v i wr) (fun _ i _ => 3 - (intOf i).toNat)
  case atStart => exact ⟨0, by omega, rfl, World.ownsRow_nil _ _ _ _, Below.refl _ _⟩
  case round =>
    obtain ⟨k, hk, rfl, ho, hb⟩ := hrel
    have HO1 := Lib.hid ho
    have HB1 := Lib.hid hb
    have HUr := Lib.hid (HU.out.below hb HS.out)
    clear ho hb
    obtain ⟨u0, u1, u2⟩ := HUr.out
    rcases (show k = 0 ∨ k = 1 ∨ k = 2 ∨ k = 3 by omega) with rfl | rfl | rfl | rfl
    · by_cases hm : (n : Int) % 1000000 = 0
      · have dm : ((n : Int) % 1000000 == 0) = true := by simp [hm]
        have e : isM n = true := by unfold isM; simp; omega
        clear hm
        go_wp2_with (first | (go_at_call 89; (with_reducible refine (nuSize_0 _).mono ?_); rintro e w2 ⟨rfl, b2⟩; have HO1 := Lib.hid (HO1.out.below b2 (Nat.le_refl _)); have HB1 := Lib.hid (HB1.out.trans (b2.mono HB1.out.size)); clear b2) | (go_at_call 37; (with_reducible refine (N1.out _).mono ?_); rintro e w2 ⟨rfl, b2⟩; have HO1 := Lib.hid (HO1.out.below b2 (Nat.le_refl _)); have HB1 := Lib.hid (HB1.out.trans (b2.mono HB1.out.size)); clear b2) | (at_builtin; refine wpList_append_own _ rfl _ _ 66 rfl w1.heap.size 9 i0 (.string ⟨#[]⟩) 1 16 Tryd.underlying66 hi hz0 hz1 hz2 rfl (by decide) _ _ _ rfl (World.ownsRow.alloc (w := w2) HO1.out _) ⟨w2.heap.size, 0, none⟩ 1 1 [.string (numS (n / 1000000) ++ ⟨#[109]⟩)] rfl rfl (one_new w2 _ _) (by intro u hu; simp at hu; subst hu; rfl) (by have := preL_le n 0; unfold maxLen; omega) (by have := preL_le n 0; omega) (by have := HB1.out.size; simp; omega) ?_; intro v' w3 hown1 hgrow1 _; have R := Lib.hid (OwnZ.snoc (wr := w2) HO1.out HB1.out.size HB1.out hown1 hgrow1); clear hown1 hgrow1))
        go_roundw
        case rel => exact ⟨1, by omega, by go_num, R.out.1.to (pm1 e) (snoc_len (pm1 e)), R.out.2⟩
        case measure => simp [intOf]
      · have dm : ((n : Int) % 1000000 == 0) = false := by simp [hm]
        have e : isM n = false := by unfold isM; simp; omega
        clear hm
        go_wp2_with (go_at_call 89; (with_reducible refine (nuSize_0 _).mono ?_); rintro e w2 ⟨rfl, b2⟩; have HO1 := Lib.hid (HO1.out.below b2 (Nat.le_refl _)); have HB1 := Lib.hid (HB1.out.trans (b2.mono HB1.out.size)); clear b2)
        go_roundw
        case rel => exact ⟨1, by omega, by go_num, HO1.out.to (pm0 e) (by rw [pm0 e]), HB1.out⟩
        case measure => simp [intOf]
    · by_cases hm : (n : Int) % 1000 = 0
      · have dm : ((n : Int) % 1000 == 0) = true := by simp [hm]
        have e : isK n = true := by unfold isK; simp; omega
        clear hm
        go_wp2_with (first | (go_at_call 89; (with_reducible refine (nuSize_1 _).mono ?_); rintro e w2 ⟨rfl, b2⟩; have HO1 := Lib.hid (HO1.out.below b2 (Nat.le_refl _)); have HB1 := Lib.hid (HB1.out.trans (b2.mono HB1.out.size)); clear b2) | (go_at_call 37; (with_reducible refine (N2.out _).mono ?_); rintro e w2 ⟨rfl, b2⟩; have HO1 := Lib.hid (HO1.out.below b2 (Nat.le_refl _)); have HB1 := Lib.hid (HB1.out.trans (b2.mono HB1.out.size)); clear b2) | (at_builtin; refine wpList_append_own _ rfl _ _ 66 rfl w1.heap.size 9 i0 (.string ⟨#[]⟩) 1 16 Tryd.underlying66 hi hz0 hz1 hz2 rfl (by decide) _ _ _ rfl (World.ownsRow.alloc (w := w2) HO1.out _) ⟨w2.heap.size, 0, none⟩ 1 1 [.string (numS (n / 1000) ++ ⟨#[107]⟩)] rfl rfl (one_new w2 _ _) (by intro u hu; simp at hu; subst hu; rfl) (by have := preL_le n 1; unfold maxLen; omega) (by have := preL_le n 1; omega) (by have := HB1.out.size; simp; omega) ?_; intro v' w3 hown1 hgrow1 _; have R := Lib.hid (OwnZ.snoc (wr := w2) HO1.out HB1.out.size HB1.out hown1 hgrow1); clear hown1 hgrow1))
        go_roundw
        case rel => exact ⟨2, by omega, by go_num, R.out.1.to (pk1 e) (snoc_len (pk1 e)), R.out.2⟩
        case measure => simp [intOf]
      · have dm : ((n : Int) % 1000 == 0) = false := by simp [hm]
        have e : isK n = false := by unfold isK; simp; omega
        clear hm
        go_wp2_with (go_at_call 89; (with_reducible refine (nuSize_1 _).mono ?_); rintro e w2 ⟨rfl, b2⟩; have HO1 := Lib.hid (HO1.out.below b2 (Nat.le_refl _)); have HB1 := Lib.hid (HB1.out.trans (b2.mono HB1.out.size)); clear b2)
        go_roundw
        case rel => exact ⟨2, by omega, by go_num, HO1.out.to (pk0 e) (by rw [pk0 e]), HB1.out⟩
        case measure => simp [intOf]
    · go_wp2_with (first | (go_at_call 89; (with_reducible refine (nuSize_2 _).mono ?_); rintro e w2 ⟨rfl, b2⟩; have HO1 := Lib.hid (HO1.out.below b2 (Nat.le_refl _)); have HB1 := Lib.hid (HB1.out.trans (b2.mono HB1.out.size)); clear b2) | (go_at_call 37; (with_reducible refine (N3.out _).mono ?_); rintro e w2 ⟨rfl, b2⟩; have HO1 := Lib.hid (HO1.out.below b2 (Nat.le_refl _)); have HB1 := Lib.hid (HB1.out.trans (b2.mono HB1.out.size)); clear b2) | (at_builtin; refine wpList_append_own _ rfl _ _ 66 rfl w1.heap.size 9 i0 (.string ⟨#[]⟩) 1 16 Tryd.underlying66 hi hz0 hz1 hz2 rfl (by decide) _ _ _ rfl (World.ownsRow.alloc (w := w2) HO1.out _) ⟨w2.heap.size, 0, none⟩ 1 1 [.string (numS n ++ ⟨#[]⟩)] rfl rfl (one_new w2 _ _) (by intro u hu; simp at hu; subst hu; rfl) (by have := preL_le n 2; unfold maxLen; omega) (by have := preL_le n 2; omega) (by have := HB1.out.size; simp; omega) ?_; intro v' w3 hown1 hgrow1 _; have R := Lib.hid (OwnZ.snoc (wr := w2) HO1.out HB1.out.size HB1.out hown1 hgrow1); clear hown1 hgrow1))
      go_roundw
      case rel => exact ⟨3, by omega, by go_num, R.out.1.to (pn2 n) (snoc_len (pn2 n)), R.out.2⟩
      case measure => simp [intOf]
    · go_wp2
      go_ret
      exact ⟨_, rfl, HO1.out.base B1.out.size, B1.out.trans (HB1.out.mono B1.out.size)⟩
set_option maxHeartbeats 6400000 in
theorem nuForms_zero (w : World) :
    Calls Tryd.prog 69 #[.int .i64 0] w fun e w' => ∃ v, e = .returned v ∧ OwnZ w' w.heap.size v (formsL 0).length (formsL 0) ∧ Below w.heap.size w w' := by
  obtain ⟨i0, hi, hz0, hz1, hz2⟩ := info_parts infoStr
  have N3 : Hid (∀ w, Calls Tryd.prog 37 #[.int .i64 0] w fun e w' => e = .returned (.string (numS 0)) ∧ Below w.heap.size w w') := Lib.hid (l1Num_any 0 (by omega))
  have S3 : (numS 0).size ≤ 1000000001 := by have := numS_size 0; omega
  go_enter Tryd.func69, Tryd.ntmps69
  go_wp2_with (go_at_call 88; refine (nuUnits_any _).mono ?_; rintro e w1 ⟨rfl, hu, b1⟩; have HU := Lib.hid hu; have HS : Hid (w.heap.size < w1.heap.size) := Lib.hid (World.block_lt_of_cell? _ _ hu.1); have B1 := Lib.hid b1; clear b1 hu)
  go_loopw [3, 8] (fun v i wr => FormRel w1 0 v i wr) (fun _ i _ => 3 - (intOf i).toNat)
  case atStart => exact ⟨0, by omega, rfl, World.ownsRow_nil _ _ _ _, Below.refl _ _⟩
  case round =>
    obtain ⟨k, hk, rfl, ho, hb⟩ := hrel
    have HO1 := Lib.hid ho
    have HB1 := Lib.hid hb
    have HUr := Lib.hid (HU.out.below hb HS.out)
    clear ho hb
    obtain ⟨u0, u1, u2⟩ := HUr.out
    rcases (show k = 0 ∨ k = 1 ∨ k = 2 ∨ k = 3 by omega) with rfl | rfl | rfl | rfl
    · go_wp2_with (go_at_call 89; (with_reducible refine (nuSize_0 _).mono ?_); rintro e w2 ⟨rfl, b2⟩; have HO1 := Lib.hid (HO1.out.below b2 (Nat.le_refl _)); have HB1 := Lib.hid (HB1.out.trans (b2.mono HB1.out.size)); clear b2)
      go_roundw
      case rel => exact ⟨1, by omega, by go_num, HO1.out.to (pm0 isM_zero) (by rw [pm0 isM_zero]), HB1.out⟩
      case measure => simp [intOf]
    · go_wp2_with (go_at_call 89; (with_reducible refine (nuSize_1 _).mono ?_); rintro e w2 ⟨rfl, b2⟩; have HO1 := Lib.hid (HO1.out.below b2 (Nat.le_refl _)); have HB1 := Lib.hid (HB1.out.trans (b2.mono HB1.out.size)); clear b2)
      go_roundw
      case rel => exact ⟨2, by omega, by go_num, HO1.out.to (pk0 isK_zero) (by rw [pk0 isK_zero]), HB1.out⟩
      case measure => simp [intOf]
    · go_wp2_with (first | (go_at_call 89; (with_reducible refine (nuSize_2 _).mono ?_); rintro e w2 ⟨rfl, b2⟩; have HO1 := Lib.hid (HO1.out.below b2 (Nat.le_refl _)); have HB1 := Lib.hid (HB1.out.trans (b2.mono HB1.out.size)); clear b2) | (go_at_call 37; (with_reducible refine (N3.out _).mono ?_); rintro e w2 ⟨rfl, b2⟩; have HO1 := Lib.hid (HO1.out.below b2 (Nat.le_refl _)); have HB1 := Lib.hid (HB1.out.trans (b2.mono HB1.out.size)); clear b2) | (at_builtin; refine wpList_append_own _ rfl _ _ 66 rfl w1.heap.size 9 i0 (.string ⟨#[]⟩) 1 16 Tryd.underlying66 hi hz0 hz1 hz2 rfl (by decide) _ _ _ rfl (World.ownsRow.alloc (w := w2) HO1.out _) ⟨w2.heap.size, 0, none⟩ 1 1 [.string (numS 0 ++ ⟨#[]⟩)] rfl rfl (one_new w2 _ _) (by intro u hu; simp at hu; subst hu; rfl) (by have := preL_le 0 2; unfold maxLen; omega) (by have := preL_le 0 2; omega) (by have := HB1.out.size; simp; omega) ?_; intro v' w3 hown1 hgrow1 _; have R := Lib.hid (OwnZ.snoc (wr := w2) HO1.out HB1.out.size HB1.out hown1 hgrow1); clear hown1 hgrow1))
      go_roundw
      case rel => exact ⟨3, by omega, by go_num, R.out.1.to (pn2 0) (snoc_len (pn2 0)), R.out.2⟩
      case measure => simp [intOf]
    · go_wp2
      go_ret
      exact ⟨_, rfl, HO1.out.base B1.out.size, B1.out.trans (HB1.out.mono B1.out.size)⟩
theorem nuForms_any (n : Nat) (hn : (n : Int) ≤ 1000000000) (w : World) :
    Calls Tryd.prog 69 #[.int .i64 n] w fun e w' => ∃ v, e = .returned v ∧ OwnZ w' w.heap.size v (formsL n).length (formsL n) ∧ Below w.heap.size w w' := by
  rcases Nat.eq_zero_or_pos n with rfl | h
  · exact nuForms_zero w
  · exact nuForms_pos n hn (by omega) w
end Go.Proofs.YtkpocljlmbihcaaDoor

/- Decimal numerals: strconv.Itoa as the program calls it. -/
namespace Go.Proofs.YtkpocljlmbihcaaDoor
set_option maxRecDepth 100000
open Go.RowKit

/-- the table of powers of ten is in its place -/
def Pow (w : World) : Prop := Lib.TabIs Tryd.prog w "internal/strconv.uint64pow10" .u64 Lib.pow10Tab
theorem Pow.below {w w' : World} (h : Pow w) (hb : Below w.heap.size w w') : Pow w' := Lib.tabBelow_of_tabIs h w' hb
theorem gPow : Tryd.prog.globalNamed "internal/strconv.uint64pow10" = some 4 := by kernel_rfl
theorem tPow : (Tryd.prog.globals[4]?).map (·.type) = some 138 := by kernel_rfl
theorem cPow : Tryd.prog.cellsOf 138 = 20 := by kernel_rfl
theorem cU64 : Tryd.prog.cellsOf 116 = 1 := by kernel_rfl
theorem pow10_of_head {W : World} {r : List (String × DataW Unit)} (h : laidMet Tryd.prog (("internal/strconv.uint64pow10", Rows.laid_internal_strconv_uint64pow10) :: r) W) : Pow W :=
  Lib.tabIs_of_head gPow tPow Tryd.underlying138 Tryd.underlying116 cU64 cPow h
theorem itoa_any (n : Nat) (hn : (n : Int) ≤ 1000000000) (w : World) (hP : Hid (Pow w)) :
    Calls Tryd.prog 22 #[.int .i64 n] w fun e w' => e = .returned (.string (numS n)) ∧ Below w.heap.size w w' :=
  (Tryd.strconv_Itoa (n : Int) (by omega) (by omega) w hP.out).mono fun e w' ⟨he, k, os, hw⟩ => by
    refine ⟨by rw [he, Lib.itoa_nonneg]; rfl, ?_⟩
    subst hw
    exact Lib.below_grow _ w (Nat.le_refl _) k os
end Go.Proofs.YtkpocljlmbihcaaDoor

/- Values: contracts of the functions of chapter 2 that only compute with numbers: isValue, MultiplyValues, ScaleValue, programs and models. -/
namespace Go.Proofs.YtkpocljlmbihcaaDoor
set_option maxRecDepth 100000
open Go.RowKit

theorem isValue_true (n : Int) (w : World) (h0 : 0 ≤ n) (h1 : n ≤ 1000000000) :
    Calls Tryd.prog 74 #[.int .i64 n] w fun e w' => e = .returned (.bool true) ∧ w = w' := by
  go_enter Tryd.func74, Tryd.ntmps74
  go_wp2
  go_ret
  exact ⟨rfl, rfl⟩
theorem isValue_false (n : Int) (w : World) (h : n < 0 ∨ 1000000000 < n) :
    Calls Tryd.prog 74 #[.int .i64 n] w fun e w' => e = .returned (.bool false) ∧ w = w' := by
  rcases Int.lt_or_le n 0 with c | c
  · have d : decide ((0 : Int) ≤ n) = false := not_le c
    clear h
    go_enter Tryd.func74, Tryd.ntmps74
    go_wp2
    go_ret
    exact ⟨rfl, rfl⟩
  · have h' : 1000000000 < n := by omega
    have d := not_le h'
    clear h
    go_enter Tryd.func74, Tryd.ntmps74
    go_wp2
    go_ret
    exact ⟨rfl, rfl⟩
/-- both functions say the same -/
def SaysNum (f : FuncId) (args : Array Value) (r : Int) (ok : Bool) : Prop :=
  ∀ w, Calls Tryd.prog f args w fun e w' => e = .returned (.tuple #[.int .i64 r, .bool ok]) ∧ w = w'


end Go.Proofs.YtkpocljlmbihcaaDoor

/- The texts of a value in the program: contracts of FormsOf. -/
namespace Go.Proofs.YtkpocljlmbihcaaDoor
set_option maxRecDepth 100000
open Go.RowKit

def FormRelI (w : World) (n : Nat) (v i : Value) (wr : World) : Prop :=
  ∃ k : Nat, k ≤ 2 ∧ i = .int .i64 k ∧ OwnZ wr w.heap.size v (preL n k).length (preL n k) ∧ Below w.heap.size w wr
set_option maxHeartbeats 6400000 in
theorem implForms_pos (n : Nat) (hn : (n : Int) ≤ 1000000000) (hp : 0 < (n : Int)) (w : World) (hU : Hid (Units w)) (hP : Hid (Pow w)) :
    Calls Tryd.prog 49 #[.int .i64 n] w fun e w' => ∃ v, e = .returned (.tuple #[v, .bool true]) ∧ OwnZ w' w.heap.size v (formsL n).length (formsL n) ∧ Below w.heap.size w w' := by
  obtain ⟨i0, hi, hz0, hz1, hz2⟩ := info_parts infoStr
  obtain ⟨c0, c1, c2, c3⟩ := hU.out
  have j0 := unit_at0
  have j1 := unit_at1
  have N1 : Hid (∀ w, Hid (Pow w) → Calls Tryd.prog 22 #[.int .i64 ((n : Int) / 1000000)] w fun e w' => e = .returned (.string (numS (n / 1000000))) ∧ Below w.heap.size w w') := Lib.hid (itoa_any (n / 1000000) (by omega))
  have N2 : Hid (∀ w, Hid (Pow w) → Calls Tryd.prog 22 #[.int .i64 ((n : Int) / 1000)] w fun e w' => e = .returned (.string (numS (n / 1000))) ∧ Below w.heap.size w w') := Lib.hid (itoa_any (n / 1000) (by omega))
  have N3 := Lib.hid (itoa_any n hn)
  have S1 : (numS (n / 1000000)).size ≤ 1000000001 := by have := numS_size (n / 1000000); omega
  have S2 : (numS (n / 1000)).size ≤ 1000000001 := by have := numS_size (n / 1000); omega
  have S3 : (numS n).size ≤ 1000000001 := by have := numS_size n; omega
  have d0 : ((n : Int) != 0) = true := by simp; omega
  go_enter Tryd.func49, Tryd.ntmps49
  go_wp2_with (go_at_call 74; refine (isValue_true _ _ (by omega) hn).mono ?_; rintro e w' ⟨rfl, rfl⟩)
  go_loopw [4, 11] (fun v i wr => FormRelI w n v i wr) (fun _ i _ => 2 - (intOf i).toNat)
  case atStart => exact ⟨0, by omega, rfl, World.ownsRow_nil _ _ _ _, Below.refl _ _⟩
  case round =>
    obtain ⟨k, hk, rfl, ho, hb⟩ := hrel
    have HO1 := Lib.hid ho
    have HB1 := Lib.hid hb
    have HPr : Hid (Pow wr) := Lib.hid (hP.out.below hb)
    clear ho hb
    rcases (show k = 0 ∨ k = 1 ∨ k = 2 by omega) with rfl | rfl | rfl
    · by_cases hm : (n : Int) % 1000000 = 0
      · have dm : ((n : Int) % 1000000 == 0) = true := by simp [hm]
        have e : isM n = true := by unfold isM; simp; omega
        clear hm
        go_wp2_with fail
        obtain ⟨wu, hwu⟩ : ∃ wu, wr.alloc (.cells #[.string ⟨#[109]⟩, .int .i64 1000000] 103) = wu := ⟨_, rfl⟩
        rw [hwu]
        obtain ⟨k2, k3⟩ := unit_cells _ _ _ _ _ hwu.symm
        have bu := unit_below _ _ _ _ _ hwu.symm
        have HOu := Lib.hid (HO1.out.below bu (Nat.le_refl _))
        have HBu := Lib.hid (HB1.out.trans (bu.mono HB1.out.size))
        have HPu : Hid (Pow wu) := Lib.hid (HPr.out.below bu)
        clear bu hwu
        have q1 : IntKind.i64.wrap ((n : Int) / 1000000) = (n : Int) / 1000000 := IntWalk.i64_in _ (by omega)
        have q2 : (n : Int).tdiv 1000000 = (n : Int) / 1000000 := Int.tdiv_eq_ediv_of_nonneg (by omega)
        have hno : ¬ (9223372036854775807 < (numS (n / 1000000)).size + (⟨#[109]⟩ : ByteArray).size) := by rw [size_lit]; omega
        have hno2 : ¬ (9223372036854775807 < (numS (n / 1000000)).size + 1) := by omega
        go_region_law (first
          | (refine step_append_lies _ (by rfl) _ _ _ (by rfl) w.heap.size 9 i0 (.string ⟨#[]⟩) 1 16 Tryd.underlying66 hi hz0 hz1 hz2 rfl (by decide) _ _ _ (by rfl) (World.ownsRow.alloc (w := w2) HO2.out _) ⟨w2.heap.size, 0, none⟩ 1 1 [.string (numS (n / 1000000) ++ ⟨#[109]⟩)] (by rfl) (by rfl) (one_new w2 _ _) (by intro u hu; simp at hu; subst hu; rfl) (by omega) (by have := preL_le n 0; unfold maxLen; omega) (by have := preL_le n 0; omega) (by have := HB2.out.size; simp; omega) _ rfl ?_; intro g cap w3 hown1 hgrow1 _ _; have R := Lib.hid (OwnZ.snoc (wr := w2) HO2.out HB2.out.size HB2.out hown1 hgrow1); clear hown1 hgrow1)
          | (go_simp; go_at_call 22; refine (N1.out wu.drew (show Hid (Pow wu.drew) from HPu)).mono ?_; rintro e w2 ⟨rfl, b2⟩; have HO2 := Lib.hid (OwnZ.below (w := wu.drew) HOu.out b2 (Nat.le_refl _)); have HB2 := Lib.hid ((show Below w.heap.size w wu.drew from below_drewN HBu.out 1).trans (b2.mono (show w.heap.size ≤ wu.heap.size from HBu.out.size))); have k4 := (b2.cell (p := ⟨wr.heap.size, 0, none⟩) (World.block_lt_of_cell? wu _ k2)).trans k2; have k5 := (b2.cell (p := ⟨wr.heap.size, 1, none⟩) (World.block_lt_of_cell? wu _ k3)).trans k3; clear b2))
        all_goals
          go_wp2
          go_roundw
          case rel => exact ⟨1, by omega, by go_num, R.out.1.to (pm1 e) (snoc_len (pm1 e)), R.out.2⟩
          case measure => simp [intOf]
      · have dm : ((n : Int) % 1000000 == 0) = false := by simp [hm]
        have e : isM n = false := by unfold isM; simp; omega
        clear hm
        go_wp2_with fail
        go_roundw
        case rel => exact ⟨1, by omega, by go_num, (HO1.out.below ((Below.refl _ _).alloc (Nat.le_refl _) _) (Nat.le_refl _)).to (pm0 e) (by rw [pm0 e]), HB1.out.alloc HB1.out.size _⟩
        case measure => simp [intOf]
    · by_cases hm : (n : Int) % 1000 = 0
      · have dm : ((n : Int) % 1000 == 0) = true := by simp [hm]
        have e : isK n = true := by unfold isK; simp; omega
        clear hm
        go_wp2_with fail
        obtain ⟨wu, hwu⟩ : ∃ wu, wr.alloc (.cells #[.string ⟨#[107]⟩, .int .i64 1000] 103) = wu := ⟨_, rfl⟩
        rw [hwu]
        obtain ⟨k2, k3⟩ := unit_cells _ _ _ _ _ hwu.symm
        have bu := unit_below _ _ _ _ _ hwu.symm
        have HOu := Lib.hid (HO1.out.below bu (Nat.le_refl _))
        have HBu := Lib.hid (HB1.out.trans (bu.mono HB1.out.size))
        have HPu : Hid (Pow wu) := Lib.hid (HPr.out.below bu)
        clear bu hwu
        have q1 : IntKind.i64.wrap ((n : Int) / 1000) = (n : Int) / 1000 := IntWalk.i64_in _ (by omega)
        have q2 : (n : Int).tdiv 1000 = (n : Int) / 1000 := Int.tdiv_eq_ediv_of_nonneg (by omega)
        have hno : ¬ (9223372036854775807 < (numS (n / 1000)).size + (⟨#[107]⟩ : ByteArray).size) := by rw [size_lit]; omega
        have hno2 : ¬ (9223372036854775807 < (numS (n / 1000)).size + 1) := by omega
        go_region_law (first
          | (refine step_append_lies _ (by rfl) _ _ _ (by rfl) w.heap.size 9 i0 (.string ⟨#[]⟩) 1 16 Tryd.underlying66 hi hz0 hz1 hz2 rfl (by decide) _ _ _ (by rfl) (World.ownsRow.alloc (w := w2) HO2.out _) ⟨w2.heap.size, 0, none⟩ 1 1 [.string (numS (n / 1000) ++ ⟨#[107]⟩)] (by rfl) (by rfl) (one_new w2 _ _) (by intro u hu; simp at hu; subst hu; rfl) (by omega) (by have := preL_le n 1; unfold maxLen; omega) (by have := preL_le n 1; omega) (by have := HB2.out.size; simp; omega) _ rfl ?_; intro g cap w3 hown1 hgrow1 _ _; have R := Lib.hid (OwnZ.snoc (wr := w2) HO2.out HB2.out.size HB2.out hown1 hgrow1); clear hown1 hgrow1)
          | (go_simp; go_at_call 22; refine (N2.out wu.drew (show Hid (Pow wu.drew) from HPu)).mono ?_; rintro e w2 ⟨rfl, b2⟩; have HO2 := Lib.hid (OwnZ.below (w := wu.drew) HOu.out b2 (Nat.le_refl _)); have HB2 := Lib.hid ((show Below w.heap.size w wu.drew from below_drewN HBu.out 1).trans (b2.mono (show w.heap.size ≤ wu.heap.size from HBu.out.size))); have k4 := (b2.cell (p := ⟨wr.heap.size, 0, none⟩) (World.block_lt_of_cell? wu _ k2)).trans k2; have k5 := (b2.cell (p := ⟨wr.heap.size, 1, none⟩) (World.block_lt_of_cell? wu _ k3)).trans k3; clear b2))
        all_goals
          go_wp2
          go_roundw
          case rel => exact ⟨2, by omega, by go_num, R.out.1.to (pk1 e) (snoc_len (pk1 e)), R.out.2⟩
          case measure => simp [intOf]
      · have dm : ((n : Int) % 1000 == 0) = false := by simp [hm]
        have e : isK n = false := by unfold isK; simp; omega
        clear hm
        go_wp2_with fail
        go_roundw
        case rel => exact ⟨2, by omega, by go_num, (HO1.out.below ((Below.refl _ _).alloc (Nat.le_refl _) _) (Nat.le_refl _)).to (pk0 e) (by rw [pk0 e]), HB1.out.alloc HB1.out.size _⟩
        case measure => simp [intOf]
    · go_wp2_with (first
        | (go_at_call 22; (with_reducible refine (N3.out _ HPr).mono ?_); rintro e w2 ⟨rfl, b2⟩; have HO2 := Lib.hid (HO1.out.below b2 (Nat.le_refl _)); have HB2 := Lib.hid (HB1.out.trans (b2.mono HB1.out.size)); clear b2)
        | (at_builtin; refine wpList_append_own _ rfl _ _ 66 rfl w.heap.size 9 i0 (.string ⟨#[]⟩) 1 16 Tryd.underlying66 hi hz0 hz1 hz2 rfl (by decide) _ _ _ rfl (World.ownsRow.alloc (w := w2) HO2.out _) ⟨w2.heap.size, 0, none⟩ 1 1 [.string (numS n)] rfl rfl (one_new w2 _ _) (by intro u hu; simp at hu; subst hu; rfl) (by have := preL_le n 2; unfold maxLen; omega) (by have := preL_le n 2; omega) (by have := HB2.out.size; simp; omega) ?_; intro v' w3 hown1 hgrow1 _; have R := Lib.hid (OwnZ.snoc (wr := w2) HO2.out HB2.out.size HB2.out hown1 hgrow1); clear hown1 hgrow1))
      go_ret2
      exact ⟨_, rfl, R.out.1.to (pn1 n) (snoc_len (pn1 n)), R.out.2⟩
set_option maxHeartbeats 6400000 in
theorem implForms_zero (w : World) (hU : Hid (Units w)) (hP : Hid (Pow w)) :
    Calls Tryd.prog 49 #[.int .i64 0] w fun e w' => ∃ v, e = .returned (.tuple #[v, .bool true]) ∧ OwnZ w' w.heap.size v (formsL 0).length (formsL 0) ∧ Below w.heap.size w w' := by
  obtain ⟨i0, hi, hz0, hz1, hz2⟩ := info_parts infoStr
  obtain ⟨c0, c1, c2, c3⟩ := hU.out
  have j0 := unit_at0
  have j1 := unit_at1
  have N3 : Hid (∀ w, Hid (Pow w) → Calls Tryd.prog 22 #[.int .i64 0] w fun e w' => e = .returned (.string (numS 0)) ∧ Below w.heap.size w w') := Lib.hid (itoa_any 0 (by omega))
  have S3 : (numS 0).size ≤ 1000000001 := by have := numS_size 0; omega
  go_enter Tryd.func49, Tryd.ntmps49
  go_wp2_with (go_at_call 74; refine (isValue_true _ _ (by omega) (by omega)).mono ?_; rintro e w' ⟨rfl, rfl⟩)
  go_loopw [4, 11] (fun v i wr => FormRelI w 0 v i wr) (fun _ i _ => 2 - (intOf i).toNat)
  case atStart => exact ⟨0, by omega, rfl, World.ownsRow_nil _ _ _ _, Below.refl _ _⟩
  case round =>
    obtain ⟨k, hk, rfl, ho, hb⟩ := hrel
    have HO1 := Lib.hid ho
    have HB1 := Lib.hid hb
    have HPr : Hid (Pow wr) := Lib.hid (hP.out.below hb)
    clear ho hb
    rcases (show k = 0 ∨ k = 1 ∨ k = 2 by omega) with rfl | rfl | rfl
    · go_wp2_with fail
      go_roundw
      case rel => exact ⟨1, by omega, by go_num, (HO1.out.below ((Below.refl _ _).alloc (Nat.le_refl _) _) (Nat.le_refl _)).to (pm0 isM_zero) (by rw [pm0 isM_zero]), HB1.out.alloc HB1.out.size _⟩
      case measure => simp [intOf]
    · go_wp2_with fail
      go_roundw
      case rel => exact ⟨2, by omega, by go_num, (HO1.out.below ((Below.refl _ _).alloc (Nat.le_refl _) _) (Nat.le_refl _)).to (pk0 isK_zero) (by rw [pk0 isK_zero]), HB1.out.alloc HB1.out.size _⟩
      case measure => simp [intOf]
    · go_wp2_with (first
        | (go_at_call 22; (with_reducible refine (N3.out _ HPr).mono ?_); rintro e w2 ⟨rfl, b2⟩; have HO2 := Lib.hid (HO1.out.below b2 (Nat.le_refl _)); have HB2 := Lib.hid (HB1.out.trans (b2.mono HB1.out.size)); clear b2)
        | (at_builtin; refine wpList_append_own _ rfl _ _ 66 rfl w.heap.size 9 i0 (.string ⟨#[]⟩) 1 16 Tryd.underlying66 hi hz0 hz1 hz2 rfl (by decide) _ _ _ rfl (World.ownsRow.alloc (w := w2) HO2.out _) ⟨w2.heap.size, 0, none⟩ 1 1 [.string (numS 0)] rfl rfl (one_new w2 _ _) (by intro u hu; simp at hu; subst hu; rfl) (by have := preL_le 0 2; unfold maxLen; omega) (by have := preL_le 0 2; omega) (by have := HB2.out.size; simp; omega) ?_; intro v' w3 hown1 hgrow1 _; have R := Lib.hid (OwnZ.snoc (wr := w2) HO2.out HB2.out.size HB2.out hown1 hgrow1); clear hown1 hgrow1))
      go_ret2
      exact ⟨_, rfl, R.out.1.to (pn1 0) (snoc_len (pn1 0)), R.out.2⟩
theorem implForms_any (n : Nat) (hn : (n : Int) ≤ 1000000000) (w : World) (hU : Hid (Units w)) (hP : Hid (Pow w)) :
    Calls Tryd.prog 49 #[.int .i64 n] w fun e w' => ∃ v, e = .returned (.tuple #[v, .bool true]) ∧ OwnZ w' w.heap.size v (formsL n).length (formsL n) ∧ Below w.heap.size w w' := by
  rcases Nat.eq_zero_or_pos n with rfl | h
  · exact implForms_zero w hU hP
  · exact implForms_pos n hn (by omega) w hU hP
theorem implForms_no (n : Int) (h : Hid (n < 0 ∨ 1000000000 < n)) (w : World) :
    Calls Tryd.prog 49 #[.int .i64 n] w fun e w' => e = .returned (.tuple #[.slice none 0 0, .bool false]) ∧ w = w' := by
  go_enter Tryd.func49, Tryd.ntmps49
  go_wp2_with (go_at_call 74; refine (isValue_false _ _ h.out).mono ?_; rintro e w' ⟨rfl, rfl⟩)
  go_ret2
  exact ⟨rfl, rfl⟩
end Go.Proofs.YtkpocljlmbihcaaDoor

/- Canonical texts: contracts of NumberText, program and model. -/
namespace Go.Proofs.YtkpocljlmbihcaaDoor
set_option maxRecDepth 100000
open Go.RowKit

/-- the canonical text of a value -/
def headS (n : Nat) : ByteArray := (formsL n).getD 0 ⟨#[]⟩
theorem forms_pos (n : Nat) : 0 < (formsL n).length := by unfold formsL preL; simp; omega
theorem forms_le (n : Nat) : (formsL n).length ≤ 8 := Nat.le_trans (preL_le n 3) (by omega)
theorem SaysStrB.of {w w1 w2 : World} {s : ByteArray} {b : Bool} {e : Ending} (h : SaysStrB w1 s b e w2) (hb : Below w.heap.size w w1) : SaysStrB w s b e w2 := ⟨h.1, hb.trans (h.2.mono hb.size)⟩
theorem nuText_any (n : Nat) (hn : (n : Int) ≤ 1000000000) (w : World) :
    Calls Tryd.prog 46 #[.int .i64 n] w fun e w' => e = .returned (.string (headS n)) ∧ Below w.heap.size w w' := by
  have HN : Hid (∀ w, Calls Tryd.prog 69 #[.int .i64 n] w fun e w' => ∃ (g l cap : Nat), 0 < l ∧ e = .returned (.slice (some ⟨g, 0, none⟩) l cap) ∧ w'.cell? ⟨g, 0, none⟩ = some (.string (headS n)) ∧ Below w.heap.size w w') :=
    Lib.hid (fun w => (nuForms_any n hn w).mono fun e w' ⟨v, he, ho, hb⟩ => by
      obtain ⟨g, cap, rfl, hs⟩ := ho.some (forms_pos n)
      exact ⟨g, _, cap, forms_pos n, he, hs.cell 0 (forms_pos n), hb⟩)
  go_enter Tryd.func46, Tryd.ntmps46
  go_wp2_with (go_at_call 69; refine (HN.out _).mono ?_; rintro e w1 ⟨g, l, cap, hl, rfl, hc, hb⟩; have HB := Lib.hid hb; clear hb)
  go_ret
  exact ⟨rfl, HB.out⟩
theorem implNumberText_any (n : Nat) (hn : (n : Int) ≤ 1000000000) (w : World) (hU : Hid (Units w)) (hP : Hid (Pow w)) :
    Calls Tryd.prog 24 #[.int .i64 n] w (SaysStrB w (headS n) true) := by
  have HN : Hid (∀ w, Hid (Units w) → Hid (Pow w) → Calls Tryd.prog 49 #[.int .i64 n] w fun e w' => ∃ (g l cap : Nat), 0 < l ∧ e = .returned (.tuple #[.slice (some ⟨g, 0, none⟩) l cap, .bool true]) ∧ w'.cell? ⟨g, 0, none⟩ = some (.string (headS n)) ∧ Below w.heap.size w w') :=
    Lib.hid (fun w hU hP => (implForms_any n hn w hU hP).mono fun e w' ⟨v, he, ho, hb⟩ => by
      obtain ⟨g, cap, rfl, hs⟩ := ho.some (forms_pos n)
      exact ⟨g, _, cap, forms_pos n, he, hs.cell 0 (forms_pos n), hb⟩)
  go_enter Tryd.func24, Tryd.ntmps24
  go_wp2_with (go_at_call 49; refine (HN.out _ hU hP).mono ?_; rintro e w1 ⟨g, l, cap, hl, rfl, hc, hb⟩; have HB := Lib.hid hb; clear hb)
  go_ret2
  exact ⟨rfl, HB.out⟩
theorem implNumberText_no (n : Int) (h : Hid (n < 0 ∨ 1000000000 < n)) (w : World) :
    Calls Tryd.prog 24 #[.int .i64 n] w (SaysStrB w ⟨#[]⟩ false) := by
  have HN := Lib.hid (fun w => implForms_no n h w)
  go_enter Tryd.func24, Tryd.ntmps24
  go_wp2_with (go_at_call 49; refine (HN.out _).mono ?_; rintro e w' ⟨rfl, rfl⟩)
  go_ret2
  exact ⟨rfl, Below.refl _ _⟩
end Go.Proofs.YtkpocljlmbihcaaDoor
