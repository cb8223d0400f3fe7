/- Names of kinds: KindName, KindNamed: contracts of both sides; the program's map from names to kinds. -/
import Derived.Test.YtdfkehgkonadhaaDoorKwl
import Derived.Test.YtdfkehgkonadhaaDoorOpn
import Derived.Test.YtdfkehgkonadhaaDoorIsi
import Derived.Test.YtdfkehgkonadhaaDoorBxw
import Derived.Maps.OwnSet
import Derived.StringKeys
namespace Go.Proofs.YtdfkehgkonadhaaDoor
set_option maxRecDepth 100000
open Go.RowKit
set_option linter.unusedVariables false

def erA : List ByteArray := [⟨#[110, 111, 110, 101]⟩, ⟨#[98, 121, 116, 101]⟩, ⟨#[116, 111, 107, 101, 110]⟩, ⟨#[110, 117, 109, 98, 101, 114]⟩, ⟨#[100, 101, 112, 116, 104]⟩, ⟨#[99, 111, 117, 110, 116]⟩, ⟨#[101, 110, 100]⟩, ⟨#[110, 97, 109, 101]⟩]
theorem er_len : erA.length = 8 := rfl
def kn (k : Nat) : ByteArray := erA.getD k ⟨#[]⟩
/-- the place of the first text that is the same, from a number on -/
def ixOf (s : ByteArray) : List ByteArray → Nat → Option Nat
  | [], _ => none
  | x :: r, k => if (x.toList == s.toList) = true then Option.some k else ixOf s r (k + 1)
def kdOf (s : ByteArray) : Option Nat := ixOf s erA 0
theorem ix_at (s : ByteArray) (l : List ByteArray) (k m : Nat) (h : k < l.length) : ixOf s (l.drop k) m = if ((l.getD k ⟨#[]⟩).toList == s.toList) = true then Option.some m else ixOf s (l.drop (k + 1)) (m + 1) := by
  rw [List.drop_eq_getElem_cons h, ixOf]
  simp [List.getD_eq_getElem?_getD, h]
theorem ix_end (s : ByteArray) (l : List ByteArray) (k m : Nat) (h : l.length ≤ k) : ixOf s (l.drop k) m = none := by
  rw [List.drop_eq_nil_of_le h]; rfl
/-- the kind with a name, or -1 -/
def kiOf (s : ByteArray) : Int := match kdOf s with | Option.some k => (k : Int) | Option.none => -1
theorem ki_some {s : ByteArray} {k : Nat} (h : kdOf s = Option.some k) : kiOf s = (k : Int) := by unfold kiOf; rw [h]
theorem ki_none {s : ByteArray} (h : kdOf s = none) : kiOf s = -1 := by unfold kiOf; rw [h]
def kdV (s : ByteArray) : Int := match kdOf s with | Option.some k => (k : Int) | Option.none => 0
def kdB (s : ByteArray) : Bool := (kdOf s).isSome
def NmRel (s : ByteArray) (o : Option Nat) (v : Value) : Prop := ∃ k : Nat, k ≤ erA.length ∧ v = .int .i64 k ∧ Hid (ixOf s (erA.drop k) k = o)
theorem erNames_any (w : World) :
    Calls Tryd.prog 30 #[] w fun e w' => e = .returned (.slice (some ⟨w.heap.size, 0, none⟩) 8 8) ∧ TextsAt w' w.heap.size erA ∧ Below w.heap.size w w' := by
  go_enter Tryd.func30, Tryd.ntmps30
  go_wp2
  go_ret
  exact ⟨rfl, texts_new _ erA _ rfl _, (Below.refl _ _).alloc (Nat.le_refl _) _⟩
set_option maxHeartbeats 800000 in
theorem erNamed_any (s : ByteArray) (w : World) : Calls Tryd.prog 32 #[.string s] w (SaysI w (kiOf s)) := by
  obtain ⟨o, ho⟩ : ∃ o, kdOf s = o := ⟨_, rfl⟩
  have H0 : Hid (ixOf s (erA.drop 0) 0 = o) := Lib.hid ho
  have HX : Hid (∀ q, kdOf s = q → kiOf s = match q with | Option.some k => (k : Int) | Option.none => -1) := Lib.hid (fun q h => by unfold kiOf; rw [h])
  have HO := Lib.hid ho
  clear ho
  generalize kiOf s = R at HX ⊢
  go_enter Tryd.func32, Tryd.ntmps32
  go_wp2_with (go_at_call 30; refine (erNames_any _).mono ?_; rintro e w1 ⟨rfl, ht, b1⟩; have HT := Lib.hid ht; have B1 := Lib.hid b1; clear ht b1)
  go_loop [7] (fun v => NmRel s o v) (fun v => 8 - (intOf v).toNat)
  case atStart => exact ⟨0, Nat.zero_le _, rfl, H0⟩
  case round =>
    obtain ⟨k, hk, rfl, HP⟩ := hrel
    rw [er_len] at hk
    by_cases hlt : k < 8
    · have hc := HT.out k hlt
      have HE := Lib.hid (ix_at s erA k k hlt)
      obtain ⟨x, hx⟩ : ∃ x, erA.getD k ⟨#[]⟩ = x := ⟨_, rfl⟩
      rw [hx] at hc HE
      clear hx
      rcases Bool.eq_false_or_eq_true (x.toList == s.toList) with he | he
      · have HZ : Hid (o = Option.some k) := Lib.hid (by rw [← HP.out, HE.out, if_pos he])
        go_wp2_with fail
        go_ret
        exact ⟨ret_int (HX.out _ (HO.out.trans HZ.out)).symm, B1.out⟩
      · have HZ : Hid (ixOf s (erA.drop (k + 1)) (k + 1) = o) := Lib.hid (by rw [← HP.out, HE.out, if_neg (by rw [he]; simp)])
        have hk2 : k + 1 ≤ erA.length := hlt
        go_wp2_with fail
        go_round
        case rel => exact ⟨k + 1, hk2, by go_num, HZ⟩
        case measure => simp [intOf]; omega
    · have HZ : Hid (o = none) := Lib.hid (by rw [← HP.out, ix_end s erA k k (by rw [er_len]; omega)])
      go_wp2_with fail
      go_ret
      exact ⟨ret_int (HX.out _ (HO.out.trans HZ.out)).symm, B1.out⟩
theorem kd_lt {s : ByteArray} {k : Nat} (h : kdOf s = Option.some k) : k < 8 ∧ (kn k).toList == s.toList := by
  have key : ∀ (l : List ByteArray) (m : Nat), ixOf s l m = Option.some k → m ≤ k ∧ k < m + l.length ∧ ((l.getD (k - m) ⟨#[]⟩).toList == s.toList) = true := by
    intro l
    induction l with
    | nil => intro m h; cases h
    | cons x r ih =>
      intro m h
      unfold ixOf at h
      split at h
      · rename_i he
        cases h
        refine ⟨Nat.le_refl _, by simp, ?_⟩
        rw [Nat.sub_self]; exact he
      · obtain ⟨a, b, c⟩ := ih (m + 1) h
        refine ⟨by omega, by simp; omega, ?_⟩
        rw [show k - m = (k - (m + 1)) + 1 by omega]; exact c
  obtain ⟨_, b, c⟩ := key erA 0 h
  exact ⟨by rw [er_len] at b; omega, c⟩
theorem ki_kd (s : ByteArray) : (kiOf s < 0 ∧ kdV s = 0 ∧ kdB s = false) ∨ (0 ≤ kiOf s ∧ kdV s = kiOf s ∧ kdB s = true) := by
  unfold kiOf kdV kdB
  cases kdOf s with
  | none => exact .inl ⟨by decide, rfl, rfl⟩
  | some k => exact .inr ⟨by simp, rfl, rfl⟩
set_option maxHeartbeats 800000 in
theorem specKindNamed_any (s : ByteArray) (w : World) : Calls Tryd.prog 13 #[.string s] w (SaysT2 w (.int .i64 (kdV s)) (.bool (kdB s))) := by
  have HN := Lib.hid (fun w => erNamed_any s w)
  rcases ki_kd s with ⟨h, h1, h2⟩ | ⟨h, h1, h2⟩
  · have d := is_lt h
    have H1 := Lib.hid h1
    have H2 := Lib.hid h2
    generalize kdV s = v at H1 ⊢
    generalize kdB s = b at H2 ⊢
    generalize kiOf s = R at HN d h H1
    clear h1 h2
    go_enter Tryd.func13, Tryd.ntmps13
    go_wp2_with (go_at_call 32; refine (HN.out _).mono ?_; rintro e w1 ⟨rfl, b1⟩; have B1 := Lib.hid b1; clear b1)
    go_ret2
    exact ⟨ret_ib H1.out.symm H2.out.symm, B1.out⟩
  · have d := not_lt h
    have H1 := Lib.hid h1
    have H2 := Lib.hid h2
    generalize kdV s = v at H1 ⊢
    generalize kdB s = b at H2 ⊢
    generalize kiOf s = R at HN d h H1
    clear h1 h2
    go_enter Tryd.func13, Tryd.ntmps13
    go_wp2_with (go_at_call 32; refine (HN.out _).mono ?_; rintro e w1 ⟨rfl, b1⟩; have B1 := Lib.hid b1; clear b1; refine Hid.out ?_)
    refine Lib.hid ?_
    go_wp2_with (go_at_call 32; refine (HN.out _).mono ?_; rintro e w2 ⟨rfl, b2⟩; have B2 := Lib.hid (BX.call B1.out b2); clear b2)
    go_ret2
    exact ⟨ret_ib H1.out.symm H2.out.symm, B2.out⟩
/-! The map. -/
section
open Go.Maps Go.WideShapes
def erM {H : Type} : Nat → DataW H
  | 0 => .map []
  | k + 1 => (erM k).put (.string (kn k).data.toList) (.lit (.int .i64 (k : Int)))
def lastIx (l : List UInt8) : Nat → Option Nat
  | 0 => none
  | k + 1 => if (kn k).data.toList = l then Option.some k else lastIx l k
theorem erM_map {H : Type} : ∀ k, IsMap (erM k : DataW H)
  | 0 => isMap_empty
  | k + 1 => (erM_map k).put _ _
theorem str_key (l : List UInt8) : WideAt.IsKeyLit (.string l) := by first | trivial | (unfold WideAt.IsKeyLit; trivial) | (constructor)
theorem str_ne {l m : List UInt8} (h : ¬ l = m) : (Lit.string m) ≠ .string l := fun e => h (by cases e; rfl)
theorem has_erM {H : Type} (l : List UInt8) : ∀ k, Maps.has (erM k : DataW H) (.string l) = (lastIx l k).isSome
  | 0 => rfl
  | k + 1 => by
    unfold erM lastIx
    by_cases h : (kn k).data.toList = l
    · rw [if_pos h, h, has_put_same (erM_map k) (str_key l)]; rfl
    · rw [if_neg h, has_put_other (str_ne h), has_erM l k]
theorem atKey_erM {H : Type} (l : List UInt8) : ∀ k, (erM k : DataW H).atKey (.string l) (.lit (.int .i64 0)) = .lit (.int .i64 (match lastIx l k with | Option.some k => (k : Int) | Option.none => 0))
  | 0 => rfl
  | k + 1 => by
    unfold erM lastIx
    by_cases h : (kn k).data.toList = l
    · rw [if_pos h, h, atKey_put_same (erM_map k) (str_key l)]
    · rw [if_neg h, atKey_put_other (str_ne h), atKey_erM l k]
end
theorem same_list (x s : ByteArray) : (x.toList == s.toList) = decide (x.data.toList = s.data.toList) := by
  rw [Lib.toList_data, Lib.toList_data, Bool.eq_iff_iff]
  simp
theorem last_kd (s : ByteArray) : lastIx s.data.toList 8 = kdOf s := by
  have e : kdOf s = if (kn 0).data.toList = s.data.toList then Option.some 0 else if (kn 1).data.toList = s.data.toList then Option.some 1 else if (kn 2).data.toList = s.data.toList then Option.some 2 else if (kn 3).data.toList = s.data.toList then Option.some 3 else if (kn 4).data.toList = s.data.toList then Option.some 4 else if (kn 5).data.toList = s.data.toList then Option.some 5 else if (kn 6).data.toList = s.data.toList then Option.some 6 else if (kn 7).data.toList = s.data.toList then Option.some 7 else none := by
    unfold kdOf erA
    simp only [ixOf, same_list, decide_eq_true_eq]
    rfl
  rw [e]
  generalize s.data.toList = l
  by_cases h : ∃ k, k < 8 ∧ (kn k).data.toList = l
  · obtain ⟨k, hk, rfl⟩ := h
    match k, hk with
    | 0, _ => decide
    | 1, _ => decide
    | 2, _ => decide
    | 3, _ => decide
    | 4, _ => decide
    | 5, _ => decide
    | 6, _ => decide
    | 7, _ => decide
  · have q : ∀ k, k < 8 → ¬ (kn k).data.toList = l := fun k hk e => h ⟨k, hk, e⟩
    simp only [lastIx, if_neg (q 0 (by decide)), if_neg (q 1 (by decide)), if_neg (q 2 (by decide)), if_neg (q 3 (by decide)), if_neg (q 4 (by decide)), if_neg (q 5 (by decide)), if_neg (q 6 (by decide)), if_neg (q 7 (by decide))]
/-- the table of names is in its place -/
def Knt (w : World) : Prop := ∃ (t : TypeId) (fr : Nat × Nat), w.heap[0]? = some (.cells (erA.map Value.string).toArray t fr)
theorem Knt.below {w w' : World} (h : Knt w) (hb : Below w.heap.size w w') : Knt w' := by
  obtain ⟨t, fr, h⟩ := h
  refine ⟨t, fr, ?_⟩
  have hlt : 0 < w.heap.size := by
    rcases Nat.lt_or_ge 0 w.heap.size with q | q
    · exact q
    · rw [Array.getElem?_eq_none q] at h; cases h
  rw [hb.block _ hlt]; exact h
theorem Knt.at {w : World} (h : Knt w) (k : Nat) (hk : k < 8) : w.cell? ⟨0, k, none⟩ = some (.string (kn k)) := by
  obtain ⟨t, fr, h⟩ := h
  unfold World.cell?
  simp only [h]
  rcases (show k = 0 ∨ k = 1 ∨ k = 2 ∨ k = 3 ∨ k = 4 ∨ k = 5 ∨ k = 6 ∨ k = 7 by omega) with rfl | rfl | rfl | rfl | rfl | rfl | rfl | rfl <;> rfl
theorem kn_at (k : Nat) (h : k < 8) (w : World) : (Instr.index 48 (.agg (erA.map Value.string).toArray) (.int .i64 (k : Int))).run Tryd.prog w = .ok (.string (kn k)) w := by
  rcases (show k = 0 ∨ k = 1 ∨ k = 2 ∨ k = 3 ∨ k = 4 ∨ k = 5 ∨ k = 6 ∨ k = 7 by omega) with rfl | rfl | rfl | rfl | rfl | rfl | rfl | rfl <;> kernel_rfl
theorem kn_size (k : Nat) : (kn k).size ≤ 6 := by
  by_cases h : k < 8
  · rcases (show k = 0 ∨ k = 1 ∨ k = 2 ∨ k = 3 ∨ k = 4 ∨ k = 5 ∨ k = 6 ∨ k = 7 by omega) with rfl | rfl | rfl | rfl | rfl | rfl | rfl | rfl <;> decide
  · unfold kn
    rw [List.getD_eq_getElem?_getD, List.getElem?_eq_none (by rw [er_len]; omega)]
    decide
section
open Go.Maps
theorem lawStr : Keyed Tryd.prog 9 := string_keyed Tryd.underlying9
theorem zeroInt (w : World) : (zeroValue 3).run Tryd.prog w = .ok (.int .i64 0) w := by kernel_rfl
theorem makeMap8 (w : World) : (Instr.makeMap 50 (some (.int .i64 8))).run Tryd.prog w = .ok (.map (some w.heap.size)) (w.alloc (.map #[] 0)) := by kernel_rfl
def KmRel (w : World) (i : Value) (wr : World) : Prop := ∃ k : Nat, k ≤ 8 ∧ i = .int .i64 k ∧ wr.ownsMap Tryd.prog 9 (plainElem (H := Unit) Tryd.prog 3) w.heap.size k (erM k) ∧ Below w.heap.size w wr
def SaysM (w : World) (e : Ending) (w' : World) : Prop := e = .returned (.map (some w.heap.size)) ∧ w'.ownsMap Tryd.prog 9 (plainElem (H := Unit) Tryd.prog 3) w.heap.size 8 (erM 8) ∧ Below w.heap.size w w'
set_option maxHeartbeats 1600000 in
theorem kindsByName_any (w : World) (hK : Hid (Knt w)) : Calls Tryd.prog 33 #[] w (SaysM w) := by
  obtain ⟨t, fr, hg⟩ := hK.out
  have HG := Lib.hid hg
  have hlt : 0 < w.heap.size := by
    rcases Nat.lt_or_ge 0 w.heap.size with q | q
    · exact q
    · rw [Array.getElem?_eq_none q] at hg; cases hg
  obtain ⟨arr, harr⟩ : ∃ arr, (erA.map Value.string).toArray = arr := ⟨_, rfl⟩
  have HA := Lib.hid kn_at
  have hsz : Hid (8 = arr.size) := Lib.hid (by rw [← harr]; rfl)
  rw [harr] at HG HA
  have HGA : Hid (∀ o, (w.alloc o).heap[0]? = some (.cells arr t fr)) := Lib.hid (fun o => by
    rw [show (w.alloc o).heap[0]? = w.heap[0]? from ((Below.refl w.heap.size w).alloc (Nat.le_refl _) o).block _ hlt]
    exact HG.out)
  clear harr hg
  have hmm := makeMap8
  go_enter Tryd.func33, Tryd.ntmps33
  go_wp2_with (refine wpList_load_row rfl 48 _ rfl 0 rfl t arr fr _ (HGA.out _) Tryd.underlying48 rfl (by rw [← hsz.out]; kernel_rfl) ?_)
  go_loopw [6] (fun i wr => KmRel w i wr) (fun i _ => 8 - (intOf i).toNat)
  case atStart => exact ⟨0, Nat.zero_le _, rfl, World.ownsMap_made _ _ _ _, (Below.refl _ _).alloc (Nat.le_refl _) _⟩
  case round =>
    obtain ⟨k, hk, rfl, hown, hb⟩ := hrel
    have HO := Lib.hid hown
    have HB := Lib.hid hb
    clear hown hb
    by_cases hlt : k < 8
    · have hix := HA.out k hlt
      have hz := Lib.hid (kn_size k)
      have HM : Hid (∀ w', World.ownsMap w' Tryd.prog 9 (plainElem (H := Unit) Tryd.prog 3) w.heap.size (k + 1) ((erM k).put (.string (kn k).data.toList) (.lit (.int .i64 (k : Int)))) → World.ownsMap w' Tryd.prog 9 (plainElem (H := Unit) Tryd.prog 3) w.heap.size (k + 1) (erM (k + 1))) := Lib.hid (fun _ h => h)
      have hwf : (Lit.int .i64 (k : Int)).wf = true := by
        rcases (show k = 0 ∨ k = 1 ∨ k = 2 ∨ k = 3 ∨ k = 4 ∨ k = 5 ∨ k = 6 ∨ k = 7 by omega) with rfl | rfl | rfl | rfl | rfl | rfl | rfl | rfl <;> rfl
      have HW := Lib.hid hwf
      clear hwf
      generalize kn k = x at hix hz HM
      have hkey : Hid (keyOf Tryd.prog 9 (.string x) = some (.string x.data.toList)) := Lib.hid (Go.WideMaps.keyOf_string_mk Tryd.underlying9 (by have := hz.out; unfold maxLen; omega))
      go_wp2_with (at_mapUpdate; refine wpList_mapUpdate_own _ rfl _ _ _ 50 rfl 9 3 lawStr Tryd.underlying50 _ w.heap.size k _ rfl HO.out (by unfold maxLen; omega) _ _ _ rfl rfl hkey.out _ [] (plainElem_int Tryd.underlying3 HW.out) ?_; intro w1 hown1 hgrow1; have HO1 := Lib.hid hown1; have HB1 := Lib.hid (HB.out.grown hgrow1 HB.out.size (fun j hj => by cases hj; exact Nat.le_refl _)); clear hown1 hgrow1)
      go_roundw
      case rel => exact ⟨k + 1, by omega, by go_num, HM.out _ HO1.out, HB1.out⟩
      case measure => simp [intOf]; omega
    · have e : k = 8 := by omega
      subst e
      go_wp2_with fail
      go_ret
      exact ⟨rfl, HO.out, HB.out⟩
end
end Go.Proofs.YtdfkehgkonadhaaDoor
