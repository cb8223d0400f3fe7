import Derived.Test.YtkpocljlmbihcaaGreatDoorPkt
import Derived.Test.YtkpocljlmbihcaaGreatDoorPkq
import Derived.Test.YtkpocljlmbihcaaGreatDoorPkg
/- Canonical texts, the program's: the first line (written by tools/gen_prx.py). -/
namespace Go.Proofs.YtkpocljlmbihcaaGreatDoor
set_option maxRecDepth 100000
open Go.RowKit
set_option linter.unusedVariables false
set_option linter.unusedSimpArgs false

theorem own_slice {w : World} {B n : Nat} {T : TypeId} {v : Value} {xs : List Value} (h : w.ownsRow B T 1 v n xs) (hn : 0 < n) : ∃ g c, v = .slice (some ⟨g, 0, none⟩) n c ∧ n ≤ c ∧ B ≤ g ∧ g < w.heap.size ∧ ∀ j, j < n → w.cell? ⟨g, j, none⟩ = xs[j]? := by
  have hl := World.ownsRow.lt h
  rcases h.2 with ⟨_, h0⟩ | ⟨g, cap, cur, hv, h1, h2, h3, h4, _⟩
  · omega
  · have hg := hl g (by rw [hv]; rfl)
    subst hv
    exact ⟨g, cap, rfl, h3, hg.1, hg.2, fun j hj => World.ownsRow.cellAt h j (by omega)⟩
theorem words_own {w : World} {B n g c : Nat} {T : TypeId} {l : List ByteArray} (h : ∀ j, j < n → w.cell? ⟨g, j, none⟩ = (sv l)[j]?) (hn : l.length = n) : ∀ (j : Nat) x, l[j]? = some x → w.cell? ⟨g, 0 + j, none⟩ = some (.string x) := fun j x hj => by
  have hjl := (List.getElem?_eq_some_iff.1 hj).1
  rw [Nat.zero_add, h j (by omega)]
  simp [sv, hj]
theorem lit_own (w : World) (a : Array Value) (l : List ByteArray) (n B : Nat) (h : a = (sv l).toArray) (hn : l.length = n) (hm : n ≤ 1000) (hB : B ≤ w.heap.size) : (w.alloc (.cells a 9)).ownsRow B 9 1 (.slice (some ⟨w.heap.size, 0, none⟩) n n) n (sv l) := by
  subst h
  have := World.ownsRow_lit (base := B) (e := 9) (size := 1) w (sv l).toArray n hB (by unfold maxLen; omega) (by simp [sv_length, hn])
  simpa using this
theorem below_grown {B : Nat} {w w1 w2 : World} {row : Option Nat} (h : Below B w w1) (hg : w1.grownBy w2 row) (hB : B ≤ w1.heap.size) (hr : ∀ k, row = some k → B ≤ k) : Below B w w2 := h.grown hg hB hr
theorem beg_none (s : ByteArray) : joinB [⟨#[113, 100, 105, 115, 99]⟩, s, ⟨#[123]⟩] ++ ⟨#[10]⟩ = begS s 0 ++ ⟨#[32, 123, 10]⟩ := by
  apply bytes_exP
  simp [joinB, Lib.join, List.intercalate, List.intersperse, begS, ByteArray.data_append]
theorem beg_some (s : ByteArray) (nd : Nat) (h : (nd : Int) ≠ 0) : joinB [⟨#[113, 100, 105, 115, 99]⟩, s, ⟨#[100, 101, 102, 97, 117, 108, 116]⟩, numS nd, ⟨#[123]⟩] ++ ⟨#[10]⟩ = begS s (nd : Int) ++ ⟨#[32, 123, 10]⟩ := by
  apply bytes_exP
  unfold begS
  rw [if_neg h]
  simp [joinB, Lib.join, List.intercalate, List.intersperse, ByteArray.data_append]
set_option maxHeartbeats 6400000 in
theorem writeBeginning_z (g : Nat) (s : ByteArray) (v1 v2 lv wv : Value) (L : List ByteArray) (W : List Nat) (Sp : Nat → Nat × Nat) (w : World) (HP : Hid (PrS w g (.string s) v1 v2 (.int .i64 0) lv wv L W Sp)) (hs : s.size ≤ 8) (hL : L.length ≤ 3000000) :
    Calls Tryz.prog 52 #[.pointer (some ⟨g, 0, none⟩)] w (SaysPr w g (.string s) v1 v2 (.int .i64 0) (fun L' W' Sp' => L' = L ++ [begS s 0 ++ ⟨#[32, 123, 10]⟩] ∧ W' = W ∧ Sp' = Sp)) := by
  obtain ⟨i0, hi, hz0, hz1, hz2⟩ := info_parts infoStr
  obtain ⟨J, hJ⟩ : ∃ J, joinB [⟨#[113, 100, 105, 115, 99]⟩, s, ⟨#[123]⟩] = J := ⟨_, rfl⟩
  have HJ := Lib.hid hJ
  have hJl : J ++ ⟨#[10]⟩ = begS s 0 ++ ⟨#[32, 123, 10]⟩ := by rw [← hJ]; exact beg_none s
  have hJz : J.size ≤ 100 := by
    have e := congrArg ByteArray.size hJl
    simp only [ByteArray.size_append, begS, if_true, show (⟨#[113, 100, 105, 115, 99, 32]⟩ : ByteArray).size = 6 from rfl, show (⟨#[32, 123, 10]⟩ : ByteArray).size = 3 from rfl] at e
    omega
  have HJL : Hid (indS 0 ++ J ++ ⟨#[10]⟩ = begS s 0 ++ ⟨#[32, 123, 10]⟩) := Lib.hid (by rw [indS_none, hJl])
  obtain ⟨c0, c1, c2, c3, c4, c5, fz⟩ := HP.out.1.cells
  have BA := one_new2 w (.cells #[.string ⟨#[113, 100, 105, 115, 99]⟩, .string s] 9)
  have O1 := Lib.hid (lit_own w #[.string ⟨#[113, 100, 105, 115, 99]⟩, .string s] [⟨#[113, 100, 105, 115, 99]⟩, s] 2 w.heap.size rfl rfl (by decide) (Nat.le_refl _))
  have PA := Lib.hid (HP.out.below BA)
  obtain ⟨d0, d1, d2, d3, d4, d5, fz1⟩ := PA.out.1.cells
  have BB := one_new2 (w.alloc (.cells #[.string ⟨#[113, 100, 105, 115, 99]⟩, .string s] 9)) (.cells #[.string ⟨#[123]⟩] 9)
  have O2 := Lib.hid (own_low O1.out BB (Nat.le_refl _))
  have B2 := Lib.hid (BA.trans (BB.mono (by simp)))
  have e1 : (w.alloc (.cells #[.string ⟨#[113, 100, 105, 115, 99]⟩, .string s] 9)).heap.size = w.heap.size + 1 := by simp
  have n1 := one_int (w.alloc (.cells #[.string ⟨#[113, 100, 105, 115, 99]⟩, .string s] 9)) (.string ⟨#[123]⟩) 9
  rw [e1] at n1
  have N1 := Lib.hid n1
  clear hJ hJl BA BB n1
  go_enter Tryz.func52, Tryz.ntmps52
  go_wp2_with (at_builtin; refine wpList_append_at _ rfl _ _ 53 rfl w.heap.size 9 i0 (.string ⟨#[]⟩) 1 16 Tryz.underlying53 hi hz0 hz1 hz2 rfl (by decide) _ 2 (sv [⟨#[113, 100, 105, 115, 99]⟩, s]) rfl O2.out ⟨w.heap.size + 1, 0, none⟩ 1 1 [.string ⟨#[123]⟩] rfl rfl N1.out (by intro u hu; simp at hu; subst hu; rfl) (by unfold maxLen; omega) (by omega) (by simp; omega) ?_; intro v3 w3 hown hgrow hat; obtain ⟨g3, k3, rfl, q3, q4, q5, q6⟩ := own_slice hown (by decide); have B3 := Lib.hid (below_grown B2.out hgrow (by simp; omega) (fun k hk => by cases hk; exact Nat.le_refl _)); have HC3 := Lib.hid (words_own (B := 0) (c := 0) (T := 0) (l := [⟨#[113, 100, 105, 115, 99]⟩, s, ⟨#[123]⟩]) q6 rfl); clear hown hgrow hat; refine Hid.out ?_)
  refine Lib.hid ?_
  have P3 := Lib.hid (HP.out.below B3.out)
  go_wp2_with (go_at_call 80; refine (joinWords_any [⟨#[113, 100, 105, 115, 99]⟩, s, ⟨#[123]⟩] g3 3 k3 w3 HC3 (Lib.hid rfl) q5 q3 (by decide) J HJ (by omega)).mono ?_; rintro e w4 ⟨rfl, b⟩; have P4 := Lib.hid (P3.out.below b); have G4 := Lib.hid ((B3.out.mono (Nat.le_of_lt HP.out.lt)).trans (b.mono (Nat.le_of_lt P3.out.lt))); clear b; refine Hid.out ?_)
  refine Lib.hid ?_
  have HWL := Lib.hid (writeLine_any g 0 J _ v1 v2 _ lv wv L W Sp w4 P4 (by decide) hL (by omega))
  rw [HJL.out] at HWL
  go_wp2_with (go_at_call 79; refine (HWL.out).mono ?_; rintro e w5 ⟨rfl, lv5, p5, k5⟩; have P5 := Lib.hid p5; have G5 := Lib.hid (G4.out.trans k5.1); clear p5 k5)
  exact bodyPost_ret (v := .tuple #[]) (by simp [results, Tryz.results52, go_sem]) rfl ⟨rfl, ⟨_, _, _, lv5, wv, ⟨rfl, rfl, rfl⟩, P5.out⟩, G5.out⟩
set_option maxHeartbeats 6400000 in
theorem writeBeginning_n (g nd : Nat) (s : ByteArray) (v1 v2 lv wv : Value) (L : List ByteArray) (W : List Nat) (Sp : Nat → Nat × Nat) (w : World) (HP : Hid (PrS w g (.string s) v1 v2 (.int .i64 (nd : Int)) lv wv L W Sp)) (hs : s.size ≤ 8) (hL : L.length ≤ 3000000) (hd : (nd : Int) ≠ 0) (hd9 : nd ≤ 999) (hPw : ∀ w', Below g w w' → Hid (Pow w')) :
    Calls Tryz.prog 52 #[.pointer (some ⟨g, 0, none⟩)] w (SaysPr w g (.string s) v1 v2 (.int .i64 (nd : Int)) (fun L' W' Sp' => L' = L ++ [begS s (nd : Int) ++ ⟨#[32, 123, 10]⟩] ∧ W' = W ∧ Sp' = Sp)) := by
  obtain ⟨i0, hi, hz0, hz1, hz2⟩ := info_parts infoStr
  have HIT := Lib.hid (fun w h => itoa_any nd (by omega) w h)
  obtain ⟨J, hJ⟩ : ∃ J, joinB [⟨#[113, 100, 105, 115, 99]⟩, s, ⟨#[100, 101, 102, 97, 117, 108, 116]⟩, numS nd, ⟨#[123]⟩] = J := ⟨_, rfl⟩
  have hnz := numS_size nd
  have hJl : J ++ ⟨#[10]⟩ = begS s (nd : Int) ++ ⟨#[32, 123, 10]⟩ := by rw [← hJ]; exact beg_some s nd hd
  have hJz : J.size ≤ 2000 := by
    have e := congrArg ByteArray.size hJl
    rw [show begS s (nd : Int) = ⟨#[113, 100, 105, 115, 99, 32]⟩ ++ s ++ (⟨#[32, 100, 101, 102, 97, 117, 108, 116, 32]⟩ ++ numS nd) by unfold begS; rw [if_neg hd]; rfl] at e
    simp only [ByteArray.size_append, show (⟨#[113, 100, 105, 115, 99, 32]⟩ : ByteArray).size = 6 from rfl, show (⟨#[32, 123, 10]⟩ : ByteArray).size = 3 from rfl, show (⟨#[32, 100, 101, 102, 97, 117, 108, 116, 32]⟩ : ByteArray).size = 9 from rfl] at e
    omega
  have HJL : Hid (indS 0 ++ J ++ ⟨#[10]⟩ = begS s (nd : Int) ++ ⟨#[32, 123, 10]⟩) := Lib.hid (by rw [indS_none, hJl])
  generalize numS nd = ds at HIT hJ
  have HJ := Lib.hid hJ
  have dn : ((nd : Int) != 0) = true := by simp; omega
  obtain ⟨c0, c1, c2, c3, c4, c5, fz⟩ := HP.out.1.cells
  have BA := one_new2 w (.cells #[.string ⟨#[113, 100, 105, 115, 99]⟩, .string s] 9)
  have O1 := Lib.hid (lit_own w #[.string ⟨#[113, 100, 105, 115, 99]⟩, .string s] [⟨#[113, 100, 105, 115, 99]⟩, s] 2 w.heap.size rfl rfl (by decide) (Nat.le_refl _))
  have PA := Lib.hid (HP.out.below BA)
  have GA := Lib.hid (BA.mono (Nat.le_of_lt HP.out.lt))
  have HBA := Lib.hid BA
  obtain ⟨d0, d1, d2, d3, d4, d5, fz1⟩ := PA.out.1.cells
  have hzA : w.heap.size + 1 ≤ (w.alloc (.cells #[.string ⟨#[113, 100, 105, 115, 99]⟩, .string s] 9)).heap.size := by simp
  clear hJ hJl BA hnz
  go_enter Tryz.func52, Tryz.ntmps52
  go_wp2_with (go_at_call 78; refine (HIT.out _ (hPw _ GA.out)).mono ?_; rintro e w1 ⟨rfl, b⟩; have O1b := Lib.hid (own_low O1.out b (Nat.le_refl _)); have B1 := Lib.hid (HBA.out.trans (b.mono (by simp))); clear b; refine Hid.out ?_)
  refine Lib.hid ?_
  have BC := one_new2 w1 (.cells #[.string ⟨#[100, 101, 102, 97, 117, 108, 116]⟩, .string ds] 9)
  have O2 := Lib.hid (own_low O1b.out BC (Nat.le_refl _))
  have B2 := Lib.hid (B1.out.trans (BC.mono B1.out.size))
  have OD := Lib.hid (lit_own w1 #[.string ⟨#[100, 101, 102, 97, 117, 108, 116]⟩, .string ds] [⟨#[100, 101, 102, 97, 117, 108, 116]⟩, ds] 2 w1.heap.size rfl rfl (by decide) (Nat.le_refl _))
  clear BC
  go_wp2_with (at_builtin; refine wpList_append_at _ rfl _ _ 53 rfl w.heap.size 9 i0 (.string ⟨#[]⟩) 1 16 Tryz.underlying53 hi hz0 hz1 hz2 rfl (by decide) _ 2 (sv [⟨#[113, 100, 105, 115, 99]⟩, s]) rfl O2.out ⟨w1.heap.size, 0, none⟩ 2 2 (sv [⟨#[100, 101, 102, 97, 117, 108, 116]⟩, ds]) rfl rfl (own_news1 OD.out) (by intro u hu; simp [sv] at hu; rcases hu with rfl | rfl <;> rfl) (by unfold maxLen; omega) (by omega) B2.out.size ?_; intro v3 w3 hown hgrow hat; obtain ⟨g3, k3, rfl, q3, q4, q5, q6⟩ := own_slice hown (by decide); have B3 := Lib.hid (below_grown B2.out hgrow B2.out.size (fun k hk => by cases hk; exact Nat.le_refl _)); have O3 := Lib.hid hown; clear hown hgrow hat; refine Hid.out ?_)
  refine Lib.hid ?_
  have BD := one_new2 w3 (.cells #[.string ⟨#[123]⟩] 9)
  have O4 := Lib.hid (own_low O3.out BD (Nat.le_refl _))
  have B4 := Lib.hid (B3.out.trans (BD.mono B3.out.size))
  have N1 := Lib.hid (one_int w3 (.string ⟨#[123]⟩) 9)
  clear BD
  go_wp2_with (at_builtin; refine wpList_append_at _ rfl _ _ 53 rfl w.heap.size 9 i0 (.string ⟨#[]⟩) 1 16 Tryz.underlying53 hi hz0 hz1 hz2 rfl (by decide) _ 4 (sv [⟨#[113, 100, 105, 115, 99]⟩, s] ++ sv [⟨#[100, 101, 102, 97, 117, 108, 116]⟩, ds]) rfl O4.out ⟨w3.heap.size, 0, none⟩ 1 1 [.string ⟨#[123]⟩] rfl rfl N1.out (by intro u hu; simp at hu; subst hu; rfl) (by unfold maxLen; omega) (by omega) B4.out.size ?_; intro v5 w5 hown hgrow hat; obtain ⟨g5, k5, rfl, r3, r4, r5, r6⟩ := own_slice hown (by decide); have B5 := Lib.hid (below_grown B4.out hgrow B4.out.size (fun k hk => by cases hk; exact q4)); have HC5 := Lib.hid (words_own (B := 0) (c := 0) (T := 0) (l := [⟨#[113, 100, 105, 115, 99]⟩, s, ⟨#[100, 101, 102, 97, 117, 108, 116]⟩, ds, ⟨#[123]⟩]) r6 rfl); clear hown hgrow hat; refine Hid.out ?_)
  refine Lib.hid ?_
  have P5 := Lib.hid (HP.out.below B5.out)
  go_wp2_with (go_at_call 80; refine (joinWords_any [⟨#[113, 100, 105, 115, 99]⟩, s, ⟨#[100, 101, 102, 97, 117, 108, 116]⟩, ds, ⟨#[123]⟩] g5 5 k5 w5 HC5 (Lib.hid rfl) r5 r3 (by decide) J HJ (by omega)).mono ?_; rintro e w6 ⟨rfl, b⟩; have P6 := Lib.hid (P5.out.below b); have G6 := Lib.hid ((B5.out.mono (Nat.le_of_lt HP.out.lt)).trans (b.mono (Nat.le_of_lt P5.out.lt))); clear b; refine Hid.out ?_)
  refine Lib.hid ?_
  have HWL := Lib.hid (writeLine_any g 0 J _ v1 v2 _ lv wv L W Sp w6 P6 (by decide) hL (by omega))
  rw [HJL.out] at HWL
  go_wp2_with (go_at_call 79; refine (HWL.out).mono ?_; rintro e w7 ⟨rfl, lv7, p7, k7⟩; have P7 := Lib.hid p7; have G7 := Lib.hid (G6.out.trans k7.1); clear p7 k7)
  exact bodyPost_ret (v := .tuple #[]) (by simp [results, Tryz.results52, go_sem]) rfl ⟨rfl, ⟨_, _, _, lv7, wv, ⟨rfl, rfl, rfl⟩, P7.out⟩, G7.out⟩
theorem writeBeginning_any (g : Nat) (s : ByteArray) (d : Int) (v1 v2 lv wv : Value) (L : List ByteArray) (W : List Nat) (Sp : Nat → Nat × Nat) (w : World) (HP : Hid (PrS w g (.string s) v1 v2 (.int .i64 d) lv wv L W Sp)) (hs : s.size ≤ 8) (hL : L.length ≤ 3000000) (hd : d = 0 ∨ (1 ≤ d ∧ d ≤ 999)) (hPw : ∀ w', Below g w w' → Hid (Pow w')) :
    Calls Tryz.prog 52 #[.pointer (some ⟨g, 0, none⟩)] w (SaysPr w g (.string s) v1 v2 (.int .i64 d) (fun L' W' Sp' => L' = L ++ [begS s d ++ ⟨#[32, 123, 10]⟩] ∧ W' = W ∧ Sp' = Sp)) := by
  rcases hd with rfl | hd
  · exact writeBeginning_z g s v1 v2 lv wv L W Sp w HP hs hL
  · obtain ⟨nd, rfl⟩ := Int.eq_ofNat_of_zero_le (show 0 ≤ d by omega)
    exact writeBeginning_n g nd s v1 v2 lv wv L W Sp w HP hs hL (by omega) (by omega) hPw
end Go.Proofs.YtkpocljlmbihcaaGreatDoor

/- Chapter 4's functions that return lists of indices: children, leaves. -/
namespace Go.Proofs.YtkpocljlmbihcaaGreatDoor
set_option maxRecDepth 100000
open Go.RowKit
set_option linter.unusedVariables false

def SaysTS (w : World) (K : List Nat) (b : Bool) (e : Ending) (w' : World) : Prop := ∃ v, e = .returned (.tuple #[v, .bool b]) ∧ w'.ownsRow w.heap.size 3 1 v K.length (nv K) ∧ Below w.heap.size w w'
theorem ret_vb {v : Value} {p q : Bool} (h' : p = q) : Ending.returned (.tuple #[v, .bool p]) = .returned (.tuple #[v, .bool q]) := by rw [h']
def resChildClasses1 (c : Cfg) (a : Int) : List Nat := if hasI c a then kids c.cs (c.cs.getD a.toNat cls0).i else []
def resChildClasses2 (c : Cfg) (a : Int) : Bool := hasI c a
theorem cc_bad {c : Cfg} {a : Int} (h : hasI c a = false) : resChildClasses1 c a = [] ∧ resChildClasses2 c a = false := by unfold resChildClasses1 resChildClasses2; rw [h]; exact ⟨rfl, rfl⟩
theorem cc_good {c : Cfg} {q : Nat} (h : hasI c (q : Int) = true) : resChildClasses1 c q = kids c.cs (c.cs.getD q cls0).i ∧ resChildClasses2 c q = true := by unfold resChildClasses1 resChildClasses2; rw [h]; exact ⟨rfl, rfl⟩
theorem lenChildClasses (c : Cfg) (a : Int) : (resChildClasses1 c a).length ≤ 24 := by
  unfold resChildClasses1
  by_cases h : hasI c a = true
  · rw [if_pos h]
    have h1 := kidsF_len (c.cs.getD a.toNat cls0).i c.cs 0
    have h2 := (good_of (has_iff h).1).n24
    unfold kids
    omega
  · rw [if_neg h]; simp
end Go.Proofs.YtkpocljlmbihcaaGreatDoor

/- Canonical texts, the model's functions over configurations. -/
namespace Go.Proofs.YtkpocljlmbihcaaGreatDoor
set_option maxRecDepth 100000
open Go.RowKit
set_option linter.unusedVariables false
set_option linter.unusedSimpArgs false

def SaysT3p (w : World) (r1 r2 r3 : Value) (e : Ending) (w' : World) : Prop := e = .returned (.tuple #[r1, r2, r3]) ∧ Below w.heap.size w w'
theorem ret_iibp {a b c d : Int} {p q : Bool} (h : a = b) (h' : c = d) (h'' : p = q) : Ending.returned (.tuple #[.int .i64 a, .int .i64 c, .bool p]) = .returned (.tuple #[.int .i64 b, .int .i64 d, .bool q]) := by rw [h, h', h'']
def resPrintConfig1 (c : Cfg) : ByteArray := if goodC c then textP c else ⟨#[]⟩
def resWalkClasses1 (c : Cfg) : List Nat := if goodC c then walkP c.cs 8 (topF c.cs) else []
def resWalkClasses2 (c : Cfg) : Bool := goodC c
def resLineOfClass1 (c : Cfg) (a : Int) : Int := if hasI c a then (lineP c.cs 9 a.toNat : Int) else 0
def resLineOfClass2 (c : Cfg) (a : Int) : Bool := hasI c a
def resLinesOfPart1 (c : Cfg) (a : Int) : Int := if hasI c a then (lineP c.cs 9 a.toNat : Int) else 0
def resLinesOfPart2 (c : Cfg) (a : Int) : Int := if hasI c a then (lineP c.cs 9 a.toNat : Int) + (sizeP c.cs 9 a.toNat : Int) - 1 else 0
def resLinesOfPart3 (c : Cfg) (a : Int) : Bool := hasI c a
theorem pc_bad {c : Cfg} (h : goodC c = false) : resPrintConfig1 c = ⟨#[]⟩ := by unfold resPrintConfig1; rw [h]; rfl
theorem pc_good {c : Cfg} (h : goodC c = true) : resPrintConfig1 c = textP c := by unfold resPrintConfig1; rw [h]; rfl
theorem wc_bad {c : Cfg} (h : goodC c = false) : resWalkClasses1 c = [] ∧ resWalkClasses2 c = false := by unfold resWalkClasses1 resWalkClasses2; rw [h]; exact ⟨rfl, rfl⟩
theorem wc_good {c : Cfg} (h : goodC c = true) : resWalkClasses1 c = walkP c.cs 8 (topF c.cs) ∧ resWalkClasses2 c = true := by unfold resWalkClasses1 resWalkClasses2; rw [h]; exact ⟨rfl, rfl⟩
theorem lc_bad {c : Cfg} {a : Int} (h : hasI c a = false) : resLineOfClass1 c a = 0 ∧ resLineOfClass2 c a = false := by unfold resLineOfClass1 resLineOfClass2; rw [h]; exact ⟨rfl, rfl⟩
theorem lc_good {c : Cfg} {q : Nat} (h : hasI c (q : Int) = true) : resLineOfClass1 c q = (lineP c.cs 9 q : Int) ∧ resLineOfClass2 c q = true := by unfold resLineOfClass1 resLineOfClass2; rw [h]; exact ⟨rfl, rfl⟩
theorem lp_bad {c : Cfg} {a : Int} (h : hasI c a = false) : resLinesOfPart1 c a = 0 ∧ resLinesOfPart2 c a = 0 ∧ resLinesOfPart3 c a = false := by unfold resLinesOfPart1 resLinesOfPart2 resLinesOfPart3; rw [h]; exact ⟨rfl, rfl, rfl⟩
theorem lp_good {c : Cfg} {q : Nat} (h : hasI c (q : Int) = true) : resLinesOfPart1 c q = (lineP c.cs 9 q : Int) ∧ resLinesOfPart2 c q = (lineP c.cs 9 q : Int) + (sizeP c.cs 9 q : Int) - 1 ∧ resLinesOfPart3 c q = true := by unfold resLinesOfPart1 resLinesOfPart2 resLinesOfPart3; rw [h]; exact ⟨rfl, rfl, rfl⟩
theorem lenWalkClasses (c : Cfg) : (resWalkClasses1 c).length ≤ 1000000 := by
  cases hg : goodC c
  · rw [(wc_bad hg).1]; simp
  · rw [(wc_good hg).1]
    have G := goodP hg
    exact walk_le G.T 8 _ (by decide) (top_facts G.T G.top).1
theorem dep8 {cs : List Cls} (T : TreeF cs) {q : Nat} (hq : q < cs.length) : depP cs q ≤ 9 := by have := (way_len T hq).2; omega
set_option maxHeartbeats 3200000 in
theorem specPrintConfig_any (v : Value) (c : Cfg) (w : World) (HV : Hid (CfgV w v c)) (HM : Hid (CfgM c)) :
    Calls Tryz.prog 8 #[v] w (SaysStrB w (resPrintConfig1 c) (goodC c)) := by
  obtain ⟨ac, cc, af, cf, rfl, ic, if_⟩ := HV.out
  obtain ⟨s, cs, fs, d⟩ := c
  have hM := HM.out
  unfold CfgM at hM
  simp only at ic if_ hM HV ⊢
  obtain ⟨q0, q1, q2⟩ := hM
  have HI := Lib.hid ic
  have HJ := Lib.hid if_
  have HVB := Lib.hid (fun w' (b : Below w.heap.size w w') => Lib.hid (HV.out.below b))
  have A0 := Lib.hid (Aft.refl w (Obj.cells #[.string s, .slice ac cs.length cc, .slice af fs.length cf, .int .i64 d] 32))
  clear ic if_
  have HGD := Lib.hid (fun w' (b : Below w.heap.size w w') => cfGood_any (.agg #[.string s, .slice ac cs.length cc, .slice af fs.length cf, .int .i64 d]) ⟨s, cs, fs, d⟩ w' (HVB.out w' b) HM)
  cases hg : goodC ⟨s, cs, fs, d⟩
  · rw [pc_bad hg]
    rw [hg] at HGD
    clear hg
    go_enter Tryz.func8, Tryz.ntmps8
    go_wp2_with (go_at_call 24; refine (HGD.out _ A0.out.all.2).mono ?_; rintro e w1 ⟨rfl, b1⟩; have A1 := Lib.hid (A0.out.on b1); clear b1)
    go_ret2
    exact ⟨rfl, A1.out.all.2⟩
  · have HPT := Lib.hid (fun w' HI HJ => prText_any s ac af cs.length cc fs.length cf d cs fs w' HI (Lib.hid rfl) q1 HJ (Lib.hid rfl) q2 (goodP hg))
    rw [pc_good hg]
    rw [hg] at HGD
    generalize textP ⟨s, cs, fs, d⟩ = R at HPT ⊢
    clear hg
    go_enter Tryz.func8, Tryz.ntmps8
    go_wp2_with (go_at_call 24; refine (HGD.out _ A0.out.all.2).mono ?_; rintro e w1 ⟨rfl, b1⟩; have A1 := Lib.hid (A0.out.on b1); obtain ⟨c0, c1, c2, c3, _⟩ := A1.out.all.1; clear b1)
    go_wp2_with (go_at_call 25; refine (HPT.out _ (Lib.hid (HI.out.below A1.out.all.2)) (Lib.hid (HJ.out.below A1.out.all.2))).mono ?_; rintro e w2 ⟨rfl, b2⟩; have A2 := Lib.hid (A1.out.on b2); clear b2)
    go_ret2
    exact ⟨rfl, A2.out.all.2⟩
set_option maxHeartbeats 3200000 in
theorem specLineOfClass_any (v : Value) (c : Cfg) (a : Int) (w : World) (HV : Hid (CfgV w v c)) (HM : Hid (CfgM c)) :
    Calls Tryz.prog 12 #[v, .int .i64 a] w (SaysT2 w (.int .i64 (resLineOfClass1 c a)) (.bool (resLineOfClass2 c a))) := by
  obtain ⟨ac, cc, af, cf, rfl, ic, if_⟩ := HV.out
  obtain ⟨s, cs, fs, d⟩ := c
  have hM := HM.out
  unfold CfgM at hM
  simp only at ic if_ hM HV ⊢
  obtain ⟨q0, q1, q2⟩ := hM
  have HI := Lib.hid ic
  have HJ := Lib.hid if_
  have HVB := Lib.hid (fun w' (b : Below w.heap.size w w') => Lib.hid (HV.out.below b))
  have A0 := Lib.hid (Aft.refl w (Obj.cells #[.string s, .slice ac cs.length cc, .slice af fs.length cf, .int .i64 d] 32))
  clear ic if_
  have HH := Lib.hid (fun w' (b : Below w.heap.size w w') => cfHas_any (.agg #[.string s, .slice ac cs.length cc, .slice af fs.length cf, .int .i64 d]) ⟨s, cs, fs, d⟩ a w' (HVB.out w' b) HM)
  cases hh : hasI ⟨s, cs, fs, d⟩ a
  · obtain ⟨x1, x2⟩ := lc_bad hh
    rw [x1, x2]
    rw [hh] at HH
    clear x1 x2 hh
    go_enter Tryz.func12, Tryz.ntmps12
    go_wp2_with (go_at_call 32; refine (HH.out _ A0.out.all.2).mono ?_; rintro e w1 ⟨rfl, b1⟩; have A1 := Lib.hid (A0.out.on b1); clear b1)
    go_ret2
    exact ⟨rfl, A1.out.all.2⟩
  · rw [hh] at HH
    obtain ⟨hg, q, rfl, hq⟩ := has_iff hh
    obtain ⟨x1, x2⟩ := lc_good hh
    have GP := goodP hg
    have HKD := Lib.hid (fun w' HI => prLine_any s ac af cs.length cc fs.length cf d cs GP.T 9 q w' HI (Lib.hid rfl) hq (Nat.le_refl _) (dep8 GP.T hq))
    rw [x1, x2]
    simp only at hq ⊢
    generalize lineP cs 9 q = K at HKD ⊢
    clear x1 x2 hh hg GP
    go_enter Tryz.func12, Tryz.ntmps12
    go_wp2_with (go_at_call 32; refine (HH.out _ A0.out.all.2).mono ?_; rintro e w1 ⟨rfl, b1⟩; have A1 := Lib.hid (A0.out.on b1); obtain ⟨c0, c1, c2, c3, _⟩ := A1.out.all.1; clear b1)
    go_wp2_with (go_at_call 33; refine (HKD.out _ (Lib.hid (HI.out.below A1.out.all.2))).mono ?_; rintro e w2 ⟨rfl, b2⟩; have A2 := Lib.hid (A1.out.on b2); clear b2)
    go_ret2
    exact ⟨rfl, A2.out.all.2⟩
set_option maxHeartbeats 6400000 in
theorem specLinesOfPart_any (v : Value) (c : Cfg) (a : Int) (w : World) (HV : Hid (CfgV w v c)) (HM : Hid (CfgM c)) :
    Calls Tryz.prog 14 #[v, .int .i64 a] w (SaysT3p w (.int .i64 (resLinesOfPart1 c a)) (.int .i64 (resLinesOfPart2 c a)) (.bool (resLinesOfPart3 c a))) := by
  obtain ⟨ac, cc, af, cf, rfl, ic, if_⟩ := HV.out
  obtain ⟨s, cs, fs, d⟩ := c
  have hM := HM.out
  unfold CfgM at hM
  simp only at ic if_ hM HV ⊢
  obtain ⟨q0, q1, q2⟩ := hM
  have HI := Lib.hid ic
  have HJ := Lib.hid if_
  have HVB := Lib.hid (fun w' (b : Below w.heap.size w w') => Lib.hid (HV.out.below b))
  have A0 := Lib.hid (Aft.refl w (Obj.cells #[.string s, .slice ac cs.length cc, .slice af fs.length cf, .int .i64 d] 32))
  clear ic if_
  have HH := Lib.hid (fun w' (b : Below w.heap.size w w') => cfHas_any (.agg #[.string s, .slice ac cs.length cc, .slice af fs.length cf, .int .i64 d]) ⟨s, cs, fs, d⟩ a w' (HVB.out w' b) HM)
  cases hh : hasI ⟨s, cs, fs, d⟩ a
  · obtain ⟨x1, x2, x3⟩ := lp_bad hh
    rw [x1, x2, x3]
    rw [hh] at HH
    clear x1 x2 x3 hh
    go_enter Tryz.func14, Tryz.ntmps14
    go_wp2_with (go_at_call 32; refine (HH.out _ A0.out.all.2).mono ?_; rintro e w1 ⟨rfl, b1⟩; have A1 := Lib.hid (A0.out.on b1); clear b1)
    go_ret3
    exact ⟨rfl, A1.out.all.2⟩
  · rw [hh] at HH
    obtain ⟨hg, q, rfl, hq⟩ := has_iff hh
    obtain ⟨x1, x2, x3⟩ := lp_good hh
    have GP := goodP hg
    have HLI := Lib.hid (fun w' HI => prLine_any s ac af cs.length cc fs.length cf d cs GP.T 9 q w' HI (Lib.hid rfl) hq (Nat.le_refl _) (dep8 GP.T hq))
    have HSI := Lib.hid (fun w' HI => prSize_any s ac af cs.length cc fs.length cf d cs GP.T 9 q w' HI (Lib.hid rfl) hq (Nat.le_refl _) (by omega))
    have hl1 := lineP_le GP.T 9 q hq
    have hl2 := sizeP_le GP.T 9 q (Nat.le_refl _) hq
    rw [x1, x2, x3]
    simp only at hq hl1 hl2 ⊢
    generalize lineP cs 9 q = K at HLI hl1 ⊢
    generalize sizeP cs 9 q = Z at HSI hl2 ⊢
    have HIB : Hid (∀ w', BX (w.alloc (Obj.cells #[.string s, .slice ac cs.length cc, .slice af fs.length cf, .int .i64 d] 32)) w' → Hid (InX w' ac cs.length (clsCs cs))) := Lib.hid (fun w' h => Lib.hid (HI.out.below (show Aft w (Obj.cells #[.string s, .slice ac cs.length cc, .slice af fs.length cf, .int .i64 d] 32) w' from h).all.2))
    have HQ : Hid (∀ w', BX (w.alloc (Obj.cells #[.string s, .slice ac cs.length cc, .slice af fs.length cf, .int .i64 d] 32)) w' → w'.cell? ⟨w.heap.size, 0, none⟩ = some (.string s) ∧ w'.cell? ⟨w.heap.size, 1, none⟩ = some (.slice ac cs.length cc) ∧ w'.cell? ⟨w.heap.size, 2, none⟩ = some (.slice af fs.length cf) ∧ w'.cell? ⟨w.heap.size, 3, none⟩ = some (.int .i64 d) ∧ BX (w.alloc (Obj.cells #[.string s, .slice ac cs.length cc, .slice af fs.length cf, .int .i64 d] 32)) w') := Lib.hid (fun w' h => by
      obtain ⟨e0, e1, e2, e3, _⟩ := (show Aft w (Obj.cells #[.string s, .slice ac cs.length cc, .slice af fs.length cf, .int .i64 d] 32) w' from h).all.1
      exact ⟨e0, e1, e2, e3, h⟩)
    have HE : Hid (∀ w', BX (w.alloc (Obj.cells #[.string s, .slice ac cs.length cc, .slice af fs.length cf, .int .i64 d] 32)) w' → Below w.heap.size w w') := Lib.hid (fun w' h => (show Aft w (Obj.cells #[.string s, .slice ac cs.length cc, .slice af fs.length cf, .int .i64 d] 32) w' from h).all.2)
    have X0 := Lib.hid (BX.refl (w.alloc (Obj.cells #[.string s, .slice ac cs.length cc, .slice af fs.length cf, .int .i64 d] 32)))
    clear x1 x2 x3 hh hg GP
    go_enter Tryz.func14, Tryz.ntmps14
    go_wp2_with (go_at_call 32; refine (HH.out _ A0.out.all.2).mono ?_; rintro e w1 ⟨rfl, b1⟩; have A1 : Hid (BX (w.alloc (Obj.cells #[.string s, .slice ac cs.length cc, .slice af fs.length cf, .int .i64 d] 32)) w1) := Lib.hid (X0.out.call b1); clear b1)
    refine wp_region_held_drew (S := fun w' => w'.cell? ⟨w.heap.size, 0, none⟩ = some (.string s) ∧ w'.cell? ⟨w.heap.size, 1, none⟩ = some (.slice ac cs.length cc) ∧ w'.cell? ⟨w.heap.size, 2, none⟩ = some (.slice af fs.length cf) ∧ w'.cell? ⟨w.heap.size, 3, none⟩ = some (.int .i64 d) ∧ BX (w.alloc (Obj.cells #[.string s, .slice ac cs.length cc, .slice af fs.length cf, .int .i64 d] 32)) w') (by kernel_rfl) ?_ (fun hHeld => ?_)
    · (try dsimp only)
      exact HQ.out _ A1.out.drew
    have B0 := Lib.hid A1.out.drew
    refine held_take (i := 0) (d := 11) (v := ?_) rfl rfl (by kernel_rfl) (by kernel_rfl) (by kernel_rfl) (fun _ _ _ h => h) (by rfl) ?_ (by assumption) ?_
    rotate_left
    · intro w hSw
      (try dsimp only at hSw)
      go_simp
      try with_reducible rfl
    try simp only [Act.put, List.setIfInBounds_toArray, List.set_cons_zero, List.set_cons_succ]
    refine held_take (i := 1) (d := 12) (v := ?_) rfl rfl (by kernel_rfl) (by kernel_rfl) (by kernel_rfl) (fun _ _ _ h => h) (by rfl) ?_ (by assumption) ?_
    rotate_left
    · intro w hSw
      (try dsimp only at hSw)
      go_simp
      try with_reducible rfl
    try simp only [Act.put, List.setIfInBounds_toArray, List.set_cons_zero, List.set_cons_succ]
    refine held_take (i := 3) (d := 14) (v := ?_) rfl rfl (by kernel_rfl) (by kernel_rfl) (by kernel_rfl) (fun _ _ _ h => h) (by rfl) ?_ (by assumption) ?_
    rotate_left
    · intro w hSw
      (try dsimp only at hSw)
      go_simp
      try with_reducible rfl
    try simp only [Act.put, List.setIfInBounds_toArray, List.set_cons_zero, List.set_cons_succ]
    refine held_take (i := 4) (d := 15) (v := ?_) rfl rfl (by kernel_rfl) (by kernel_rfl) (by kernel_rfl) (fun _ _ _ h => h) (by rfl) ?_ (by assumption) ?_
    rotate_left
    · intro w hSw
      (try dsimp only at hSw)
      go_simp
      try with_reducible rfl
    try simp only [Act.put, List.setIfInBounds_toArray, List.set_cons_zero, List.set_cons_succ]
    refine held_take (i := 6) (d := 17) (v := ?_) rfl rfl (by kernel_rfl) (by kernel_rfl) (by kernel_rfl) (fun _ _ _ h => h) (by rfl) ?_ (by assumption) ?_
    rotate_left
    · intro w hSw
      (try dsimp only at hSw)
      go_simp
      try with_reducible rfl
    try simp only [Act.put, List.setIfInBounds_toArray, List.set_cons_zero, List.set_cons_succ]
    refine held_take (i := 7) (d := 18) (v := ?_) rfl rfl (by kernel_rfl) (by kernel_rfl) (by kernel_rfl) (fun _ _ _ h => h) (by rfl) ?_ (by assumption) ?_
    rotate_left
    · intro w hSw
      (try dsimp only at hSw)
      go_simp
      try with_reducible rfl
    try simp only [Act.put, List.setIfInBounds_toArray, List.set_cons_zero, List.set_cons_succ]
    refine wpAnyH_ready (rs := [2]) (by kernel_rfl) (by simp) ?_
    refine ((AllReadyH.cons rfl (fun K' hK => ?_) AllReadyH.nil))
    go_simp
    go_at_call 33
    refine (HLI.out _ (HIB.out _ B0.out)).mono ?_
    rintro e u1 ⟨rfl, b⟩
    have B1 := Lib.hid (B0.out.call b)
    clear b
    refine hK.out _ _ ?_ (fun hHeld => ?_)
    · (try dsimp only)
      exact HQ.out _ B1.out
    clear hK K'
    try simp only [Act.put, List.setIfInBounds_toArray, List.set_cons_zero, List.set_cons_succ]
    refine wpAnyH_ready (rs := [5]) (by kernel_rfl) (by simp) ?_
    refine ((AllReadyH.cons rfl (fun K' hK => ?_) AllReadyH.nil))
    go_simp
    go_at_call 33
    refine (HLI.out _ (HIB.out _ B1.out)).mono ?_
    rintro e u2 ⟨rfl, b⟩
    have B2 := Lib.hid (B1.out.call b)
    clear b
    refine hK.out _ _ ?_ (fun hHeld => ?_)
    · (try dsimp only)
      exact HQ.out _ B2.out
    clear hK K'
    try simp only [Act.put, List.setIfInBounds_toArray, List.set_cons_zero, List.set_cons_succ]
    refine wpAnyH_ready (rs := [8]) (by kernel_rfl) (by simp) ?_
    refine ((AllReadyH.cons rfl (fun K' hK => ?_) AllReadyH.nil))
    go_simp
    go_at_call 34
    refine (HSI.out _ (HIB.out _ B2.out)).mono ?_
    rintro e u3 ⟨rfl, b⟩
    have B3 := Lib.hid (B2.out.call b)
    clear b
    refine hK.out _ _ ?_ (fun hHeld => ?_)
    · (try dsimp only)
      exact HQ.out _ B3.out
    clear hK K'
    try simp only [Act.put, List.setIfInBounds_toArray, List.set_cons_zero, List.set_cons_succ]
    refine held_take (i := 9) (d := 20) (v := ?_) rfl rfl (by kernel_rfl) (by kernel_rfl) (by kernel_rfl) (fun _ _ _ h => h) (by rfl) ?_ (by assumption) ?_
    rotate_left
    · intro w hSw
      (try dsimp only at hSw)
      go_simp
      try with_reducible rfl
    try simp only [Act.put, List.setIfInBounds_toArray, List.set_cons_zero, List.set_cons_succ]
    refine held_take (i := 10) (d := 21) (v := ?_) rfl rfl (by kernel_rfl) (by kernel_rfl) (by kernel_rfl) (fun _ _ _ h => h) (by rfl) ?_ (by assumption) ?_
    rotate_left
    · intro w hSw
      (try dsimp only at hSw)
      go_simp
      try with_reducible rfl
    try simp only [Act.put, List.setIfInBounds_toArray, List.set_cons_zero, List.set_cons_succ]
    refine held_take (i := 11) (d := 4) (v := ?_) rfl rfl (by kernel_rfl) (by kernel_rfl) (by kernel_rfl) (fun _ _ _ h => h) (by rfl) ?_ (by assumption) ?_
    rotate_left
    · intro w hSw
      (try dsimp only at hSw)
      go_simp
      try with_reducible rfl
    try simp only [Act.put, List.setIfInBounds_toArray, List.set_cons_zero, List.set_cons_succ]
    refine held_take (i := 12) (d := 5) (v := ?_) rfl rfl (by kernel_rfl) (by kernel_rfl) (by kernel_rfl) (fun _ _ _ h => h) (by rfl) ?_ (by assumption) ?_
    rotate_left
    · intro w hSw
      (try dsimp only at hSw)
      go_simp
      try with_reducible rfl
    try simp only [Act.put, List.setIfInBounds_toArray, List.set_cons_zero, List.set_cons_succ]
    refine held_take (i := 13) (d := 6) (v := ?_) rfl rfl (by kernel_rfl) (by kernel_rfl) (by kernel_rfl) (fun _ _ _ h => h) (by rfl) ?_ (by assumption) ?_
    rotate_left
    · intro w hSw
      (try dsimp only at hSw)
      go_simp
      try with_reducible rfl
    try simp only [Act.put, List.setIfInBounds_toArray, List.set_cons_zero, List.set_cons_succ]
    refine wpAnyH_done (by kernel_rfl) ?_ _
    go_wp2_with fail
    go_ret3
    exact ⟨ret_iibp rfl (by rw [IntWalk.i64_in ((K : Int) + Z) (by omega), IntWalk.i64_in ((K : Int) + Z - 1) (by omega)]) rfl, HE.out _ B3.out⟩
set_option maxHeartbeats 6400000 in
theorem specWalkClasses_any (v : Value) (c : Cfg) (w : World) (HV : Hid (CfgV w v c)) (HM : Hid (CfgM c)) :
    Calls Tryz.prog 16 #[v] w (SaysTS w (resWalkClasses1 c) (resWalkClasses2 c)) := by
  obtain ⟨ac, cc, af, cf, rfl, ic, if_⟩ := HV.out
  obtain ⟨s, cs, fs, d⟩ := c
  have hM := HM.out
  unfold CfgM at hM
  simp only at ic if_ hM HV ⊢
  obtain ⟨q0, q1, q2⟩ := hM
  have HI := Lib.hid ic
  have HJ := Lib.hid if_
  have HVB := Lib.hid (fun w' (b : Below w.heap.size w w') => Lib.hid (HV.out.below b))
  have A0 := Lib.hid (Aft.refl w (Obj.cells #[.string s, .slice ac cs.length cc, .slice af fs.length cf, .int .i64 d] 32))
  clear ic if_
  have HGD := Lib.hid (fun w' (b : Below w.heap.size w w') => cfGood_any (.agg #[.string s, .slice ac cs.length cc, .slice af fs.length cf, .int .i64 d]) ⟨s, cs, fs, d⟩ w' (HVB.out w' b) HM)
  cases hg : goodC ⟨s, cs, fs, d⟩
  · obtain ⟨x1, x2⟩ := wc_bad hg
    rw [x1, x2]
    rw [hg] at HGD
    clear x1 x2 hg
    go_enter Tryz.func16, Tryz.ntmps16
    go_wp2_with (go_at_call 24; refine (HGD.out _ A0.out.all.2).mono ?_; rintro e w1 ⟨rfl, b1⟩; have A1 := Lib.hid (A0.out.on b1); clear b1)
    go_ret2
    exact ⟨_, rfl, World.ownsRow_nil _ _ _ _, A1.out.all.2⟩
  · obtain ⟨x1, x2⟩ := wc_good hg
    have GP := goodP hg
    have hcT : cT cs = 1 := GP.top
    have htf := top_facts GP.T hcT
    have HTP := Lib.hid (fun w' HI => cfTop_any s ac af cs.length cc fs.length cf d cs w' HI (Lib.hid rfl) q1 (by omega))
    have HWK := Lib.hid (fun w' HI => prWalk_any s ac af cs.length cc fs.length cf d cs GP.T 8 (topF cs) w' HI (Lib.hid rfl) htf.1 (by decide) (by have := htf.2.2; simp only at this; omega))
    rw [x1, x2]
    rw [hg] at HGD
    simp only
    generalize topF cs = tp at HTP HWK
    generalize walkP cs 8 tp = K at HWK ⊢
    have HIB : Hid (∀ w', BX (w.alloc (Obj.cells #[.string s, .slice ac cs.length cc, .slice af fs.length cf, .int .i64 d] 32)) w' → Hid (InX w' ac cs.length (clsCs cs))) := Lib.hid (fun w' h => Lib.hid (HI.out.below (show Aft w (Obj.cells #[.string s, .slice ac cs.length cc, .slice af fs.length cf, .int .i64 d] 32) w' from h).all.2))
    have HQ : Hid (∀ w', BX (w.alloc (Obj.cells #[.string s, .slice ac cs.length cc, .slice af fs.length cf, .int .i64 d] 32)) w' → w'.cell? ⟨w.heap.size, 0, none⟩ = some (.string s) ∧ w'.cell? ⟨w.heap.size, 1, none⟩ = some (.slice ac cs.length cc) ∧ w'.cell? ⟨w.heap.size, 2, none⟩ = some (.slice af fs.length cf) ∧ w'.cell? ⟨w.heap.size, 3, none⟩ = some (.int .i64 d) ∧ BX (w.alloc (Obj.cells #[.string s, .slice ac cs.length cc, .slice af fs.length cf, .int .i64 d] 32)) w') := Lib.hid (fun w' h => by
      obtain ⟨e0, e1, e2, e3, _⟩ := (show Aft w (Obj.cells #[.string s, .slice ac cs.length cc, .slice af fs.length cf, .int .i64 d] 32) w' from h).all.1
      exact ⟨e0, e1, e2, e3, h⟩)
    have HE : Hid (∀ w', BX (w.alloc (Obj.cells #[.string s, .slice ac cs.length cc, .slice af fs.length cf, .int .i64 d] 32)) w' → Below w.heap.size w w') := Lib.hid (fun w' h => (show Aft w (Obj.cells #[.string s, .slice ac cs.length cc, .slice af fs.length cf, .int .i64 d] 32) w' from h).all.2)
    have X0 := Lib.hid (BX.refl (w.alloc (Obj.cells #[.string s, .slice ac cs.length cc, .slice af fs.length cf, .int .i64 d] 32)))
    clear x1 x2 hg GP htf hcT
    go_enter Tryz.func16, Tryz.ntmps16
    go_wp2_with (go_at_call 24; refine (HGD.out _ A0.out.all.2).mono ?_; rintro e w1 ⟨rfl, b1⟩; have A1 : Hid (BX (w.alloc (Obj.cells #[.string s, .slice ac cs.length cc, .slice af fs.length cf, .int .i64 d] 32)) w1) := Lib.hid (X0.out.call b1); clear b1)
    refine wp_region_held_drew (S := fun w' => w'.cell? ⟨w.heap.size, 0, none⟩ = some (.string s) ∧ w'.cell? ⟨w.heap.size, 1, none⟩ = some (.slice ac cs.length cc) ∧ w'.cell? ⟨w.heap.size, 2, none⟩ = some (.slice af fs.length cf) ∧ w'.cell? ⟨w.heap.size, 3, none⟩ = some (.int .i64 d) ∧ BX (w.alloc (Obj.cells #[.string s, .slice ac cs.length cc, .slice af fs.length cf, .int .i64 d] 32)) w') (by kernel_rfl) ?_ (fun hHeld => ?_)
    · (try dsimp only)
      exact HQ.out _ A1.out.drew
    have B0 := Lib.hid A1.out.drew
    refine held_take (i := 0) (d := 7) (v := ?_) rfl rfl (by kernel_rfl) (by kernel_rfl) (by kernel_rfl) (fun _ _ _ h => h) (by rfl) ?_ (by assumption) ?_
    rotate_left
    · intro w hSw
      (try dsimp only at hSw)
      go_simp
      try with_reducible rfl
    try simp only [Act.put, List.setIfInBounds_toArray, List.set_cons_zero, List.set_cons_succ]
    refine held_take (i := 1) (d := 8) (v := ?_) rfl rfl (by kernel_rfl) (by kernel_rfl) (by kernel_rfl) (fun _ _ _ h => h) (by rfl) ?_ (by assumption) ?_
    rotate_left
    · intro w hSw
      (try dsimp only at hSw)
      go_simp
      try with_reducible rfl
    try simp only [Act.put, List.setIfInBounds_toArray, List.set_cons_zero, List.set_cons_succ]
    refine wpAnyH_ready (rs := [2]) (by kernel_rfl) (by simp) ?_
    refine ((AllReadyH.cons rfl (fun K' hK => ?_) AllReadyH.nil))
    go_simp
    go_at_call 37
    refine (HTP.out _ (HIB.out _ B0.out)).mono ?_
    rintro e u1 ⟨rfl, b⟩
    have B1 := Lib.hid (B0.out.call b)
    clear b
    refine hK.out _ _ ?_ (fun hHeld => ?_)
    · (try dsimp only)
      exact HQ.out _ B1.out
    clear hK K'
    try simp only [Act.put, List.setIfInBounds_toArray, List.set_cons_zero, List.set_cons_succ]
    refine wpAnyH_ready (rs := [3]) (by kernel_rfl) (by simp) ?_
    refine ((AllReadyH.cons rfl (fun K' hK => ?_) AllReadyH.nil))
    go_simp
    go_at_call 36
    refine (HWK.out _ (HIB.out _ B1.out)).mono ?_
    rintro e u2 ⟨v2, rfl, o2, b⟩
    have B2 := Lib.hid (B1.out.call b)
    have O2 := Lib.hid (own_base o2 (HE.out _ B1.out).size)
    clear b o2
    refine hK.out _ _ ?_ (fun hHeld => ?_)
    · (try dsimp only)
      exact HQ.out _ B2.out
    clear hK K'
    try simp only [Act.put, List.setIfInBounds_toArray, List.set_cons_zero, List.set_cons_succ]
    refine held_take (i := 4) (d := 2) (v := ?_) rfl rfl (by kernel_rfl) (by kernel_rfl) (by kernel_rfl) (fun _ _ _ h => h) (by rfl) ?_ (by assumption) ?_
    rotate_left
    · intro w hSw
      (try dsimp only at hSw)
      go_simp
      try with_reducible rfl
    try simp only [Act.put, List.setIfInBounds_toArray, List.set_cons_zero, List.set_cons_succ]
    refine held_take (i := 5) (d := 3) (v := ?_) rfl rfl (by kernel_rfl) (by kernel_rfl) (by kernel_rfl) (fun _ _ _ h => h) (by rfl) ?_ (by assumption) ?_
    rotate_left
    · intro w hSw
      (try dsimp only at hSw)
      go_simp
      try with_reducible rfl
    try simp only [Act.put, List.setIfInBounds_toArray, List.set_cons_zero, List.set_cons_succ]
    refine wpAnyH_done (by kernel_rfl) ?_ _
    go_wp2_with fail
    go_ret2
    exact ⟨_, rfl, O2.out, HE.out _ B2.out⟩
end Go.Proofs.YtkpocljlmbihcaaGreatDoor
