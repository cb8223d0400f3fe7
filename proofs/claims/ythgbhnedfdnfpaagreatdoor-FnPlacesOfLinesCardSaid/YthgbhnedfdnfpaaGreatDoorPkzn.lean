import Derived.Test.YthgbhnedfdnfpaaGreatDoorPkzm
import Derived.Test.YthgbhnedfdnfpaaGreatDoorPkzi
import Derived.Test.YthgbhnedfdnfpaaGreatDoorPkzl
import Derived.Test.YthgbhnedfdnfpaaGreatDoorPkp
/- Canonical texts, the program's: the lines around the parts (written by tools/gen_prz.py). -/
namespace Go.Proofs.YthgbhnedfdnfpaaGreatDoor
set_option maxRecDepth 100000
open Go.RowKit
set_option linter.unusedVariables false
set_option linter.unusedSimpArgs false

theorem kidsF_top : ∀ (l : List Cls) (a : Nat), (kidsF 0 a l).length = (l.filter (fun x => x.p == 0)).length
  | [], _ => rfl
  | y :: r, a => by
    unfold kidsF
    rw [List.filter_cons]
    by_cases h : y.p = 0
    · rw [if_pos h, if_pos (by simpa using h)]; simp [kidsF_top r (a + 1)]
    · rw [if_neg h, if_neg (by simpa using h)]; exact kidsF_top r (a + 1)
theorem kids_top {cs : List Cls} (T : TreeF cs) (ht : cT cs = 1) : kids cs 0 = [topF cs] := by
  have h := top_facts T ht
  have hm := mem_kids h.1 h.2.1
  have hl : (kids cs 0).length = 1 := (kidsF_top cs 0).trans ht
  match hk : kids cs 0, hl with
  | [a], _ => rw [hk] at hm; simp only [List.mem_singleton] at hm; rw [hm]
theorem kids_one {A R : List Nat} {t k : Nat} (h : [t] = A ++ k :: R) : A = [] ∧ k = t := by
  match A, h with
  | [], h => simp at h; exact ⟨rfl, h.1.symm⟩
  | a :: r, h => simp at h
theorem indS_none (t : ByteArray) : indS 0 ++ t = t := by
  rw [indS_zero]
  apply bytes_exP
  simp [ByteArray.data_append]
structure EnvA (g gb : Nat) (cs : List Cls) (af : Option Addr) (m : Nat) (fs : List Flt) (w : World) : Prop where
  e : ∀ w', Below g w w' → AtC w' gb (clsCs cs) ∧ UP w'
  f : ∀ w', Below g w w' → FwW w' ∧ Dig w' ∧ InX w' af m (fltCs fs)
theorem EnvA.on {g gb : Nat} {cs : List Cls} {af : Option Addr} {m : Nat} {fs : List Flt} {w w1 : World} (h : EnvA g gb cs af m fs w) (b : Below g w w1) : EnvA g gb cs af m fs w1 := ⟨fun w' b' => h.e w' (b.trans b'), fun w' b' => h.f w' (b.trans b')⟩
theorem EnvA.env {g gb : Nat} {cs : List Cls} {af : Option Addr} {m : Nat} {fs : List Flt} {w : World} (h : EnvA g gb cs af m fs w) : Env g gb cs UP w := h.e
set_option maxHeartbeats 6400000 in
theorem writeTop_any (g gb n cc : Nat) (v0 v2 v3 : Value) (cs : List Cls) (T : TreeF cs) (ht : cT cs = 1) (hn : Hid (cs.length = n)) (L : List ByteArray) (S0 : Nat → Nat × Nat) (lv wv : Value) (w : World) (HP : Hid (PrS w g v0 (.slice (some ⟨gb, 0, none⟩) n cc) v2 v3 lv wv L [] S0)) (HE : Hid (Env g gb cs UP w)) (hL : L.length = 1) :
    Calls Tryz.prog 45 #[.pointer (some ⟨g, 0, none⟩)] w (SaysPr w g v0 (.slice (some ⟨gb, 0, none⟩) n cc) v2 v3 (fun L' W' Sp' => L' = L ++ linesP cs 8 1 (topF cs) ∧ W' = walkP cs 8 (topF cs) ∧ Sp' = spanP cs (walkP cs 8 (topF cs)) S0)) := by
  have hm : n ≤ 1048576 := by have := hn.out; have := T.n24; omega
  have htf := top_facts T ht
  have hkt := kids_top T ht
  have HREC : Hid (∀ k, k < n → (cs.getD k cls0).p = 0 → ∀ L' W' Sp' w' lv' wv', PartI cs 0 8 1 L [] S0 k L' W' Sp' → PrS w' g v0 (.slice (some ⟨gb, 0, none⟩) n cc) v2 v3 lv' wv' L' W' Sp' → Env g gb cs UP w' →
      Calls Tryz.prog 78 #[.pointer (some ⟨g, 0, none⟩), .int .i64 (k : Int), .int .i64 1] w' (SaysPr w' g v0 (.slice (some ⟨gb, 0, none⟩) n cc) v2 v3 (PartI cs 0 8 1 L [] S0 (k + 1)))) := Lib.hid (fun k hkn hkp L' W' Sp' w' lv' wv' hI hPr hEn => by
    have hkl : k < cs.length := by have := hn.out; omega
    have hS := partI_kid hkl hkp hI
    obtain ⟨A, R, hAR, hlen⟩ := hS.line
    rw [hkt] at hAR
    obtain ⟨rfl, rfl⟩ := kids_one hAR
    have hd1 := htf.2.2
    have hlk : lineP cs 9 (topF cs) = 2 := lineP_top (by rw [htf.2.1]; exact no_zero T.ok)
    simp only [List.map_nil, List.sum_nil, Nat.add_zero] at hlen
    have hsz := sizeP_le T 8 (topF cs) (by decide) hkl
    have hwz := walk_le T 8 (topF cs) (by decide) hkl
    have hW' : W'.length = 0 := by
      obtain ⟨A', hA', hLe, hWe, _⟩ := hI
      rw [hkt, kidsF_at 0 cs _ hkl _ rfl, if_pos hkp] at hA'
      obtain ⟨rfl, _⟩ := kids_one hA'.symm
      rw [hWe]; rfl
    refine (writePart_any g gb n cc v0 v2 v3 cs T hn 8 (topF cs) 1 L' W' Sp' lv' wv' w' (Lib.hid hPr) (Lib.hid hEn) hkn (by decide) (by omega) (by decide) (by rw [hlk]; omega) (by omega) (by omega)).mono ?_
    rintro e w'' ⟨he, ⟨L2, W2, Sp2, lv2, wv2, ⟨e1, e2, e3⟩, hp2⟩, hb2⟩
    refine ⟨he, ⟨L2, W2, Sp2, lv2, wv2, ?_, hp2⟩, hb2⟩
    rw [e1, e2, e3]
    exact hS.next)
  have HOT : Hid (∀ k, k < n → (cs.getD k cls0).p ≠ 0 → ∀ L' W' Sp', PartI cs 0 8 1 L [] S0 k L' W' Sp' → PartI cs 0 8 1 L [] S0 (k + 1) L' W' Sp') := Lib.hid (fun k hkn hkp L' W' Sp' h => partI_other (by have := hn.out; omega) hkp h)
  have HEC := Lib.hid (eachP_any g gb n cc v0 v2 v3 cs UP 0 1 (PartI cs 0 8 1 L [] S0) hn hm HREC HOT L [] S0 lv wv w (Lib.hid (partI_start cs 0 8 1 L [] S0)) HP HE)
  have HPE : Hid (∀ L' W' Sp', PartI cs 0 8 1 L [] S0 n L' W' Sp' → L' = L ++ linesP cs 8 1 (topF cs) ∧ W' = walkP cs 8 (topF cs) ∧ Sp' = spanP cs (walkP cs 8 (topF cs)) S0) := Lib.hid (fun L' W' Sp' h => by
    rw [← hn.out] at h
    obtain ⟨h1, h2, h3⟩ := partI_end h
    rw [hkt] at h1 h2 h3
    refine ⟨by rw [h1]; simp, by rw [h2]; simp, by rw [h3]; simp⟩)
  generalize PartI cs 0 8 1 L [] S0 = PI at HEC HPE
  clear HREC HOT htf hkt
  go_enter Tryz.func45, Tryz.ntmps45
  go_wp2_with (go_at_call 28; refine (HEC.out).mono ?_; rintro e w8 ⟨rfl, ⟨L8, W8, Sp8, lv8, wv8, hI8, p8⟩, b8⟩; have P8 := Lib.hid p8; have G8 := Lib.hid b8; have H8 := Lib.hid (HPE.out _ _ _ hI8); clear p8 b8 hI8)
  exact bodyPost_ret (v := .tuple #[]) (by simp [results, Tryz.results45, go_sem]) rfl ⟨rfl, ⟨L8, W8, Sp8, lv8, wv8, H8.out, P8.out⟩, G8.out⟩
set_option maxHeartbeats 1600000 in
theorem writeEnd_any (g : Nat) (v0 v1 v2 v3 lv wv : Value) (L : List ByteArray) (W : List Nat) (Sp : Nat → Nat × Nat) (w : World) (HP : Hid (PrS w g v0 v1 v2 v3 lv wv L W Sp)) (hL : L.length ≤ 3000000) :
    Calls Tryz.prog 47 #[.pointer (some ⟨g, 0, none⟩)] w (SaysPr w g v0 v1 v2 v3 (fun L' W' Sp' => L' = L ++ [⟨#[125, 10]⟩] ∧ W' = W ∧ Sp' = Sp)) := by
  have HWE := Lib.hid (writeLine_any g 0 ⟨#[125]⟩ v0 v1 v2 v3 lv wv L W Sp w HP (by decide) hL (by decide))
  rw [line_end, indS_none] at HWE
  go_enter Tryz.func47, Tryz.ntmps47
  go_wp2_with (go_at_call 63; refine (HWE.out).mono ?_; rintro e w9 ⟨rfl, lv9, p9, k9⟩; have P9 := Lib.hid p9; have G9 := Lib.hid k9.1; clear p9 k9)
  exact bodyPost_ret (v := .tuple #[]) (by simp [results, Tryz.results47, go_sem]) rfl ⟨rfl, ⟨_, _, _, lv9, wv, ⟨rfl, rfl, rfl⟩, P9.out⟩, G9.out⟩
def FlRelP (w : World) (g : Nat) (v0 v1 v2 v3 wv : Value) (L : List ByteArray) (W : List Nat) (Sp : Nat → Nat × Nat) (fs : List Flt) (i : Value) (wr : World) : Prop :=
  ∃ (k : Nat) (lv : Value), k ≤ fs.length ∧ i = .int .i64 k ∧ PrS wr g v0 v1 v2 v3 lv wv (L ++ filtL (fs.take k)) W Sp ∧ Below g w wr
theorem filt_take (fs : List Flt) (k : Nat) (h : k < fs.length) (x : Flt) (hx : fs.getD k flt0 = x) : filtL (fs.take (k + 1)) = filtL (fs.take k) ++ [indS 1 ++ lineT x ++ ⟨#[10]⟩] := by
  have hl : fs[k] = x := by rw [← hx]; simp [List.getD_eq_getElem?_getD, h]
  rw [List.take_succ_eq_append_getElem h, hl]
  unfold filtL
  rw [List.map_append]
  rfl
theorem filtL_len (fs : List Flt) : (filtL fs).length = fs.length := by unfold filtL; simp
set_option maxHeartbeats 6400000 in
theorem writeFilters_any (g gb m cf : Nat) (af : Option Addr) (v0 v1 v3 : Value) (cs : List Cls) (fs : List Flt) (hf : Hid (fs.length = m)) (hmf : m ≤ 16) (HG : Hid (∀ k, k < fs.length → goodFl (fs.getD k flt0) = true)) (L : List ByteArray) (W : List Nat) (Sp : Nat → Nat × Nat) (lv wv : Value) (w : World) (HP : Hid (PrS w g v0 v1 (.slice af m cf) v3 lv wv L W Sp)) (HE : Hid (EnvA g gb cs af m fs w)) (hL : L.length ≤ 2900000) :
    Calls Tryz.prog 46 #[.pointer (some ⟨g, 0, none⟩)] w (SaysPr w g v0 v1 (.slice af m cf) v3 (fun L' W' Sp' => L' = L ++ filtL fs ∧ W' = W ∧ Sp' = Sp)) := by
  obtain ⟨c0, c1, c2, c3, c4, c5, fz⟩ := HP.out.1.cells
  have HST := Lib.hid (fun s b w => sureText_any s b w)
  go_enter Tryz.func46, Tryz.ntmps46
  go_wp2_with fail
  go_loopw [10] (fun i wr => FlRelP w g v0 v1 (.slice af m cf) v3 wv L W Sp fs i wr) (fun i _ => m - (intOf i).toNat)
  case atStart => exact ⟨0, lv, Nat.zero_le _, rfl, by rw [List.take_zero]; simpa [filtL] using HP.out, Below.refl _ _⟩
  case round =>
    obtain ⟨k, lv1, hk, rfl, hPr, hb⟩ := hrel
    have HPr := Lib.hid hPr
    have HB := Lib.hid hb
    by_cases hlt : k < m
    · have E1 := HE.out.on hb
      obtain ⟨hw1, hd1, hi1⟩ := E1.f wr (Below.refl _ _)
      obtain ⟨gf, rfl, hft, hfg⟩ := hi1 (by omega)
      have hl1 : k < fs.length := by rw [hf.out]; exact hlt
      obtain ⟨x, hx⟩ : ∃ x, fs.getD k flt0 = x := ⟨_, rfl⟩
      have hgx := HG.out k hl1
      rw [hx] at hgx
      have hlz := lineT_size hgx
      have HNX := Lib.hid (filt_take fs k hl1 x hx)
      obtain ⟨a0, a1, a2, a3, a4⟩ := hft.flt k hl1 x hx
      have HFL := Lib.hid (fun w h1 h2 h3 => implFilterLine_any x w (Lib.hid h1) (Lib.hid h2) (Lib.hid h3))
      rw [rf_yes hgx, hgx] at HFL
      have htl : (filtL (fs.take k)).length ≤ 16 := by rw [filtL_len, List.length_take]; omega
      unfold lineT at HNX hlz
      generalize lineN x.o.toNat x.f.toNat x.v.toNat x.m.toNat x.t.toNat = ln at HNX hlz HFL
      have E1h := Lib.hid E1
      obtain ⟨xo, xf, xm, xv, xt⟩ := x
      unfold fltV at HFL
      simp only at a0 a1 a2 a3 a4 HFL
      have BA := one_new2 wr (.cells #[.int .i64 xo, .int .i64 xf, .int .i64 xm, .int .i64 xv, .int .i64 xt] 82)
      have PA := Lib.hid (HPr.out.below BA)
      have EA := Lib.hid (E1h.out.on (BA.mono (Nat.le_of_lt HPr.out.lt)))
      have GA := Lib.hid (HB.out.trans (BA.mono (Nat.le_of_lt HPr.out.lt)))
      clear hx hl1 hgx hPr hb hft BA E1 hw1 hd1 hi1
      go_wp2_with (go_at_call 79; refine (HFL.out _ (EA.out.f _ (Below.refl _ _)).1 (EA.out.e _ (Below.refl _ _)).2.2 (EA.out.f _ (Below.refl _ _)).2.1).mono ?_; rintro e w1 ⟨rfl, b⟩; have P1 := Lib.hid (PA.out.below b); have G1 := Lib.hid (GA.out.trans (b.mono (Nat.le_of_lt PA.out.lt))); clear b; refine Hid.out ?_)
      refine Lib.hid ?_
      have HWL := Lib.hid (writeLine_any g 1 ln v0 v1 _ v3 lv1 wv (L ++ filtL (fs.take k)) W Sp w1 P1 (by decide) (by rw [List.length_append]; omega) (by omega))
      rw [List.append_assoc, ← HNX.out] at HWL
      go_wp2_with (first | (go_at_call 39; refine (HST.out _ _ _).mono ?_; rintro e w' ⟨rfl, rfl⟩) | (go_at_call 63; refine (HWL.out).mono ?_; rintro e w2 ⟨rfl, lv2, p2, k2⟩; have P2 := Lib.hid p2; have G2 := Lib.hid (G1.out.trans k2.1); clear p2 k2))
      go_roundw
      case rel => exact ⟨k + 1, lv2, by have := hf.out; omega, by go_num, P2.out, G2.out⟩
      case measure => simp [intOf]; omega
    · have hkn : fs.take k = fs := List.take_of_length_le (by have := hf.out; omega)
      rw [hkn] at HPr
      clear hPr hb
      go_wp2_with fail
      exact bodyPost_ret (v := .tuple #[]) (by simp [results, Tryz.results46, go_sem]) rfl ⟨rfl, ⟨_, _, _, lv1, wv, ⟨rfl, rfl, rfl⟩, HPr.out⟩, HB.out⟩
end Go.Proofs.YthgbhnedfdnfpaaGreatDoor

/- Canonical texts, the program's: the first line (written by tools/gen_prx.py). -/
namespace Go.Proofs.YthgbhnedfdnfpaaGreatDoor
set_option maxRecDepth 100000
open Go.RowKit
set_option linter.unusedVariables false
set_option linter.unusedSimpArgs false

theorem own_slice {w : World} {B n : Nat} {T : TypeId} {v : Value} {xs : List Value} (h : w.ownsRow B T 1 v n xs) (hn : 0 < n) : ∃ g c, v = .slice (some ⟨g, 0, none⟩) n c ∧ n ≤ c ∧ B ≤ g ∧ g < w.heap.size ∧ ∀ j, j < n → w.cell? ⟨g, j, none⟩ = xs[j]? := by
  have hl := World.ownsRow.lt h
  rcases h.2 with ⟨_, h0⟩ | ⟨g, cap, cur, hv, h1, h2, h3, h4, _⟩
  · omega
  · have hg := hl g (by rw [hv]; rfl)
    subst hv
    exact ⟨g, cap, rfl, h3, hg.1, hg.2, fun j hj => World.ownsRow.cellAt h j (by omega)⟩
theorem words_own {w : World} {B n g c : Nat} {T : TypeId} {l : List ByteArray} (h : ∀ j, j < n → w.cell? ⟨g, j, none⟩ = (sv l)[j]?) (hn : l.length = n) : ∀ (j : Nat) x, l[j]? = some x → w.cell? ⟨g, 0 + j, none⟩ = some (.string x) := fun j x hj => by
  have hjl := (List.getElem?_eq_some_iff.1 hj).1
  rw [Nat.zero_add, h j (by omega)]
  simp [sv, hj]
theorem lit_own (w : World) (a : Array Value) (l : List ByteArray) (n B : Nat) (h : a = (sv l).toArray) (hn : l.length = n) (hm : n ≤ 1000) (hB : B ≤ w.heap.size) : (w.alloc (.cells a 9)).ownsRow B 9 1 (.slice (some ⟨w.heap.size, 0, none⟩) n n) n (sv l) := by
  subst h
  have := World.ownsRow_lit (base := B) (e := 9) (size := 1) w (sv l).toArray n hB (by unfold maxLen; omega) (by simp [sv_length, hn])
  simpa using this
theorem below_grown {B : Nat} {w w1 w2 : World} {row : Option Nat} (h : Below B w w1) (hg : w1.grownBy w2 row) (hB : B ≤ w1.heap.size) (hr : ∀ k, row = some k → B ≤ k) : Below B w w2 := h.grown hg hB hr
theorem beg_none (s : ByteArray) : joinB [⟨#[113, 100, 105, 115, 99]⟩, s, ⟨#[123]⟩] ++ ⟨#[10]⟩ = begS s 0 ++ ⟨#[32, 123, 10]⟩ := by
  apply bytes_exP
  simp [joinB, Lib.join, List.intercalate, List.intersperse, begS, ByteArray.data_append]
theorem beg_some (s : ByteArray) (nd : Nat) (h : (nd : Int) ≠ 0) : joinB [⟨#[113, 100, 105, 115, 99]⟩, s, ⟨#[100, 101, 102, 97, 117, 108, 116]⟩, numS nd, ⟨#[123]⟩] ++ ⟨#[10]⟩ = begS s (nd : Int) ++ ⟨#[32, 123, 10]⟩ := by
  apply bytes_exP
  unfold begS
  rw [if_neg h]
  simp [joinB, Lib.join, List.intercalate, List.intersperse, ByteArray.data_append]
set_option maxHeartbeats 6400000 in
theorem writeBeginning_z (g : Nat) (s : ByteArray) (v1 v2 lv wv : Value) (L : List ByteArray) (W : List Nat) (Sp : Nat → Nat × Nat) (w : World) (HP : Hid (PrS w g (.string s) v1 v2 (.int .i64 0) lv wv L W Sp)) (hs : s.size ≤ 8) (hL : L.length ≤ 3000000) :
    Calls Tryz.prog 44 #[.pointer (some ⟨g, 0, none⟩)] w (SaysPr w g (.string s) v1 v2 (.int .i64 0) (fun L' W' Sp' => L' = L ++ [begS s 0 ++ ⟨#[32, 123, 10]⟩] ∧ W' = W ∧ Sp' = Sp)) := by
  obtain ⟨i0, hi, hz0, hz1, hz2⟩ := info_parts infoStr
  obtain ⟨J, hJ⟩ : ∃ J, joinB [⟨#[113, 100, 105, 115, 99]⟩, s, ⟨#[123]⟩] = J := ⟨_, rfl⟩
  have HJ := Lib.hid hJ
  have hJl : J ++ ⟨#[10]⟩ = begS s 0 ++ ⟨#[32, 123, 10]⟩ := by rw [← hJ]; exact beg_none s
  have hJz : J.size ≤ 100 := by
    have e := congrArg ByteArray.size hJl
    simp only [ByteArray.size_append, begS, if_true, show (⟨#[113, 100, 105, 115, 99, 32]⟩ : ByteArray).size = 6 from rfl, show (⟨#[32, 123, 10]⟩ : ByteArray).size = 3 from rfl] at e
    omega
  have HJL : Hid (indS 0 ++ J ++ ⟨#[10]⟩ = begS s 0 ++ ⟨#[32, 123, 10]⟩) := Lib.hid (by rw [indS_none, hJl])
  obtain ⟨c0, c1, c2, c3, c4, c5, fz⟩ := HP.out.1.cells
  have BA := one_new2 w (.cells #[.string ⟨#[113, 100, 105, 115, 99]⟩, .string s] 9)
  have O1 := Lib.hid (lit_own w #[.string ⟨#[113, 100, 105, 115, 99]⟩, .string s] [⟨#[113, 100, 105, 115, 99]⟩, s] 2 w.heap.size rfl rfl (by decide) (Nat.le_refl _))
  have PA := Lib.hid (HP.out.below BA)
  obtain ⟨d0, d1, d2, d3, d4, d5, fz1⟩ := PA.out.1.cells
  have BB := one_new2 (w.alloc (.cells #[.string ⟨#[113, 100, 105, 115, 99]⟩, .string s] 9)) (.cells #[.string ⟨#[123]⟩] 9)
  have O2 := Lib.hid (own_low O1.out BB (Nat.le_refl _))
  have B2 := Lib.hid (BA.trans (BB.mono (by simp)))
  have e1 : (w.alloc (.cells #[.string ⟨#[113, 100, 105, 115, 99]⟩, .string s] 9)).heap.size = w.heap.size + 1 := by simp
  have n1 := one_int (w.alloc (.cells #[.string ⟨#[113, 100, 105, 115, 99]⟩, .string s] 9)) (.string ⟨#[123]⟩) 9
  rw [e1] at n1
  have N1 := Lib.hid n1
  clear hJ hJl BA BB n1
  go_enter Tryz.func44, Tryz.ntmps44
  go_wp2_with (at_builtin; refine wpList_append_at _ rfl _ _ 44 rfl w.heap.size 9 i0 (.string ⟨#[]⟩) 1 16 Tryz.underlying44 hi hz0 hz1 hz2 rfl (by decide) _ 2 (sv [⟨#[113, 100, 105, 115, 99]⟩, s]) rfl O2.out ⟨w.heap.size + 1, 0, none⟩ 1 1 [.string ⟨#[123]⟩] rfl rfl N1.out (by intro u hu; simp at hu; subst hu; rfl) (by unfold maxLen; omega) (by omega) (by simp; omega) ?_; intro v3 w3 hown hgrow hat; obtain ⟨g3, k3, rfl, q3, q4, q5, q6⟩ := own_slice hown (by decide); have B3 := Lib.hid (below_grown B2.out hgrow (by simp; omega) (fun k hk => by cases hk; exact Nat.le_refl _)); have HC3 := Lib.hid (words_own (B := 0) (c := 0) (T := 0) (l := [⟨#[113, 100, 105, 115, 99]⟩, s, ⟨#[123]⟩]) q6 rfl); clear hown hgrow hat; refine Hid.out ?_)
  refine Lib.hid ?_
  have P3 := Lib.hid (HP.out.below B3.out)
  go_wp2_with (go_at_call 37; refine (joinWords_any [⟨#[113, 100, 105, 115, 99]⟩, s, ⟨#[123]⟩] g3 3 k3 w3 HC3 (Lib.hid rfl) q5 q3 (by decide) J HJ (by omega)).mono ?_; rintro e w4 ⟨rfl, b⟩; have P4 := Lib.hid (P3.out.below b); have G4 := Lib.hid ((B3.out.mono (Nat.le_of_lt HP.out.lt)).trans (b.mono (Nat.le_of_lt P3.out.lt))); clear b; refine Hid.out ?_)
  refine Lib.hid ?_
  have HWL := Lib.hid (writeLine_any g 0 J _ v1 v2 _ lv wv L W Sp w4 P4 (by decide) hL (by omega))
  rw [HJL.out] at HWL
  go_wp2_with (go_at_call 63; refine (HWL.out).mono ?_; rintro e w5 ⟨rfl, lv5, p5, k5⟩; have P5 := Lib.hid p5; have G5 := Lib.hid (G4.out.trans k5.1); clear p5 k5)
  exact bodyPost_ret (v := .tuple #[]) (by simp [results, Tryz.results44, go_sem]) rfl ⟨rfl, ⟨_, _, _, lv5, wv, ⟨rfl, rfl, rfl⟩, P5.out⟩, G5.out⟩
set_option maxHeartbeats 6400000 in
theorem writeBeginning_n (g nd : Nat) (s : ByteArray) (v1 v2 lv wv : Value) (L : List ByteArray) (W : List Nat) (Sp : Nat → Nat × Nat) (w : World) (HP : Hid (PrS w g (.string s) v1 v2 (.int .i64 (nd : Int)) lv wv L W Sp)) (hs : s.size ≤ 8) (hL : L.length ≤ 3000000) (hd : (nd : Int) ≠ 0) (hd9 : nd ≤ 999) (hPw : ∀ w', Below g w w' → Hid (Pow w')) :
    Calls Tryz.prog 44 #[.pointer (some ⟨g, 0, none⟩)] w (SaysPr w g (.string s) v1 v2 (.int .i64 (nd : Int)) (fun L' W' Sp' => L' = L ++ [begS s (nd : Int) ++ ⟨#[32, 123, 10]⟩] ∧ W' = W ∧ Sp' = Sp)) := by
  obtain ⟨i0, hi, hz0, hz1, hz2⟩ := info_parts infoStr
  have HIT := Lib.hid (fun w h => itoa_any nd (by omega) w h)
  obtain ⟨J, hJ⟩ : ∃ J, joinB [⟨#[113, 100, 105, 115, 99]⟩, s, ⟨#[100, 101, 102, 97, 117, 108, 116]⟩, numS nd, ⟨#[123]⟩] = J := ⟨_, rfl⟩
  have hnz := numS_size nd
  have hJl : J ++ ⟨#[10]⟩ = begS s (nd : Int) ++ ⟨#[32, 123, 10]⟩ := by rw [← hJ]; exact beg_some s nd hd
  have hJz : J.size ≤ 2000 := by
    have e := congrArg ByteArray.size hJl
    rw [show begS s (nd : Int) = ⟨#[113, 100, 105, 115, 99, 32]⟩ ++ s ++ (⟨#[32, 100, 101, 102, 97, 117, 108, 116, 32]⟩ ++ numS nd) by unfold begS; rw [if_neg hd]; rfl] at e
    simp only [ByteArray.size_append, show (⟨#[113, 100, 105, 115, 99, 32]⟩ : ByteArray).size = 6 from rfl, show (⟨#[32, 123, 10]⟩ : ByteArray).size = 3 from rfl, show (⟨#[32, 100, 101, 102, 97, 117, 108, 116, 32]⟩ : ByteArray).size = 9 from rfl] at e
    omega
  have HJL : Hid (indS 0 ++ J ++ ⟨#[10]⟩ = begS s (nd : Int) ++ ⟨#[32, 123, 10]⟩) := Lib.hid (by rw [indS_none, hJl])
  generalize numS nd = ds at HIT hJ
  have HJ := Lib.hid hJ
  have dn : ((nd : Int) != 0) = true := by simp; omega
  obtain ⟨c0, c1, c2, c3, c4, c5, fz⟩ := HP.out.1.cells
  have BA := one_new2 w (.cells #[.string ⟨#[113, 100, 105, 115, 99]⟩, .string s] 9)
  have O1 := Lib.hid (lit_own w #[.string ⟨#[113, 100, 105, 115, 99]⟩, .string s] [⟨#[113, 100, 105, 115, 99]⟩, s] 2 w.heap.size rfl rfl (by decide) (Nat.le_refl _))
  have PA := Lib.hid (HP.out.below BA)
  have GA := Lib.hid (BA.mono (Nat.le_of_lt HP.out.lt))
  have HBA := Lib.hid BA
  obtain ⟨d0, d1, d2, d3, d4, d5, fz1⟩ := PA.out.1.cells
  have hzA : w.heap.size + 1 ≤ (w.alloc (.cells #[.string ⟨#[113, 100, 105, 115, 99]⟩, .string s] 9)).heap.size := by simp
  clear hJ hJl BA hnz
  go_enter Tryz.func44, Tryz.ntmps44
  go_wp2_with (go_at_call 38; refine (HIT.out _ (hPw _ GA.out)).mono ?_; rintro e w1 ⟨rfl, b⟩; have O1b := Lib.hid (own_low O1.out b (Nat.le_refl _)); have B1 := Lib.hid (HBA.out.trans (b.mono (by simp))); clear b; refine Hid.out ?_)
  refine Lib.hid ?_
  have BC := one_new2 w1 (.cells #[.string ⟨#[100, 101, 102, 97, 117, 108, 116]⟩, .string ds] 9)
  have O2 := Lib.hid (own_low O1b.out BC (Nat.le_refl _))
  have B2 := Lib.hid (B1.out.trans (BC.mono B1.out.size))
  have OD := Lib.hid (lit_own w1 #[.string ⟨#[100, 101, 102, 97, 117, 108, 116]⟩, .string ds] [⟨#[100, 101, 102, 97, 117, 108, 116]⟩, ds] 2 w1.heap.size rfl rfl (by decide) (Nat.le_refl _))
  clear BC
  go_wp2_with (at_builtin; refine wpList_append_at _ rfl _ _ 44 rfl w.heap.size 9 i0 (.string ⟨#[]⟩) 1 16 Tryz.underlying44 hi hz0 hz1 hz2 rfl (by decide) _ 2 (sv [⟨#[113, 100, 105, 115, 99]⟩, s]) rfl O2.out ⟨w1.heap.size, 0, none⟩ 2 2 (sv [⟨#[100, 101, 102, 97, 117, 108, 116]⟩, ds]) rfl rfl (own_news1 OD.out) (by intro u hu; simp [sv] at hu; rcases hu with rfl | rfl <;> rfl) (by unfold maxLen; omega) (by omega) B2.out.size ?_; intro v3 w3 hown hgrow hat; obtain ⟨g3, k3, rfl, q3, q4, q5, q6⟩ := own_slice hown (by decide); have B3 := Lib.hid (below_grown B2.out hgrow B2.out.size (fun k hk => by cases hk; exact Nat.le_refl _)); have O3 := Lib.hid hown; clear hown hgrow hat; refine Hid.out ?_)
  refine Lib.hid ?_
  have BD := one_new2 w3 (.cells #[.string ⟨#[123]⟩] 9)
  have O4 := Lib.hid (own_low O3.out BD (Nat.le_refl _))
  have B4 := Lib.hid (B3.out.trans (BD.mono B3.out.size))
  have N1 := Lib.hid (one_int w3 (.string ⟨#[123]⟩) 9)
  clear BD
  go_wp2_with (at_builtin; refine wpList_append_at _ rfl _ _ 44 rfl w.heap.size 9 i0 (.string ⟨#[]⟩) 1 16 Tryz.underlying44 hi hz0 hz1 hz2 rfl (by decide) _ 4 (sv [⟨#[113, 100, 105, 115, 99]⟩, s] ++ sv [⟨#[100, 101, 102, 97, 117, 108, 116]⟩, ds]) rfl O4.out ⟨w3.heap.size, 0, none⟩ 1 1 [.string ⟨#[123]⟩] rfl rfl N1.out (by intro u hu; simp at hu; subst hu; rfl) (by unfold maxLen; omega) (by omega) B4.out.size ?_; intro v5 w5 hown hgrow hat; obtain ⟨g5, k5, rfl, r3, r4, r5, r6⟩ := own_slice hown (by decide); have B5 := Lib.hid (below_grown B4.out hgrow B4.out.size (fun k hk => by cases hk; exact q4)); have HC5 := Lib.hid (words_own (B := 0) (c := 0) (T := 0) (l := [⟨#[113, 100, 105, 115, 99]⟩, s, ⟨#[100, 101, 102, 97, 117, 108, 116]⟩, ds, ⟨#[123]⟩]) r6 rfl); clear hown hgrow hat; refine Hid.out ?_)
  refine Lib.hid ?_
  have P5 := Lib.hid (HP.out.below B5.out)
  go_wp2_with (go_at_call 37; refine (joinWords_any [⟨#[113, 100, 105, 115, 99]⟩, s, ⟨#[100, 101, 102, 97, 117, 108, 116]⟩, ds, ⟨#[123]⟩] g5 5 k5 w5 HC5 (Lib.hid rfl) r5 r3 (by decide) J HJ (by omega)).mono ?_; rintro e w6 ⟨rfl, b⟩; have P6 := Lib.hid (P5.out.below b); have G6 := Lib.hid ((B5.out.mono (Nat.le_of_lt HP.out.lt)).trans (b.mono (Nat.le_of_lt P5.out.lt))); clear b; refine Hid.out ?_)
  refine Lib.hid ?_
  have HWL := Lib.hid (writeLine_any g 0 J _ v1 v2 _ lv wv L W Sp w6 P6 (by decide) hL (by omega))
  rw [HJL.out] at HWL
  go_wp2_with (go_at_call 63; refine (HWL.out).mono ?_; rintro e w7 ⟨rfl, lv7, p7, k7⟩; have P7 := Lib.hid p7; have G7 := Lib.hid (G6.out.trans k7.1); clear p7 k7)
  exact bodyPost_ret (v := .tuple #[]) (by simp [results, Tryz.results44, go_sem]) rfl ⟨rfl, ⟨_, _, _, lv7, wv, ⟨rfl, rfl, rfl⟩, P7.out⟩, G7.out⟩
theorem writeBeginning_any (g : Nat) (s : ByteArray) (d : Int) (v1 v2 lv wv : Value) (L : List ByteArray) (W : List Nat) (Sp : Nat → Nat × Nat) (w : World) (HP : Hid (PrS w g (.string s) v1 v2 (.int .i64 d) lv wv L W Sp)) (hs : s.size ≤ 8) (hL : L.length ≤ 3000000) (hd : d = 0 ∨ (1 ≤ d ∧ d ≤ 999)) (hPw : ∀ w', Below g w w' → Hid (Pow w')) :
    Calls Tryz.prog 44 #[.pointer (some ⟨g, 0, none⟩)] w (SaysPr w g (.string s) v1 v2 (.int .i64 d) (fun L' W' Sp' => L' = L ++ [begS s d ++ ⟨#[32, 123, 10]⟩] ∧ W' = W ∧ Sp' = Sp)) := by
  rcases hd with rfl | hd
  · exact writeBeginning_z g s v1 v2 lv wv L W Sp w HP hs hL
  · obtain ⟨nd, rfl⟩ := Int.eq_ofNat_of_zero_le (show 0 ≤ d by omega)
    exact writeBeginning_n g nd s v1 v2 lv wv L W Sp w HP hs hL (by omega) (by omega) hPw
end Go.Proofs.YthgbhnedfdnfpaaGreatDoor

/- Canonical texts, the program's: the printer as a value (written by tools/gen_pri.py). -/
namespace Go.Proofs.YthgbhnedfdnfpaaGreatDoor
set_option maxRecDepth 100000
open Go.RowKit
set_option linter.unusedVariables false
set_option linter.unusedSimpArgs false

def sp0 : Nat → Nat × Nat := fun _ => (0, 0)
theorem spL_zero : spL sp0 = List.replicate 48 (.int .i64 0) := by
  apply List.ext_getElem?
  intro j
  by_cases h : j < 48
  · rw [spL_get _ _ h, List.getElem?_replicate, if_pos h]
    simp [sp0]
  · rw [List.getElem?_eq_none (by rw [spL_length]; omega), List.getElem?_eq_none (by simp; omega)]
theorem pX_zero : (pX (.string ⟨#[]⟩) (.slice none 0 0) (.slice none 0 0) (.int .i64 0) (.slice none 0 0) (.slice none 0 0) sp0).toArray = #[.string ⟨#[]⟩, .slice none 0 0, .slice none 0 0, .int .i64 0, .slice none 0 0, .slice none 0 0, .int .i64 0, .int .i64 0, .int .i64 0, .int .i64 0, .int .i64 0, .int .i64 0, .int .i64 0, .int .i64 0, .int .i64 0, .int .i64 0, .int .i64 0, .int .i64 0, .int .i64 0, .int .i64 0, .int .i64 0, .int .i64 0, .int .i64 0, .int .i64 0, .int .i64 0, .int .i64 0, .int .i64 0, .int .i64 0, .int .i64 0, .int .i64 0, .int .i64 0, .int .i64 0, .int .i64 0, .int .i64 0, .int .i64 0, .int .i64 0, .int .i64 0, .int .i64 0, .int .i64 0, .int .i64 0, .int .i64 0, .int .i64 0, .int .i64 0, .int .i64 0, .int .i64 0, .int .i64 0, .int .i64 0, .int .i64 0, .int .i64 0, .int .i64 0, .int .i64 0, .int .i64 0, .int .i64 0, .int .i64 0] := by
  unfold pX
  rw [spL_zero]
  rfl
theorem pX_new (v0 v1 v2 v3 : Value) : (pX v0 v1 v2 v3 (.slice none 0 0) (.slice none 0 0) sp0).toArray = #[v0, v1, v2, v3, .slice none 0 0, .slice none 0 0, .int .i64 0, .int .i64 0, .int .i64 0, .int .i64 0, .int .i64 0, .int .i64 0, .int .i64 0, .int .i64 0, .int .i64 0, .int .i64 0, .int .i64 0, .int .i64 0, .int .i64 0, .int .i64 0, .int .i64 0, .int .i64 0, .int .i64 0, .int .i64 0, .int .i64 0, .int .i64 0, .int .i64 0, .int .i64 0, .int .i64 0, .int .i64 0, .int .i64 0, .int .i64 0, .int .i64 0, .int .i64 0, .int .i64 0, .int .i64 0, .int .i64 0, .int .i64 0, .int .i64 0, .int .i64 0, .int .i64 0, .int .i64 0, .int .i64 0, .int .i64 0, .int .i64 0, .int .i64 0, .int .i64 0, .int .i64 0, .int .i64 0, .int .i64 0, .int .i64 0, .int .i64 0, .int .i64 0, .int .i64 0] := by
  unfold pX
  rw [spL_zero]
  rfl
theorem pX_asize (v0 v1 v2 v3 lv wv : Value) (Sp : Nat → Nat × Nat) : (pX v0 v1 v2 v3 lv wv Sp).toArray.size = 54 := by rw [List.size_toArray, pX_length]
def RowP (w : World) (B g : Nat) (xs : List Value) : Prop := w.ownsRow B 49 1 (.slice (some ⟨g, 0, none⟩) 54 54) 54 xs
theorem RowP.heap {w : World} {B g : Nat} {xs : List Value} (h : RowP w B g xs) : w.heap[g]? = some (.cells xs.toArray 49 (0, 0)) := by
  obtain ⟨_, h⟩ := h
  rcases h with ⟨h, _⟩ | ⟨g', cap, cur, hv, _, hg, _, _, hs, ht⟩
  · cases h
  · cases hv
    rw [hg]
    have : cur = xs.toArray := by
      apply Array.toList_inj.1
      rw [← ht, List.take_of_length_le (by rw [Array.length_toList, hs]; exact Nat.le_refl _)]
    rw [this]
theorem PrV.row {w : World} {B g : Nat} {v0 v1 v2 v3 lv wv : Value} {Sp : Nat → Nat × Nat} (h : PrV w g v0 v1 v2 v3 lv wv Sp) (hB : B ≤ g) : RowP w B g (pX v0 v1 v2 v3 lv wv Sp) :=
  ⟨by rw [pX_length], .inr ⟨g, 54, _, rfl, hB, h, Nat.le_refl _, by unfold maxLen; omega, by rw [List.size_toArray, pX_length], by rw [List.take_of_length_le (by rw [pX_length]; exact Nat.le_refl _)]⟩⟩
theorem RowP.put {w : World} {B g : Nat} {xs ys : List Value} (h : RowP w B g xs) (hy : ys.length = 54) : RowP (w.setCells g 0 ys) B g ys := by
  have := setN_own ys 0 w xs h (by rw [hy])
  unfold RowP
  simpa using this
theorem PrV.range {w : World} {g : Nat} {v0 v1 v2 v3 lv wv : Value} {Sp : Nat → Nat × Nat} (h : PrV w g v0 v1 v2 v3 lv wv Sp) : w.rangeAt g 0 (pX v0 v1 v2 v3 lv wv Sp) := fun j v hv => by rw [Nat.zero_add, h.cell]; exact hv
theorem PrV.there {w : World} {g : Nat} {v0 v1 v2 v3 lv wv : Value} {Sp : Nat → Nat × Nat} (h : PrV w g v0 v1 v2 v3 lv wv Sp) : w.there g 0 54 := fun j hj => by
  rw [Nat.zero_add, h.cell]
  exact ⟨by rw [List.getElem?_eq_getElem (by rw [pX_length]; exact hj)]; rfl, h.cells.2.2.2.2.2.2 j⟩
theorem infoP : (Tryz.prog.info? 49).map (·.size) = some 54 := by kernel_rfl
theorem pX_one {v0 v1 v2 v3 lv wv : Value} {Sp : Nat → Nat × Nat} (h0 : v0.oneCell' = true) (h1 : v1.oneCell' = true) (h2 : v2.oneCell' = true) (h3 : v3.oneCell' = true) (h4 : lv.oneCell' = true) (h5 : wv.oneCell' = true) : ∀ v ∈ pX v0 v1 v2 v3 lv wv Sp, v.oneCell' = true := by
  intro v hv
  unfold pX at hv
  simp only [List.mem_cons] at hv
  rcases hv with rfl | rfl | rfl | rfl | rfl | rfl | hv
  · exact h0
  · exact h1
  · exact h2
  · exact h3
  · exact h4
  · exact h5
  · unfold spL at hv
    obtain ⟨k, _, rfl⟩ := List.mem_map.1 hv
    rfl
theorem results_row2 {P : Program} {fn : Func} {p q : Tmp} {ty : TypeId} (h : fn.results = #[.cell p ty, .tmp q]) (tmps : Array Value) (w : World) (g : Nat) (t : TypeId) (cs : Array Value) (fr : Nat × Nat) (d : TypeDesc) (u : Value)
    (hp : tmps.getD p undef = .pointer (some ⟨g, 0, none⟩)) (hq : tmps.getD q undef = u) (hg : w.heap[g]? = some (.cells cs t fr))
    (hu : P.underlying ty = some d) (hd : (match d with | .struct _ | .array _ _ => true | _ => false) = true) (hi : (P.info? ty).map (·.size) = some cs.size) :
    (results fn tmps).run P w = .ok (.tuple #[.agg cs, u]) w := by
  have hp' : tmps[p]?.getD undef = .pointer (some ⟨g, 0, none⟩) := by simpa using hp
  have hq' : tmps[q]?.getD undef = u := by simpa using hq
  simp [results, h, hp', hq', asAddr, run_loadVar_row w g t ty cs fr d hg hu hd hi]
end Go.Proofs.YthgbhnedfdnfpaaGreatDoor
