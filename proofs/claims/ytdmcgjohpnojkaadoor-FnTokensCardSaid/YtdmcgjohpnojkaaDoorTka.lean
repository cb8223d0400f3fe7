/- Tokens at an index: contracts of tkAt and of TokenAt, program and model. -/
import Derived.Test.YtdmcgjohpnojkaaDoorTko
import Derived.Test.YtdmcgjohpnojkaaDoorTkq
import Derived.RegionTactic
import Derived.ChangeAlike
namespace Go.Proofs.YtdmcgjohpnojkaaDoor
set_option maxRecDepth 100000
open Go.RowKit
set_option linter.unusedVariables false

/-- what stands at an index: the token (kind 0: none), the index behind it, the fault (kind 0: none) -/
structure TkA where
  k : Int
  a : Nat
  t : ByteArray
  v : Int
  e : Nat
  f : Int
  g : Nat
def tkA (s : ByteArray) (i : Nat) : TkA :=
  let n := i + skL false (s.data.toList.drop i)
  if n = s.size then ⟨0, 0, ⟨#[]⟩, 0, n, 0, 0⟩
  else
    let t := ftL (s.data.toList.drop n)
    if tkFa t = 0 then ⟨tkKi t, n, t, tkVa t, n + t.size, 0, 0⟩ else ⟨0, 0, ⟨#[]⟩, 0, n, tkFa t, n⟩
theorem tkA_end {s : ByteArray} {i n : Nat} (hn : i + skL false (s.data.toList.drop i) = n) (h : n = s.size) : tkA s i = ⟨0, 0, ⟨#[]⟩, 0, n, 0, 0⟩ := by
  unfold tkA; simp only [hn]; rw [if_pos h]
theorem tkA_tok {s : ByteArray} {i n : Nat} {t : ByteArray} (hn : i + skL false (s.data.toList.drop i) = n) (h : n ≠ s.size) (ht : ftL (s.data.toList.drop n) = t) (hf : tkFa t = 0) : tkA s i = ⟨tkKi t, n, t, tkVa t, n + t.size, 0, 0⟩ := by
  unfold tkA; simp only [hn]; rw [if_neg h, ht, if_pos hf]
theorem tkA_bad {s : ByteArray} {i n : Nat} {t : ByteArray} (hn : i + skL false (s.data.toList.drop i) = n) (h : n ≠ s.size) (ht : ftL (s.data.toList.drop n) = t) (hf : tkFa t ≠ 0) : tkA s i = ⟨0, 0, ⟨#[]⟩, 0, n, tkFa t, n⟩ := by
  unfold tkA; simp only [hn]; rw [if_neg h, ht, if_neg hf]
/-- a struct that holds a token; one that holds a fault -/
def TkA.tv (x : TkA) : Value := tokV x.k x.a x.t x.v
def TkA.fv (x : TkA) : Value := fauV x.f x.g
theorem pfxOf_in (l : List UInt8) : ∀ L, pfxOf l L = ⟨#[]⟩ ∨ pfxOf l L ∈ L
  | [] => .inl rfl
  | x :: r => by
    unfold pfxOf
    split
    · exact .inr (by simp)
    · rcases pfxOf_in l r with h | h
      · exact .inl h
      · exact .inr (by simp [h])
theorem pfxOf_pfx (l : List UInt8) : ∀ L, Lib.hasPrefix l (pfxOf l L).data.toList = true
  | [] => by unfold pfxOf Lib.hasPrefix; simp
  | x :: r => by
    unfold pfxOf
    split
    · assumption
    · exact pfxOf_pfx l r
theorem ftL_len (l : List UInt8) : (ftL l).size ≤ l.length := by
  unfold ftL
  split
  · rw [size_list]; simp; omega
  · have := pfxOf_pfx l sgA
    unfold Lib.hasPrefix at this
    rw [size_list]
    exact (List.isPrefixOf_iff_prefix.1 this).length_le
theorem acell {W w1 : World} (hb : Below W.heap.size W w1) : (∀ x b o, b < W.heap.size → (w1.alloc x).cell? ⟨b, o, none⟩ = W.cell? ⟨b, o, none⟩) ∧ (∀ x b o, b < W.heap.size → (w1.alloc x).frozen? ⟨b, o, none⟩ = W.frozen? ⟨b, o, none⟩) :=
  ⟨fun x b o h => (hb.alloc hb.size x).cell (p := ⟨b, o, none⟩) h, fun x b o h => (hb.alloc hb.size x).frozen (p := ⟨b, o, none⟩) h⟩
theorem Six.below {w w1 w2 : World} (h : Six w w1) (b : Below w1.heap.size w1 w2) (hz : w.heap.size + 1 < w1.heap.size) : Six w w2 := by
  have hc := (bcell b).1
  obtain ⟨⟨h0, h1, h2, h3⟩, g0, g1⟩ := h
  refine ⟨⟨?_, ?_, ?_, ?_⟩, ?_, ?_⟩ <;> rw [hc _ _ (by omega)] <;> assumption
theorem ret_tk {x : TkA} {k : Int} {a : Nat} {t : ByteArray} {v : Int} {e : Nat} {f : Int} {g : Nat} {ai ei gi : Int} (h : x = ⟨k, a, t, v, e, f, g⟩) (ha : ai = a) (he : ei = e) (hg : gi = g) :
    Ending.returned (.tuple #[.agg #[.int .i64 k, .int .i64 ai, .string t, .int .i64 v], .int .i64 ei, .agg #[.int .i64 f, .int .i64 gi]]) = .returned (.tuple #[x.tv, .int .i64 (x.e : Int), x.fv]) := by
  subst h ha he hg; rfl
theorem tkAt_end (s : ByteArray) (i : Nat) (n : Nat) (w : World) (hs : s.size ≤ 1048576) (h : i ≤ s.size) (hn : Hid (i + skL false (s.data.toList.drop i) = n)) (he : Hid (n = s.size)) :
    Calls Tryd.prog 42 #[.string s, .int .i64 i] w (SaysV w (.tuple #[(tkA s i).tv, .int .i64 ((tkA s i).e : Int), (tkA s i).fv])) := by
  have HX := Lib.hid (tkA_end hn.out he.out)
  have HS := Lib.hid (fun w => tkSkip_any s i w hs h)
  rw [hn.out, he.out] at HS
  go_enter Tryd.func42, Tryd.ntmps42
  go_wp2_with (go_at_call 44; refine (HS.out _).mono ?_; rintro e w' ⟨rfl, rfl⟩)
  exact bodyPost_ret (v := .tuple #[.agg #[.int .i64 0, .int .i64 0, .string ⟨#[]⟩, .int .i64 0], .int .i64 s.size, .agg #[.int .i64 0, .int .i64 0]]) (by simp [results, Tryd.results42, go_sem]) rfl ⟨ret_tk HX.out rfl (by rw [he.out]) rfl, two_new _ _ _⟩
set_option maxHeartbeats 1600000 in
theorem tkAt_byte (s : ByteArray) (i : Nat) (n : Nat) (w : World) (hs : s.size ≤ 1048576) (h : i ≤ s.size) (hn : Hid (i + skL false (s.data.toList.drop i) = n)) (he : n < s.size) (t r : ByteArray) (hsg : Hid (sgOf (s.data.toList.drop n) = t)) (ht : t.size = 0) (hr : Hid (s.extract n (n + runN (s.data.toList.drop n)) = r)) (hrz : r.size = 0) (HX : Hid (tkA s i = ⟨0, 0, ⟨#[]⟩, 0, n, 1, n⟩)) :
    Calls Tryd.prog 42 #[.string s, .int .i64 i] w (SaysV w (.tuple #[(tkA s i).tv, .int .i64 ((tkA s i).e : Int), (tkA s i).fv])) := by
  have HS := Lib.hid (fun w => tkSkip_any s i w hs h)
  rw [hn.out] at HS
  have HG := Lib.hid (fun w => tkSign_any s n w hs (by omega))
  rw [hsg.out] at HG
  have HR := Lib.hid (fun w => tkRun_any s n w hs (by omega))
  rw [hr.out] at HR
  obtain ⟨f1, f2⟩ := empty_tests ht
  obtain ⟨f3, f4⟩ := empty_tests hrz
  have dn : ((n : Int) == (s.size : Int)) = false := by simp; omega
  clear ht hrz
  go_enter Tryd.func42, Tryd.ntmps42
  go_wp2_with (first | (go_at_call 44; refine (HS.out _).mono ?_; rintro e w' ⟨rfl, rfl⟩) | (go_at_call 79; refine (HG.out _).mono ?_; rintro e w1 ⟨rfl, b1⟩; obtain ⟨hc, hf⟩ := bcell b1; have hz := two_size b1; have X1 := Lib.hid (six_new b1); have B1 := Lib.hid (two_below b1); clear b1) | (go_at_call 80; refine (HR.out _).mono ?_; rintro e w' ⟨rfl, rfl⟩))
  obtain ⟨⟨r0, r1, r2, r3⟩, q0, q1⟩ := read42 X1.out (.int .i64 0) (.int .i64 0) (.string ⟨#[]⟩) (.int .i64 0) (.int .i64 1) (.int .i64 n) _ rfl
  exact bodyPost_ret (v := .tuple #[.agg #[.int .i64 0, .int .i64 0, .string ⟨#[]⟩, .int .i64 0], .int .i64 n, .agg #[.int .i64 1, .int .i64 n]]) (by simp [results, Tryd.results42, go_sem, r0, r1, r2, r3, q0, q1]) rfl ⟨ret_tk HX.out rfl rfl rfl, set2 (set4 B1.out _ (Nat.le_refl _) _ _ _ _) _ (Nat.le_succ _) _ _⟩
set_option maxHeartbeats 1600000 in
theorem tkAt_signgood (s : ByteArray) (i : Nat) (n : Nat) (w : World) (hs : s.size ≤ 1048576) (h : i ≤ s.size) (hn : Hid (i + skL false (s.data.toList.drop i) = n)) (he : n < s.size) (t : ByteArray) (hr0 : Hid (sgOf (s.data.toList.drop n) = t)) (ht : 0 < t.size) (hts : t.size ≤ s.size) (K A V F : Int) (T : ByteArray)
    (HM : Hid (∀ w, Calls Tryd.prog 81 #[.string t, .int .i64 n] w (SaysV w (.tuple #[.agg #[.int .i64 K, .int .i64 A, .string T, .int .i64 V], .int .i64 F])))) (d : (F != 0) = false) (HX : Hid (tkA s i = ⟨K, n, T, V, n + t.size, 0, 0⟩)) (HA : Hid (A = n)) :
    Calls Tryd.prog 42 #[.string s, .int .i64 i] w (SaysV w (.tuple #[(tkA s i).tv, .int .i64 ((tkA s i).e : Int), (tkA s i).fv])) := by
  have HS := Lib.hid (fun w => tkSkip_any s i w hs h)
  rw [hn.out] at HS
  have HG := Lib.hid (fun w => tkSign_any s n w hs (by omega))
  rw [hr0.out] at HG
  obtain ⟨f1, f2⟩ := full_tests ht
  have dn : ((n : Int) == (s.size : Int)) = false := by simp; omega
  clear ht
  go_enter Tryd.func42, Tryd.ntmps42
  go_wp2_with (first | (go_at_call 44; refine (HS.out _).mono ?_; rintro e w' ⟨rfl, rfl⟩) | (go_at_call 79; refine (HG.out _).mono ?_; rintro e w1 ⟨rfl, b1⟩; have hz := two_size b1; have C1 := Lib.hid b1; clear b1) | (go_at_call 81; refine (HM.out _).mono ?_; rintro e w2 ⟨rfl, b2⟩; have b3 := C1.out.trans (b2.mono C1.out.size); have X2 := Lib.hid (six_new b3); have B2 := Lib.hid (two_below b3); have hz2 := two_size b3; obtain ⟨hc, hf⟩ := bcell b3; obtain ⟨ha, hg⟩ := acell b3; clear b2 b3))
  obtain ⟨⟨r0, r1, r2, r3⟩, q0, q1⟩ := read42 (X2.out.below (one_new2 _ (.cells #[.int .i64 K, .int .i64 A, .string T, .int .i64 V] 32)) hz2) (.int .i64 K) (.int .i64 A) (.string T) (.int .i64 V) (.int .i64 0) (.int .i64 0) _ rfl
  exact bodyPost_ret (v := .tuple #[.agg #[.int .i64 K, .int .i64 A, .string T, .int .i64 V], .int .i64 (n + t.size), .agg #[.int .i64 0, .int .i64 0]]) (by simp [results, Tryd.results42, go_sem, r0, r1, r2, r3, q0, q1]) rfl ⟨ret_tk HX.out HA.out (by simp) rfl, set2 (set4 (B2.out.alloc B2.out.size _) _ (Nat.le_refl _) _ _ _ _) _ (Nat.le_succ _) _ _⟩
set_option maxHeartbeats 1600000 in
theorem tkAt_signbad (s : ByteArray) (i : Nat) (n : Nat) (w : World) (hs : s.size ≤ 1048576) (h : i ≤ s.size) (hn : Hid (i + skL false (s.data.toList.drop i) = n)) (he : n < s.size) (t : ByteArray) (hr0 : Hid (sgOf (s.data.toList.drop n) = t)) (ht : 0 < t.size) (hts : t.size ≤ s.size) (K A V F : Int) (T : ByteArray)
    (HM : Hid (∀ w, Calls Tryd.prog 81 #[.string t, .int .i64 n] w (SaysV w (.tuple #[.agg #[.int .i64 K, .int .i64 A, .string T, .int .i64 V], .int .i64 F])))) (d : (F != 0) = true) (HX : Hid (tkA s i = ⟨0, 0, ⟨#[]⟩, 0, n, F, n⟩)) :
    Calls Tryd.prog 42 #[.string s, .int .i64 i] w (SaysV w (.tuple #[(tkA s i).tv, .int .i64 ((tkA s i).e : Int), (tkA s i).fv])) := by
  have HS := Lib.hid (fun w => tkSkip_any s i w hs h)
  rw [hn.out] at HS
  have HG := Lib.hid (fun w => tkSign_any s n w hs (by omega))
  rw [hr0.out] at HG
  obtain ⟨f1, f2⟩ := full_tests ht
  have dn : ((n : Int) == (s.size : Int)) = false := by simp; omega
  clear ht
  go_enter Tryd.func42, Tryd.ntmps42
  go_wp2_with (first | (go_at_call 44; refine (HS.out _).mono ?_; rintro e w' ⟨rfl, rfl⟩) | (go_at_call 79; refine (HG.out _).mono ?_; rintro e w1 ⟨rfl, b1⟩; have hz := two_size b1; have C1 := Lib.hid b1; clear b1) | (go_at_call 81; refine (HM.out _).mono ?_; rintro e w2 ⟨rfl, b2⟩; have b3 := C1.out.trans (b2.mono C1.out.size); have X2 := Lib.hid (six_new b3); have B2 := Lib.hid (two_below b3); have hz2 := two_size b3; obtain ⟨hc, hf⟩ := bcell b3; obtain ⟨ha, hg⟩ := acell b3; clear b2 b3))
  obtain ⟨⟨r0, r1, r2, r3⟩, q0, q1⟩ := read42 (X2.out.below (one_new2 _ (.cells #[.int .i64 K, .int .i64 A, .string T, .int .i64 V] 32)) hz2) (.int .i64 0) (.int .i64 0) (.string ⟨#[]⟩) (.int .i64 0) (.int .i64 F) (.int .i64 n) _ rfl
  exact bodyPost_ret (v := .tuple #[.agg #[.int .i64 0, .int .i64 0, .string ⟨#[]⟩, .int .i64 0], .int .i64 n, .agg #[.int .i64 F, .int .i64 n]]) (by simp [results, Tryd.results42, go_sem, r0, r1, r2, r3, q0, q1]) rfl ⟨ret_tk HX.out rfl rfl rfl, set2 (set4 (B2.out.alloc B2.out.size _) _ (Nat.le_refl _) _ _ _ _) _ (Nat.le_succ _) _ _⟩
set_option maxHeartbeats 1600000 in
theorem tkAt_rungood (s : ByteArray) (i : Nat) (n : Nat) (w : World) (hs : s.size ≤ 1048576) (h : i ≤ s.size) (hn : Hid (i + skL false (s.data.toList.drop i) = n)) (he : n < s.size) (r : ByteArray) (hr0 : Hid (sgOf (s.data.toList.drop n) = r)) (hrz : r.size = 0) (t : ByteArray) (hrt : Hid (s.extract n (n + runN (s.data.toList.drop n)) = t)) (ht : 0 < t.size) (hts : t.size ≤ s.size) (K A V F : Int) (T : ByteArray)
    (HM : Hid (∀ w, Calls Tryd.prog 81 #[.string t, .int .i64 n] w (SaysV w (.tuple #[.agg #[.int .i64 K, .int .i64 A, .string T, .int .i64 V], .int .i64 F])))) (d : (F != 0) = false) (HX : Hid (tkA s i = ⟨K, n, T, V, n + t.size, 0, 0⟩)) (HA : Hid (A = n)) :
    Calls Tryd.prog 42 #[.string s, .int .i64 i] w (SaysV w (.tuple #[(tkA s i).tv, .int .i64 ((tkA s i).e : Int), (tkA s i).fv])) := by
  have HS := Lib.hid (fun w => tkSkip_any s i w hs h)
  rw [hn.out] at HS
  have HG := Lib.hid (fun w => tkSign_any s n w hs (by omega))
  rw [hr0.out] at HG
  have HR := Lib.hid (fun w => tkRun_any s n w hs (by omega))
  rw [hrt.out] at HR
  obtain ⟨f3, f4⟩ := empty_tests hrz
  obtain ⟨f1, f2⟩ := full_tests ht
  have dn : ((n : Int) == (s.size : Int)) = false := by simp; omega
  clear ht hrz
  go_enter Tryd.func42, Tryd.ntmps42
  go_wp2_with (first | (go_at_call 44; refine (HS.out _).mono ?_; rintro e w' ⟨rfl, rfl⟩) | (go_at_call 79; refine (HG.out _).mono ?_; rintro e w1 ⟨rfl, b1⟩; have hz := two_size b1; have C1 := Lib.hid b1; clear b1) | (go_at_call 80; refine (HR.out _).mono ?_; rintro e w' ⟨rfl, rfl⟩) | (go_at_call 81; refine (HM.out _).mono ?_; rintro e w2 ⟨rfl, b2⟩; have b3 := C1.out.trans (b2.mono C1.out.size); have X2 := Lib.hid (six_new b3); have B2 := Lib.hid (two_below b3); have hz2 := two_size b3; obtain ⟨hc, hf⟩ := bcell b3; obtain ⟨ha, hg⟩ := acell b3; clear b2 b3))
  obtain ⟨⟨r0, r1, r2, r3⟩, q0, q1⟩ := read42 (X2.out.below (one_new2 _ (.cells #[.int .i64 K, .int .i64 A, .string T, .int .i64 V] 32)) hz2) (.int .i64 K) (.int .i64 A) (.string T) (.int .i64 V) (.int .i64 0) (.int .i64 0) _ rfl
  exact bodyPost_ret (v := .tuple #[.agg #[.int .i64 K, .int .i64 A, .string T, .int .i64 V], .int .i64 (n + t.size), .agg #[.int .i64 0, .int .i64 0]]) (by simp [results, Tryd.results42, go_sem, r0, r1, r2, r3, q0, q1]) rfl ⟨ret_tk HX.out HA.out (by simp) rfl, set2 (set4 (B2.out.alloc B2.out.size _) _ (Nat.le_refl _) _ _ _ _) _ (Nat.le_succ _) _ _⟩
set_option maxHeartbeats 1600000 in
theorem tkAt_runbad (s : ByteArray) (i : Nat) (n : Nat) (w : World) (hs : s.size ≤ 1048576) (h : i ≤ s.size) (hn : Hid (i + skL false (s.data.toList.drop i) = n)) (he : n < s.size) (r : ByteArray) (hr0 : Hid (sgOf (s.data.toList.drop n) = r)) (hrz : r.size = 0) (t : ByteArray) (hrt : Hid (s.extract n (n + runN (s.data.toList.drop n)) = t)) (ht : 0 < t.size) (hts : t.size ≤ s.size) (K A V F : Int) (T : ByteArray)
    (HM : Hid (∀ w, Calls Tryd.prog 81 #[.string t, .int .i64 n] w (SaysV w (.tuple #[.agg #[.int .i64 K, .int .i64 A, .string T, .int .i64 V], .int .i64 F])))) (d : (F != 0) = true) (HX : Hid (tkA s i = ⟨0, 0, ⟨#[]⟩, 0, n, F, n⟩)) :
    Calls Tryd.prog 42 #[.string s, .int .i64 i] w (SaysV w (.tuple #[(tkA s i).tv, .int .i64 ((tkA s i).e : Int), (tkA s i).fv])) := by
  have HS := Lib.hid (fun w => tkSkip_any s i w hs h)
  rw [hn.out] at HS
  have HG := Lib.hid (fun w => tkSign_any s n w hs (by omega))
  rw [hr0.out] at HG
  have HR := Lib.hid (fun w => tkRun_any s n w hs (by omega))
  rw [hrt.out] at HR
  obtain ⟨f3, f4⟩ := empty_tests hrz
  obtain ⟨f1, f2⟩ := full_tests ht
  have dn : ((n : Int) == (s.size : Int)) = false := by simp; omega
  clear ht hrz
  go_enter Tryd.func42, Tryd.ntmps42
  go_wp2_with (first | (go_at_call 44; refine (HS.out _).mono ?_; rintro e w' ⟨rfl, rfl⟩) | (go_at_call 79; refine (HG.out _).mono ?_; rintro e w1 ⟨rfl, b1⟩; have hz := two_size b1; have C1 := Lib.hid b1; clear b1) | (go_at_call 80; refine (HR.out _).mono ?_; rintro e w' ⟨rfl, rfl⟩) | (go_at_call 81; refine (HM.out _).mono ?_; rintro e w2 ⟨rfl, b2⟩; have b3 := C1.out.trans (b2.mono C1.out.size); have X2 := Lib.hid (six_new b3); have B2 := Lib.hid (two_below b3); have hz2 := two_size b3; obtain ⟨hc, hf⟩ := bcell b3; obtain ⟨ha, hg⟩ := acell b3; clear b2 b3))
  obtain ⟨⟨r0, r1, r2, r3⟩, q0, q1⟩ := read42 (X2.out.below (one_new2 _ (.cells #[.int .i64 K, .int .i64 A, .string T, .int .i64 V] 32)) hz2) (.int .i64 0) (.int .i64 0) (.string ⟨#[]⟩) (.int .i64 0) (.int .i64 F) (.int .i64 n) _ rfl
  exact bodyPost_ret (v := .tuple #[.agg #[.int .i64 0, .int .i64 0, .string ⟨#[]⟩, .int .i64 0], .int .i64 n, .agg #[.int .i64 F, .int .i64 n]]) (by simp [results, Tryd.results42, go_sem, r0, r1, r2, r3, q0, q1]) rfl ⟨ret_tk HX.out rfl rfl rfl, set2 (set4 (B2.out.alloc B2.out.size _) _ (Nat.le_refl _) _ _ _ _) _ (Nat.le_succ _) _ _⟩
theorem tkFa_ne {t : ByteArray} (h : tkFa t ≠ 0) : (tkFa t != 0) = true := by simpa using h
theorem tkAt_any (s : ByteArray) (i : Nat) (w : World) (hs : s.size ≤ 1048576) (h : i ≤ s.size) :
    Calls Tryd.prog 42 #[.string s, .int .i64 i] w (SaysV w (.tuple #[(tkA s i).tv, .int .i64 ((tkA s i).e : Int), (tkA s i).fv])) := by
  obtain ⟨n, hn⟩ : ∃ n, i + skL false (s.data.toList.drop i) = n := ⟨_, rfl⟩
  have hns : n ≤ s.size := by have := skL_le false (s.data.toList.drop i); rw [List.length_drop, ← size_list] at this; omega
  rcases Nat.lt_or_eq_of_le hns with hlt | heq
  · obtain ⟨t, ht⟩ : ∃ t, ftL (s.data.toList.drop n) = t := ⟨_, rfl⟩
    have htl : t.size ≤ s.size := by have := ftL_len (s.data.toList.drop n); rw [ht, List.length_drop, ← size_list] at this; omega
    have hne : n ≠ s.size := by omega
    have HM : 0 < t.size → ∀ w, Calls Tryd.prog 81 #[.string t, .int .i64 n] w (SaysV w (.tuple #[tokR t n, .int .i64 (tkFa t)])) := fun q w => tkMake_any t n w q (by omega)
    by_cases hsg : sgOf (s.data.toList.drop n) = ⟨#[]⟩
    · have hrt : s.extract n (n + runN (s.data.toList.drop n)) = t := by
        rw [← ht, Lib.extract_eq, Nat.add_sub_cancel_left]; unfold ftL; rw [if_pos hsg]
      rcases Nat.eq_zero_or_pos t.size with hz | hz
      · have hf := tk_nil t hz
        have hx := tkA_bad hn hne ht (by rw [hf]; decide)
        rw [hf] at hx
        exact tkAt_byte s i n w hs h hn hlt ⟨#[]⟩ t hsg rfl hrt hz hx
      · by_cases hf : tkFa t = 0
        · have hx := tkA_tok hn hne ht hf
          refine tkAt_rungood s i n w hs h hn hlt ⟨#[]⟩ hsg rfl t hrt hz htl (tkKi t) n (tkVa t) (tkFa t) t ?_ (by rw [hf]; rfl) hx (Lib.hid rfl)
          refine Lib.hid (fun w => ?_)
          have := HM hz w
          rw [(tokR_yes (n : Int) hf rfl rfl).1] at this
          exact this
        · have hx := tkA_bad hn hne ht hf
          refine tkAt_runbad s i n w hs h hn hlt ⟨#[]⟩ hsg rfl t hrt hz htl 0 0 0 (tkFa t) ⟨#[]⟩ ?_ (tkFa_ne hf) hx
          refine Lib.hid (fun w => ?_)
          have := HM hz w
          rw [(tokR_no (n : Int) rfl hf).1] at this
          exact this
    · have hrt : sgOf (s.data.toList.drop n) = t := by rw [← ht]; unfold ftL; rw [if_neg hsg]
      have hz : 0 < t.size := by
        rcases Nat.eq_zero_or_pos t.size with q | q
        · exfalso
          apply hsg
          rw [hrt]
          apply ByteArray.ext
          exact Array.toList_inj.1 (List.eq_nil_of_length_eq_zero (by rw [← size_list]; exact q))
        · exact q
      by_cases hf : tkFa t = 0
      · have hx := tkA_tok hn hne ht hf
        refine tkAt_signgood s i n w hs h hn hlt t hrt hz htl (tkKi t) n (tkVa t) (tkFa t) t ?_ (by rw [hf]; rfl) hx (Lib.hid rfl)
        refine Lib.hid (fun w => ?_)
        have := HM hz w
        rw [(tokR_yes (n : Int) hf rfl rfl).1] at this
        exact this
      · have hx := tkA_bad hn hne ht hf
        refine tkAt_signbad s i n w hs h hn hlt t hrt hz htl 0 0 0 (tkFa t) ⟨#[]⟩ ?_ (tkFa_ne hf) hx
        refine Lib.hid (fun w => ?_)
        have := HM hz w
        rw [(tokR_no (n : Int) rfl hf).1] at this
        exact this
  · exact tkAt_end s i n w hs h hn heq
end Go.Proofs.YtdmcgjohpnojkaaDoor
