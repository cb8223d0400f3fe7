import Derived.Test.YtmmofchfafnkcaaGreatDoorPke
import Derived.Test.YtmmofchfafnkcaaGreatDoorPkf
import Derived.RegionTactic
import Derived.ChangeAlike
import Derived.IntWalk
import Derived.Test.YtmmofchfafnkcaaGreatDoorPka
import Derived.Laws.BytesArg
import Derived.Deep.RegionWith
/- Space skipped at an index: contracts of SkipSpace, program and model. -/
namespace Go.Proofs.YtmmofchfafnkcaaGreatDoor
set_option maxRecDepth 100000
open Go.RowKit
set_option linter.unusedVariables false

/-- a number and whether there is one, memory made -/
def SaysNB (w : World) (n : Int) (b : Bool) (e : Ending) (w' : World) : Prop := e = .returned (.tuple #[.int .i64 n, .bool b]) ∧ Below w.heap.size w w'
/-- the index is one of a text -/
def ixB (s : ByteArray) (a : Int) : Bool := decide ((s.size : Int) ≤ 4000) && (decide (0 ≤ a) && decide (a ≤ s.size))
/-- what SkipSpace answers -/
def skR (s : ByteArray) (a : Int) : Int := if ixB s a then ((a.toNat + skL false (s.data.toList.drop a.toNat) : Nat) : Int) else 0
inductive IxWay (s : ByteArray) (a : Int) : Prop
  | long (h : (4000 : Int) < s.size) (e : ixB s a = false) (r : skR s a = 0)
  | low (h : (s.size : Int) ≤ 4000) (l : a < 0) (e : ixB s a = false) (r : skR s a = 0)
  | high (h : (s.size : Int) ≤ 4000) (z : 0 ≤ a) (l : (s.size : Int) < a) (e : ixB s a = false) (r : skR s a = 0)
  | good (h : (s.size : Int) ≤ 4000) (k : Nat) (hk : a = k) (l : k ≤ s.size) (e : ixB s a = true) (r : skR s a = ((k + skL false (s.data.toList.drop k) : Nat) : Int))
theorem ix_way (s : ByteArray) (a : Int) : IxWay s a := by
  rcases Int.lt_or_le 4000 (s.size : Int) with h | h
  · have e : ixB s a = false := by unfold ixB; rw [show decide ((s.size : Int) ≤ 4000) = false by simp; omega]; rfl
    exact .long h e (by unfold skR; rw [e]; rfl)
  · rcases Int.lt_or_le a 0 with l | l
    · have e : ixB s a = false := by unfold ixB; rw [show decide (0 ≤ a) = false by simp; omega]; simp
      exact .low h l e (by unfold skR; rw [e]; rfl)
    · rcases Int.lt_or_le (s.size : Int) a with l2 | l2
      · have e : ixB s a = false := by unfold ixB; rw [show decide (a ≤ s.size) = false by simp; omega]; simp
        exact .high h l l2 e (by unfold skR; rw [e]; rfl)
      · obtain ⟨k, rfl⟩ : ∃ k : Nat, a = k := ⟨a.toNat, by omega⟩
        have e : ixB s (k : Int) = true := by unfold ixB; simp; omega
        exact .good h k rfl (by omega) e (by unfold skR; rw [e]; simp)
theorem implSkipSpace_any (s : ByteArray) (a : Int) (w : World) (hs : s.size ≤ 1048576) :
    Calls Tryz.prog 155 #[.string s, .int .i64 a] w (SaysNB w (skR s a) (ixB s a)) := by
  rcases ix_way s a with ⟨h, e, r⟩ | ⟨h, l, e, r⟩ | ⟨h, z, l, e, r⟩ | ⟨h, k, hk, l, e, r⟩
  · rw [e, r]
    clear e r
    go_enter Tryz.func155, Tryz.ntmps155
    go_wp2_with (go_at_call 66; refine (isText_false _ _ h).mono ?_; rintro e w' ⟨rfl, rfl⟩)
    go_ret2
    exact ⟨rfl, Below.refl _ _⟩
  · rw [e, r]
    clear e r
    have d1 := is_lt l
    go_enter Tryz.func155, Tryz.ntmps155
    go_wp2_with (go_at_call 66; refine (isText_true _ _ h).mono ?_; rintro e w' ⟨rfl, rfl⟩)
    go_ret2
    exact ⟨rfl, Below.refl _ _⟩
  · rw [e, r]
    clear e r
    have d1 := not_lt z
    have d2 := is_lt l
    go_enter Tryz.func155, Tryz.ntmps155
    go_wp2_with (go_at_call 66; refine (isText_true _ _ h).mono ?_; rintro e w' ⟨rfl, rfl⟩)
    go_ret2
    exact ⟨rfl, Below.refl _ _⟩
  · subst hk
    rw [e, r]
    clear e r
    obtain ⟨u, hu, hus, hsl⟩ := rest_at s k l
    have HS := Lib.hid (fun w => spaceSize_any u w (by omega))
    have hle := skL_le false u.data.toList
    rw [← size_list] at hle
    rw [← hu]
    obtain ⟨n, hn⟩ : ∃ n : Nat, skL false u.data.toList = n := ⟨_, rfl⟩
    rw [hn] at HS hle ⊢
    have h1 : (k : Int) + n ≤ 4000 := by omega
    clear hn hu hus
    have d1 := not_lt (show (0 : Int) ≤ k by omega)
    have d2 := not_lt (show (k : Int) ≤ s.size by omega)
    go_enter Tryz.func155, Tryz.ntmps155
    go_wp2_with (first | (go_at_call 66; refine (isText_true _ _ h).mono ?_; rintro e w' ⟨rfl, rfl⟩) | (go_at_call 210; refine (HS.out _).mono ?_; rintro e w1 ⟨rfl, b1⟩; have B1 := Lib.hid b1; clear b1))
    go_ret2
    exact ⟨rfl, B1.out⟩
end Go.Proofs.YtmmofchfafnkcaaGreatDoor

/- Tokens at an index: contracts of tkAt and of TokenAt, program and model. -/
namespace Go.Proofs.YtmmofchfafnkcaaGreatDoor
set_option maxRecDepth 100000
open Go.RowKit
set_option linter.unusedVariables false

/-- what stands at an index: the token (kind 0: none), the index behind it, the fault (kind 0: none) -/
structure TkA where
  k : Int
  a : Nat
  t : ByteArray
  v : Int
  e : Nat
  f : Int
  g : Nat
def tkA (s : ByteArray) (i : Nat) : TkA :=
  let n := i + skL false (s.data.toList.drop i)
  if n = s.size then ⟨0, 0, ⟨#[]⟩, 0, n, 0, 0⟩
  else
    let t := ftL (s.data.toList.drop n)
    if tkFa t = 0 then ⟨tkKi t, n, t, tkVa t, n + t.size, 0, 0⟩ else ⟨0, 0, ⟨#[]⟩, 0, n, tkFa t, n⟩
theorem tkA_end {s : ByteArray} {i n : Nat} (hn : i + skL false (s.data.toList.drop i) = n) (h : n = s.size) : tkA s i = ⟨0, 0, ⟨#[]⟩, 0, n, 0, 0⟩ := by
  unfold tkA; simp only [hn]; rw [if_pos h]
theorem tkA_tok {s : ByteArray} {i n : Nat} {t : ByteArray} (hn : i + skL false (s.data.toList.drop i) = n) (h : n ≠ s.size) (ht : ftL (s.data.toList.drop n) = t) (hf : tkFa t = 0) : tkA s i = ⟨tkKi t, n, t, tkVa t, n + t.size, 0, 0⟩ := by
  unfold tkA; simp only [hn]; rw [if_neg h, ht, if_pos hf]
theorem tkA_bad {s : ByteArray} {i n : Nat} {t : ByteArray} (hn : i + skL false (s.data.toList.drop i) = n) (h : n ≠ s.size) (ht : ftL (s.data.toList.drop n) = t) (hf : tkFa t ≠ 0) : tkA s i = ⟨0, 0, ⟨#[]⟩, 0, n, tkFa t, n⟩ := by
  unfold tkA; simp only [hn]; rw [if_neg h, ht, if_neg hf]
/-- a struct that holds a token; one that holds a fault -/
def TkA.tv (x : TkA) : Value := tokV x.k x.a x.t x.v
def TkA.fv (x : TkA) : Value := fauV x.f x.g
theorem pfxOf_in (l : List UInt8) : ∀ L, pfxOf l L = ⟨#[]⟩ ∨ pfxOf l L ∈ L
  | [] => .inl rfl
  | x :: r => by
    unfold pfxOf
    split
    · exact .inr (by simp)
    · rcases pfxOf_in l r with h | h
      · exact .inl h
      · exact .inr (by simp [h])
theorem pfxOf_pfx (l : List UInt8) : ∀ L, Lib.hasPrefix l (pfxOf l L).data.toList = true
  | [] => by unfold pfxOf Lib.hasPrefix; simp
  | x :: r => by
    unfold pfxOf
    split
    · assumption
    · exact pfxOf_pfx l r
theorem ftL_len (l : List UInt8) : (ftL l).size ≤ l.length := by
  unfold ftL
  split
  · rw [size_list]; simp; omega
  · have := pfxOf_pfx l sgA
    unfold Lib.hasPrefix at this
    rw [size_list]
    exact (List.isPrefixOf_iff_prefix.1 this).length_le
theorem acell {W w1 : World} (hb : Below W.heap.size W w1) : (∀ x b o, b < W.heap.size → (w1.alloc x).cell? ⟨b, o, none⟩ = W.cell? ⟨b, o, none⟩) ∧ (∀ x b o, b < W.heap.size → (w1.alloc x).frozen? ⟨b, o, none⟩ = W.frozen? ⟨b, o, none⟩) :=
  ⟨fun x b o h => (hb.alloc hb.size x).cell (p := ⟨b, o, none⟩) h, fun x b o h => (hb.alloc hb.size x).frozen (p := ⟨b, o, none⟩) h⟩
theorem Six.below {w w1 w2 : World} (h : Six w w1) (b : Below w1.heap.size w1 w2) (hz : w.heap.size + 1 < w1.heap.size) : Six w w2 := by
  have hc := (bcell b).1
  obtain ⟨⟨h0, h1, h2, h3⟩, g0, g1⟩ := h
  refine ⟨⟨?_, ?_, ?_, ?_⟩, ?_, ?_⟩ <;> rw [hc _ _ (by omega)] <;> assumption
theorem ret_tk {x : TkA} {k : Int} {a : Nat} {t : ByteArray} {v : Int} {e : Nat} {f : Int} {g : Nat} {ai ei gi : Int} (h : x = ⟨k, a, t, v, e, f, g⟩) (ha : ai = a) (he : ei = e) (hg : gi = g) :
    Ending.returned (.tuple #[.agg #[.int .i64 k, .int .i64 ai, .string t, .int .i64 v], .int .i64 ei, .agg #[.int .i64 f, .int .i64 gi]]) = .returned (.tuple #[x.tv, .int .i64 (x.e : Int), x.fv]) := by
  subst h ha he hg; rfl
theorem tkAt_end (s : ByteArray) (i : Nat) (n : Nat) (w : World) (hs : s.size ≤ 1048576) (h : i ≤ s.size) (hn : Hid (i + skL false (s.data.toList.drop i) = n)) (he : Hid (n = s.size)) :
    Calls Tryz.prog 148 #[.string s, .int .i64 i] w (SaysV w (.tuple #[(tkA s i).tv, .int .i64 ((tkA s i).e : Int), (tkA s i).fv])) := by
  have HX := Lib.hid (tkA_end hn.out he.out)
  have HS := Lib.hid (fun w => tkSkip_any s i w hs h)
  rw [hn.out, he.out] at HS
  go_enter Tryz.func148, Tryz.ntmps148
  go_wp2_with (go_at_call 205; refine (HS.out _).mono ?_; rintro e w' ⟨rfl, rfl⟩)
  exact bodyPost_ret (v := .tuple #[.agg #[.int .i64 0, .int .i64 0, .string ⟨#[]⟩, .int .i64 0], .int .i64 s.size, .agg #[.int .i64 0, .int .i64 0]]) (by simp [results, Tryz.results148, go_sem]) rfl ⟨ret_tk HX.out rfl (by rw [he.out]) rfl, two_new _ _ _⟩
set_option maxHeartbeats 1600000 in
theorem tkAt_byte (s : ByteArray) (i : Nat) (n : Nat) (w : World) (hs : s.size ≤ 1048576) (h : i ≤ s.size) (hn : Hid (i + skL false (s.data.toList.drop i) = n)) (he : n < s.size) (t r : ByteArray) (hsg : Hid (sgOf (s.data.toList.drop n) = t)) (ht : t.size = 0) (hr : Hid (s.extract n (n + runN (s.data.toList.drop n)) = r)) (hrz : r.size = 0) (HX : Hid (tkA s i = ⟨0, 0, ⟨#[]⟩, 0, n, 1, n⟩)) :
    Calls Tryz.prog 148 #[.string s, .int .i64 i] w (SaysV w (.tuple #[(tkA s i).tv, .int .i64 ((tkA s i).e : Int), (tkA s i).fv])) := by
  have HS := Lib.hid (fun w => tkSkip_any s i w hs h)
  rw [hn.out] at HS
  have HG := Lib.hid (fun w => tkSign_any s n w hs (by omega))
  rw [hsg.out] at HG
  have HR := Lib.hid (fun w => tkRun_any s n w hs (by omega))
  rw [hr.out] at HR
  obtain ⟨f1, f2⟩ := empty_tests ht
  obtain ⟨f3, f4⟩ := empty_tests hrz
  have dn : ((n : Int) == (s.size : Int)) = false := by simp; omega
  clear ht hrz
  go_enter Tryz.func148, Tryz.ntmps148
  go_wp2_with (first | (go_at_call 205; refine (HS.out _).mono ?_; rintro e w' ⟨rfl, rfl⟩) | (go_at_call 206; refine (HG.out _).mono ?_; rintro e w1 ⟨rfl, b1⟩; obtain ⟨hc, hf⟩ := bcell b1; have hz := two_size b1; have X1 := Lib.hid (six_new b1); have B1 := Lib.hid (two_below b1); clear b1) | (go_at_call 147; refine (HR.out _).mono ?_; rintro e w' ⟨rfl, rfl⟩))
  obtain ⟨⟨r0, r1, r2, r3⟩, q0, q1⟩ := read42 X1.out (.int .i64 0) (.int .i64 0) (.string ⟨#[]⟩) (.int .i64 0) (.int .i64 1) (.int .i64 n) _ rfl
  exact bodyPost_ret (v := .tuple #[.agg #[.int .i64 0, .int .i64 0, .string ⟨#[]⟩, .int .i64 0], .int .i64 n, .agg #[.int .i64 1, .int .i64 n]]) (by simp [results, Tryz.results148, go_sem, r0, r1, r2, r3, q0, q1]) rfl ⟨ret_tk HX.out rfl rfl rfl, set2 (set4 B1.out _ (Nat.le_refl _) _ _ _ _) _ (Nat.le_succ _) _ _⟩
set_option maxHeartbeats 1600000 in
theorem tkAt_signgood (s : ByteArray) (i : Nat) (n : Nat) (w : World) (hs : s.size ≤ 1048576) (h : i ≤ s.size) (hn : Hid (i + skL false (s.data.toList.drop i) = n)) (he : n < s.size) (t : ByteArray) (hr0 : Hid (sgOf (s.data.toList.drop n) = t)) (ht : 0 < t.size) (hts : t.size ≤ s.size) (K A V F : Int) (T : ByteArray)
    (HM : Hid (∀ w, Calls Tryz.prog 145 #[.string t, .int .i64 n] w (SaysV w (.tuple #[.agg #[.int .i64 K, .int .i64 A, .string T, .int .i64 V], .int .i64 F])))) (d : (F != 0) = false) (HX : Hid (tkA s i = ⟨K, n, T, V, n + t.size, 0, 0⟩)) (HA : Hid (A = n)) :
    Calls Tryz.prog 148 #[.string s, .int .i64 i] w (SaysV w (.tuple #[(tkA s i).tv, .int .i64 ((tkA s i).e : Int), (tkA s i).fv])) := by
  have HS := Lib.hid (fun w => tkSkip_any s i w hs h)
  rw [hn.out] at HS
  have HG := Lib.hid (fun w => tkSign_any s n w hs (by omega))
  rw [hr0.out] at HG
  obtain ⟨f1, f2⟩ := full_tests ht
  have dn : ((n : Int) == (s.size : Int)) = false := by simp; omega
  clear ht
  go_enter Tryz.func148, Tryz.ntmps148
  go_wp2_with (first | (go_at_call 205; refine (HS.out _).mono ?_; rintro e w' ⟨rfl, rfl⟩) | (go_at_call 206; refine (HG.out _).mono ?_; rintro e w1 ⟨rfl, b1⟩; have hz := two_size b1; have C1 := Lib.hid b1; clear b1) | (go_at_call 145; refine (HM.out _).mono ?_; rintro e w2 ⟨rfl, b2⟩; have b3 := C1.out.trans (b2.mono C1.out.size); have X2 := Lib.hid (six_new b3); have B2 := Lib.hid (two_below b3); have hz2 := two_size b3; obtain ⟨hc, hf⟩ := bcell b3; obtain ⟨ha, hg⟩ := acell b3; clear b2 b3))
  obtain ⟨⟨r0, r1, r2, r3⟩, q0, q1⟩ := read42 (X2.out.below (one_new2 _ (.cells #[.int .i64 K, .int .i64 A, .string T, .int .i64 V] 31)) hz2) (.int .i64 K) (.int .i64 A) (.string T) (.int .i64 V) (.int .i64 0) (.int .i64 0) _ rfl
  exact bodyPost_ret (v := .tuple #[.agg #[.int .i64 K, .int .i64 A, .string T, .int .i64 V], .int .i64 (n + t.size), .agg #[.int .i64 0, .int .i64 0]]) (by simp [results, Tryz.results148, go_sem, r0, r1, r2, r3, q0, q1]) rfl ⟨ret_tk HX.out HA.out (by simp) rfl, set2 (set4 (B2.out.alloc B2.out.size _) _ (Nat.le_refl _) _ _ _ _) _ (Nat.le_succ _) _ _⟩
set_option maxHeartbeats 1600000 in
theorem tkAt_signbad (s : ByteArray) (i : Nat) (n : Nat) (w : World) (hs : s.size ≤ 1048576) (h : i ≤ s.size) (hn : Hid (i + skL false (s.data.toList.drop i) = n)) (he : n < s.size) (t : ByteArray) (hr0 : Hid (sgOf (s.data.toList.drop n) = t)) (ht : 0 < t.size) (hts : t.size ≤ s.size) (K A V F : Int) (T : ByteArray)
    (HM : Hid (∀ w, Calls Tryz.prog 145 #[.string t, .int .i64 n] w (SaysV w (.tuple #[.agg #[.int .i64 K, .int .i64 A, .string T, .int .i64 V], .int .i64 F])))) (d : (F != 0) = true) (HX : Hid (tkA s i = ⟨0, 0, ⟨#[]⟩, 0, n, F, n⟩)) :
    Calls Tryz.prog 148 #[.string s, .int .i64 i] w (SaysV w (.tuple #[(tkA s i).tv, .int .i64 ((tkA s i).e : Int), (tkA s i).fv])) := by
  have HS := Lib.hid (fun w => tkSkip_any s i w hs h)
  rw [hn.out] at HS
  have HG := Lib.hid (fun w => tkSign_any s n w hs (by omega))
  rw [hr0.out] at HG
  obtain ⟨f1, f2⟩ := full_tests ht
  have dn : ((n : Int) == (s.size : Int)) = false := by simp; omega
  clear ht
  go_enter Tryz.func148, Tryz.ntmps148
  go_wp2_with (first | (go_at_call 205; refine (HS.out _).mono ?_; rintro e w' ⟨rfl, rfl⟩) | (go_at_call 206; refine (HG.out _).mono ?_; rintro e w1 ⟨rfl, b1⟩; have hz := two_size b1; have C1 := Lib.hid b1; clear b1) | (go_at_call 145; refine (HM.out _).mono ?_; rintro e w2 ⟨rfl, b2⟩; have b3 := C1.out.trans (b2.mono C1.out.size); have X2 := Lib.hid (six_new b3); have B2 := Lib.hid (two_below b3); have hz2 := two_size b3; obtain ⟨hc, hf⟩ := bcell b3; obtain ⟨ha, hg⟩ := acell b3; clear b2 b3))
  obtain ⟨⟨r0, r1, r2, r3⟩, q0, q1⟩ := read42 (X2.out.below (one_new2 _ (.cells #[.int .i64 K, .int .i64 A, .string T, .int .i64 V] 31)) hz2) (.int .i64 0) (.int .i64 0) (.string ⟨#[]⟩) (.int .i64 0) (.int .i64 F) (.int .i64 n) _ rfl
  exact bodyPost_ret (v := .tuple #[.agg #[.int .i64 0, .int .i64 0, .string ⟨#[]⟩, .int .i64 0], .int .i64 n, .agg #[.int .i64 F, .int .i64 n]]) (by simp [results, Tryz.results148, go_sem, r0, r1, r2, r3, q0, q1]) rfl ⟨ret_tk HX.out rfl rfl rfl, set2 (set4 (B2.out.alloc B2.out.size _) _ (Nat.le_refl _) _ _ _ _) _ (Nat.le_succ _) _ _⟩
set_option maxHeartbeats 1600000 in
theorem tkAt_rungood (s : ByteArray) (i : Nat) (n : Nat) (w : World) (hs : s.size ≤ 1048576) (h : i ≤ s.size) (hn : Hid (i + skL false (s.data.toList.drop i) = n)) (he : n < s.size) (r : ByteArray) (hr0 : Hid (sgOf (s.data.toList.drop n) = r)) (hrz : r.size = 0) (t : ByteArray) (hrt : Hid (s.extract n (n + runN (s.data.toList.drop n)) = t)) (ht : 0 < t.size) (hts : t.size ≤ s.size) (K A V F : Int) (T : ByteArray)
    (HM : Hid (∀ w, Calls Tryz.prog 145 #[.string t, .int .i64 n] w (SaysV w (.tuple #[.agg #[.int .i64 K, .int .i64 A, .string T, .int .i64 V], .int .i64 F])))) (d : (F != 0) = false) (HX : Hid (tkA s i = ⟨K, n, T, V, n + t.size, 0, 0⟩)) (HA : Hid (A = n)) :
    Calls Tryz.prog 148 #[.string s, .int .i64 i] w (SaysV w (.tuple #[(tkA s i).tv, .int .i64 ((tkA s i).e : Int), (tkA s i).fv])) := by
  have HS := Lib.hid (fun w => tkSkip_any s i w hs h)
  rw [hn.out] at HS
  have HG := Lib.hid (fun w => tkSign_any s n w hs (by omega))
  rw [hr0.out] at HG
  have HR := Lib.hid (fun w => tkRun_any s n w hs (by omega))
  rw [hrt.out] at HR
  obtain ⟨f3, f4⟩ := empty_tests hrz
  obtain ⟨f1, f2⟩ := full_tests ht
  have dn : ((n : Int) == (s.size : Int)) = false := by simp; omega
  clear ht hrz
  go_enter Tryz.func148, Tryz.ntmps148
  go_wp2_with (first | (go_at_call 205; refine (HS.out _).mono ?_; rintro e w' ⟨rfl, rfl⟩) | (go_at_call 206; refine (HG.out _).mono ?_; rintro e w1 ⟨rfl, b1⟩; have hz := two_size b1; have C1 := Lib.hid b1; clear b1) | (go_at_call 147; refine (HR.out _).mono ?_; rintro e w' ⟨rfl, rfl⟩) | (go_at_call 145; refine (HM.out _).mono ?_; rintro e w2 ⟨rfl, b2⟩; have b3 := C1.out.trans (b2.mono C1.out.size); have X2 := Lib.hid (six_new b3); have B2 := Lib.hid (two_below b3); have hz2 := two_size b3; obtain ⟨hc, hf⟩ := bcell b3; obtain ⟨ha, hg⟩ := acell b3; clear b2 b3))
  obtain ⟨⟨r0, r1, r2, r3⟩, q0, q1⟩ := read42 (X2.out.below (one_new2 _ (.cells #[.int .i64 K, .int .i64 A, .string T, .int .i64 V] 31)) hz2) (.int .i64 K) (.int .i64 A) (.string T) (.int .i64 V) (.int .i64 0) (.int .i64 0) _ rfl
  exact bodyPost_ret (v := .tuple #[.agg #[.int .i64 K, .int .i64 A, .string T, .int .i64 V], .int .i64 (n + t.size), .agg #[.int .i64 0, .int .i64 0]]) (by simp [results, Tryz.results148, go_sem, r0, r1, r2, r3, q0, q1]) rfl ⟨ret_tk HX.out HA.out (by simp) rfl, set2 (set4 (B2.out.alloc B2.out.size _) _ (Nat.le_refl _) _ _ _ _) _ (Nat.le_succ _) _ _⟩
set_option maxHeartbeats 1600000 in
theorem tkAt_runbad (s : ByteArray) (i : Nat) (n : Nat) (w : World) (hs : s.size ≤ 1048576) (h : i ≤ s.size) (hn : Hid (i + skL false (s.data.toList.drop i) = n)) (he : n < s.size) (r : ByteArray) (hr0 : Hid (sgOf (s.data.toList.drop n) = r)) (hrz : r.size = 0) (t : ByteArray) (hrt : Hid (s.extract n (n + runN (s.data.toList.drop n)) = t)) (ht : 0 < t.size) (hts : t.size ≤ s.size) (K A V F : Int) (T : ByteArray)
    (HM : Hid (∀ w, Calls Tryz.prog 145 #[.string t, .int .i64 n] w (SaysV w (.tuple #[.agg #[.int .i64 K, .int .i64 A, .string T, .int .i64 V], .int .i64 F])))) (d : (F != 0) = true) (HX : Hid (tkA s i = ⟨0, 0, ⟨#[]⟩, 0, n, F, n⟩)) :
    Calls Tryz.prog 148 #[.string s, .int .i64 i] w (SaysV w (.tuple #[(tkA s i).tv, .int .i64 ((tkA s i).e : Int), (tkA s i).fv])) := by
  have HS := Lib.hid (fun w => tkSkip_any s i w hs h)
  rw [hn.out] at HS
  have HG := Lib.hid (fun w => tkSign_any s n w hs (by omega))
  rw [hr0.out] at HG
  have HR := Lib.hid (fun w => tkRun_any s n w hs (by omega))
  rw [hrt.out] at HR
  obtain ⟨f3, f4⟩ := empty_tests hrz
  obtain ⟨f1, f2⟩ := full_tests ht
  have dn : ((n : Int) == (s.size : Int)) = false := by simp; omega
  clear ht hrz
  go_enter Tryz.func148, Tryz.ntmps148
  go_wp2_with (first | (go_at_call 205; refine (HS.out _).mono ?_; rintro e w' ⟨rfl, rfl⟩) | (go_at_call 206; refine (HG.out _).mono ?_; rintro e w1 ⟨rfl, b1⟩; have hz := two_size b1; have C1 := Lib.hid b1; clear b1) | (go_at_call 147; refine (HR.out _).mono ?_; rintro e w' ⟨rfl, rfl⟩) | (go_at_call 145; refine (HM.out _).mono ?_; rintro e w2 ⟨rfl, b2⟩; have b3 := C1.out.trans (b2.mono C1.out.size); have X2 := Lib.hid (six_new b3); have B2 := Lib.hid (two_below b3); have hz2 := two_size b3; obtain ⟨hc, hf⟩ := bcell b3; obtain ⟨ha, hg⟩ := acell b3; clear b2 b3))
  obtain ⟨⟨r0, r1, r2, r3⟩, q0, q1⟩ := read42 (X2.out.below (one_new2 _ (.cells #[.int .i64 K, .int .i64 A, .string T, .int .i64 V] 31)) hz2) (.int .i64 0) (.int .i64 0) (.string ⟨#[]⟩) (.int .i64 0) (.int .i64 F) (.int .i64 n) _ rfl
  exact bodyPost_ret (v := .tuple #[.agg #[.int .i64 0, .int .i64 0, .string ⟨#[]⟩, .int .i64 0], .int .i64 n, .agg #[.int .i64 F, .int .i64 n]]) (by simp [results, Tryz.results148, go_sem, r0, r1, r2, r3, q0, q1]) rfl ⟨ret_tk HX.out rfl rfl rfl, set2 (set4 (B2.out.alloc B2.out.size _) _ (Nat.le_refl _) _ _ _ _) _ (Nat.le_succ _) _ _⟩
theorem tkFa_ne {t : ByteArray} (h : tkFa t ≠ 0) : (tkFa t != 0) = true := by simpa using h
theorem tkAt_any (s : ByteArray) (i : Nat) (w : World) (hs : s.size ≤ 1048576) (h : i ≤ s.size) :
    Calls Tryz.prog 148 #[.string s, .int .i64 i] w (SaysV w (.tuple #[(tkA s i).tv, .int .i64 ((tkA s i).e : Int), (tkA s i).fv])) := by
  obtain ⟨n, hn⟩ : ∃ n, i + skL false (s.data.toList.drop i) = n := ⟨_, rfl⟩
  have hns : n ≤ s.size := by have := skL_le false (s.data.toList.drop i); rw [List.length_drop, ← size_list] at this; omega
  rcases Nat.lt_or_eq_of_le hns with hlt | heq
  · obtain ⟨t, ht⟩ : ∃ t, ftL (s.data.toList.drop n) = t := ⟨_, rfl⟩
    have htl : t.size ≤ s.size := by have := ftL_len (s.data.toList.drop n); rw [ht, List.length_drop, ← size_list] at this; omega
    have hne : n ≠ s.size := by omega
    have HM : 0 < t.size → ∀ w, Calls Tryz.prog 145 #[.string t, .int .i64 n] w (SaysV w (.tuple #[tokR t n, .int .i64 (tkFa t)])) := fun q w => tkMake_any t n w q (by omega)
    by_cases hsg : sgOf (s.data.toList.drop n) = ⟨#[]⟩
    · have hrt : s.extract n (n + runN (s.data.toList.drop n)) = t := by
        rw [← ht, Lib.extract_eq, Nat.add_sub_cancel_left]; unfold ftL; rw [if_pos hsg]
      rcases Nat.eq_zero_or_pos t.size with hz | hz
      · have hf := tk_nil t hz
        have hx := tkA_bad hn hne ht (by rw [hf]; decide)
        rw [hf] at hx
        exact tkAt_byte s i n w hs h hn hlt ⟨#[]⟩ t hsg rfl hrt hz hx
      · by_cases hf : tkFa t = 0
        · have hx := tkA_tok hn hne ht hf
          refine tkAt_rungood s i n w hs h hn hlt ⟨#[]⟩ hsg rfl t hrt hz htl (tkKi t) n (tkVa t) (tkFa t) t ?_ (by rw [hf]; rfl) hx (Lib.hid rfl)
          refine Lib.hid (fun w => ?_)
          have := HM hz w
          rw [(tokR_yes (n : Int) hf rfl rfl).1] at this
          exact this
        · have hx := tkA_bad hn hne ht hf
          refine tkAt_runbad s i n w hs h hn hlt ⟨#[]⟩ hsg rfl t hrt hz htl 0 0 0 (tkFa t) ⟨#[]⟩ ?_ (tkFa_ne hf) hx
          refine Lib.hid (fun w => ?_)
          have := HM hz w
          rw [(tokR_no (n : Int) rfl hf).1] at this
          exact this
    · have hrt : sgOf (s.data.toList.drop n) = t := by rw [← ht]; unfold ftL; rw [if_neg hsg]
      have hz : 0 < t.size := by
        rcases Nat.eq_zero_or_pos t.size with q | q
        · exfalso
          apply hsg
          rw [hrt]
          apply ByteArray.ext
          exact Array.toList_inj.1 (List.eq_nil_of_length_eq_zero (by rw [← size_list]; exact q))
        · exact q
      by_cases hf : tkFa t = 0
      · have hx := tkA_tok hn hne ht hf
        refine tkAt_signgood s i n w hs h hn hlt t hrt hz htl (tkKi t) n (tkVa t) (tkFa t) t ?_ (by rw [hf]; rfl) hx (Lib.hid rfl)
        refine Lib.hid (fun w => ?_)
        have := HM hz w
        rw [(tokR_yes (n : Int) hf rfl rfl).1] at this
        exact this
      · have hx := tkA_bad hn hne ht hf
        refine tkAt_signbad s i n w hs h hn hlt t hrt hz htl 0 0 0 (tkFa t) ⟨#[]⟩ ?_ (tkFa_ne hf) hx
        refine Lib.hid (fun w => ?_)
        have := HM hz w
        rw [(tokR_no (n : Int) rfl hf).1] at this
        exact this
  · exact tkAt_end s i n w hs h hn heq
end Go.Proofs.YtmmofchfafnkcaaGreatDoor

/- TokenAt: contracts, program and model. -/
namespace Go.Proofs.YtmmofchfafnkcaaGreatDoor
set_option maxRecDepth 100000
open Go.RowKit

/-- what TokenAt answers -/
def taV (s : ByteArray) (a : Int) : Value := if ixB s a then .tuple #[(tkA s a.toNat).tv, .int .i64 ((tkA s a.toNat).e : Int), (tkA s a.toNat).fv, .bool true] else .tuple #[tokV 0 0 ⟨#[]⟩ 0, .int .i64 0, fauV 0 0, .bool false]
theorem taV_no {s : ByteArray} {a : Int} (h : ixB s a = false) : taV s a = .tuple #[tokV 0 0 ⟨#[]⟩ 0, .int .i64 0, fauV 0 0, .bool false] := by unfold taV; rw [if_neg (by rw [h]; simp)]
theorem taV_yes {s : ByteArray} {k : Nat} (h : ixB s (k : Int) = true) : taV s (k : Int) = .tuple #[(tkA s k).tv, .int .i64 ((tkA s k).e : Int), (tkA s k).fv, .bool true] := by unfold taV; rw [if_pos h]; rfl
/-- two tokens and two faults of the call's own: what the walk asks of the world -/
theorem reg_facts {w w1 wr : World} {z0 z1 z2 z3 y0 y1 k b t v f g : Value} {T T' T2 T2' : TypeId} (hb : Below ((w.alloc (.cells #[z0, z1, z2, z3] T)).alloc (.cells #[y0, y1] T')).heap.size ((w.alloc (.cells #[z0, z1, z2, z3] T)).alloc (.cells #[y0, y1] T')) w1)
    (hwr : (w1.alloc (.cells #[k, b, t, v] T2)).alloc (.cells #[f, g] T2') = wr) :
    ((wr.cell? ⟨w.heap.size, 0, none⟩ = some z0 ∧ wr.cell? ⟨w.heap.size, 1, none⟩ = some z1 ∧ wr.cell? ⟨w.heap.size, 2, none⟩ = some z2 ∧ wr.cell? ⟨w.heap.size, 3, none⟩ = some z3) ∧ (wr.cell? ⟨w.heap.size + 1, 0, none⟩ = some y0 ∧ wr.cell? ⟨w.heap.size + 1, 1, none⟩ = some y1)) ∧
    ((wr.frozen? ⟨w.heap.size, 0, none⟩ = false ∧ wr.frozen? ⟨w.heap.size, 1, none⟩ = false ∧ wr.frozen? ⟨w.heap.size, 2, none⟩ = false ∧ wr.frozen? ⟨w.heap.size, 3, none⟩ = false) ∧ (wr.frozen? ⟨w.heap.size + 1, 0, none⟩ = false ∧ wr.frozen? ⟨w.heap.size + 1, 1, none⟩ = false)) ∧
    ((wr.cell? ⟨w1.heap.size, 0, none⟩ = some k ∧ wr.cell? ⟨w1.heap.size, 1, none⟩ = some b ∧ wr.cell? ⟨w1.heap.size, 2, none⟩ = some t ∧ wr.cell? ⟨w1.heap.size, 3, none⟩ = some v) ∧ (wr.cell? ⟨w1.heap.size + 1, 0, none⟩ = some f ∧ wr.cell? ⟨w1.heap.size + 1, 1, none⟩ = some g)) ∧
    (Six w wr ∧ Below w.heap.size w wr ∧ w.heap.size + 1 < w1.heap.size) := by
  have hz := two_size hb
  have hB := two_below hb
  have hbr := (hb.alloc hb.size (.cells #[k, b, t, v] T2)).alloc (Nat.le_trans hb.size (by simp)) (.cells #[f, g] T2')
  rw [hwr] at hbr
  obtain ⟨hc, hf⟩ := bcell hbr
  have e : ((w.alloc (.cells #[z0, z1, z2, z3] T)).alloc (.cells #[y0, y1] T')).heap.size = w.heap.size + 2 := by simp
  have h6 := six_new hbr
  rw [e] at hc hf
  refine ⟨⟨⟨?_, ?_, ?_, ?_⟩, ?_, ?_⟩, ⟨⟨?_, ?_, ?_, ?_⟩, ?_, ?_⟩, ⟨⟨?_, ?_, ?_, ?_⟩, ?_, ?_⟩, h6, two_below hbr, hz⟩
  · rw [hc _ _ (by omega)]; simp [go_sem]
  · rw [hc _ _ (by omega)]; simp [go_sem]
  · rw [hc _ _ (by omega)]; simp [go_sem]
  · rw [hc _ _ (by omega)]; simp [go_sem]
  · rw [hc _ _ (by omega)]; simp [go_sem]
  · rw [hc _ _ (by omega)]; simp [go_sem]
  · rw [hf _ _ (by omega)]; simp [go_sem]
  · rw [hf _ _ (by omega)]; simp [go_sem]
  · rw [hf _ _ (by omega)]; simp [go_sem]
  · rw [hf _ _ (by omega)]; simp [go_sem]
  · rw [hf _ _ (by omega)]; simp [go_sem]
  · rw [hf _ _ (by omega)]; simp [go_sem]
  all_goals
    subst hwr
    simp [go_sem]
theorem implTokenAt_no (s : ByteArray) (a : Int) (w : World) (hs : s.size ≤ 1048576) (e : Hid (ixB s a = false)) (r : Hid (skR s a = 0)) :
    Calls Tryz.prog 85 #[.string s, .int .i64 a] w (SaysV w (.tuple #[tokV 0 0 ⟨#[]⟩ 0, .int .i64 0, fauV 0 0, .bool false])) := by
  have HI := Lib.hid (fun w => implSkipSpace_any s a w hs)
  rw [e.out, r.out] at HI
  go_enter Tryz.func85, Tryz.ntmps85
  go_wp2_with (go_at_call 155; refine (HI.out _).mono ?_; rintro e w1 ⟨rfl, b1⟩; have X1 := Lib.hid (six_new b1); have B1 := Lib.hid (two_below b1); have hz := two_size b1; obtain ⟨hc, hf⟩ := bcell b1; clear b1)
  obtain ⟨⟨r0, r1, r2, r3⟩, q0, q1⟩ := read42 X1.out (.int .i64 0) (.int .i64 0) (.string ⟨#[]⟩) (.int .i64 0) (.int .i64 0) (.int .i64 0) _ rfl
  exact bodyPost_ret (v := .tuple #[.agg #[.int .i64 0, .int .i64 0, .string ⟨#[]⟩, .int .i64 0], .int .i64 0, .agg #[.int .i64 0, .int .i64 0], .bool false]) (by simp [results, Tryz.results85, go_sem, r0, r1, r2, r3, q0, q1]) rfl ⟨rfl, set2 (set4 B1.out _ (Nat.le_refl _) _ _ _ _) _ (Nat.le_succ _) _ _⟩
theorem implTokenAt_end (s : ByteArray) (i : Nat) (n : Nat) (w : World) (hs : s.size ≤ 1048576) (e : Hid (ixB s (i : Int) = true)) (r : Hid (skR s (i : Int) = n)) (he : Hid (n = s.size)) (hx : Hid (tkA s i = ⟨0, 0, ⟨#[]⟩, 0, n, 0, 0⟩)) :
    Calls Tryz.prog 85 #[.string s, .int .i64 i] w (SaysV w (.tuple #[(tkA s i).tv, .int .i64 ((tkA s i).e : Int), (tkA s i).fv, .bool true])) := by
  have HI := Lib.hid (fun w => implSkipSpace_any s i w hs)
  rw [e.out, r.out, he.out] at HI
  rw [hx.out, he.out]
  go_enter Tryz.func85, Tryz.ntmps85
  go_wp2_with (go_at_call 155; refine (HI.out _).mono ?_; rintro e w1 ⟨rfl, b1⟩; have X1 := Lib.hid (six_new b1); have B1 := Lib.hid (two_below b1); have hz := two_size b1; obtain ⟨hc, hf⟩ := bcell b1; clear b1)
  obtain ⟨⟨r0, r1, r2, r3⟩, q0, q1⟩ := read42 X1.out (.int .i64 0) (.int .i64 0) (.string ⟨#[]⟩) (.int .i64 0) (.int .i64 0) (.int .i64 0) _ rfl
  exact bodyPost_ret (v := .tuple #[.agg #[.int .i64 0, .int .i64 0, .string ⟨#[]⟩, .int .i64 0], .int .i64 s.size, .agg #[.int .i64 0, .int .i64 0], .bool true]) (by simp [results, Tryz.results85, go_sem, r0, r1, r2, r3, q0, q1]) rfl ⟨rfl, set2 (set4 B1.out _ (Nat.le_refl _) _ _ _ _) _ (Nat.le_succ _) _ _⟩
set_option maxHeartbeats 1600000 in
theorem implTokenAt_go (s : ByteArray) (i : Nat) (n : Nat) (w : World) (hs : s.size ≤ 1048576) (hT : Hid (Tabs w)) (e : Hid (ixB s (i : Int) = true)) (r : Hid (skR s (i : Int) = n)) (he : n < s.size) (u : ByteArray) (hsl : ∀ w, (Instr.slice 9 (.string s) (some (.int .i64 (n : Int))) none none).run Tryz.prog w = .ok (.string u) w) (hu : u.size ≤ 1048576) (k b v f g : Int) (t T : ByteArray) (hft : Hid (ftS u = t)) (hTs : T.size ≤ s.size)
    (HM : Hid (∀ w, Hid (Tabs w) → Calls Tryz.prog 81 #[.string t, .int .i64 n] w (SaysV w (.tuple #[.agg #[.int .i64 k, .int .i64 b, .string T, .int .i64 v], .agg #[.int .i64 f, .int .i64 g]])))) :
    Calls Tryz.prog 85 #[.string s, .int .i64 i] w (SaysV w (.tuple #[.agg #[.int .i64 k, .int .i64 b, .string T, .int .i64 v], .int .i64 (n + T.size), .agg #[.int .i64 f, .int .i64 g], .bool true])) := by
  have HI := Lib.hid (fun w => implSkipSpace_any s i w hs)
  rw [e.out, r.out] at HI
  have HF := Lib.hid (fun w hS => firstText_any u w hu hS)
  rw [hft.out] at HF
  have dn : ((n : Int) == (s.size : Int)) = false := by simp; omega
  have q1 : IntKind.i64.wrap ((n : Int) + T.size) = (n : Int) + T.size := IntWalk.i64_in _ (by omega)
  go_enter Tryz.func85, Tryz.ntmps85
  go_wp2_with (go_at_call 155; refine (HI.out _).mono ?_; rintro e w1 ⟨rfl, b1⟩; have C1 := Lib.hid b1; have T1 := Lib.hid (hT.out.below (two_below b1)); have S1 := Lib.hid (hT.out.below (two_below b1)).2.2.2; clear b1)
  go_wp2_with (go_at_call 82; refine (HF.out _ S1).mono ?_; rintro e w2 ⟨rfl, b2⟩; have C2 := Lib.hid (C1.out.trans (b2.mono C1.out.size)); have T2 := Lib.hid (T1.out.below b2); clear b2)
  go_wp2_with (go_at_call 81; refine (HM.out _ T2).mono ?_; rintro e w3 ⟨rfl, b3⟩; have C3 := Lib.hid (C2.out.trans (b3.mono C2.out.size)); clear b3)
  obtain ⟨wr, hwr⟩ : ∃ wr, (w3.alloc (.cells #[.int .i64 k, .int .i64 b, .string T, .int .i64 v] 31)).alloc (.cells #[.int .i64 f, .int .i64 g] 46) = wr := ⟨_, rfl⟩
  rw [hwr]
  obtain ⟨⟨⟨c0, c1, c2, c3⟩, c4, c5⟩, ⟨⟨g0, g1, g2, g3⟩, g4, g5⟩, ⟨⟨l0, l1, l2, l3⟩, l4, l5⟩, x6, br, hz3⟩ := reg_facts C3.out hwr
  have X6 := Lib.hid x6
  have BR := Lib.hid br
  clear hwr x6 br
  go_region
  all_goals
    go_wp2
    obtain ⟨⟨r0, r1, r2, r3⟩, q0, q1⟩ := read42 X6.out (.int .i64 k) (.int .i64 b) (.string T) (.int .i64 v) (.int .i64 f) (.int .i64 g) _ rfl
    exact bodyPost_ret (v := .tuple #[.agg #[.int .i64 k, .int .i64 b, .string T, .int .i64 v], .int .i64 (n + T.size), .agg #[.int .i64 f, .int .i64 g], .bool true]) (by simp [results, Tryz.results85, go_sem, r0, r1, r2, r3, q0, q1]) rfl ⟨rfl, below_drewN (set2 (set4 BR.out _ (Nat.le_refl _) _ _ _ _) _ (Nat.le_succ _) _ _) 1⟩
theorem implTokenAt_any (s : ByteArray) (a : Int) (w : World) (hs : s.size ≤ 1048576) (hT : Hid (Tabs w)) :
    Calls Tryz.prog 85 #[.string s, .int .i64 a] w (SaysV w (taV s a)) := by
  rcases ix_way s a with ⟨h, e, r⟩ | ⟨h, l, e, r⟩ | ⟨h, z, l, e, r⟩ | ⟨h, i, hk, l, e, r⟩
  · rw [taV_no e]; exact implTokenAt_no s a w hs e r
  · rw [taV_no e]; exact implTokenAt_no s a w hs e r
  · rw [taV_no e]; exact implTokenAt_no s a w hs e r
  · subst hk
    rw [taV_yes e]
    obtain ⟨n, hn⟩ : ∃ n, i + skL false (s.data.toList.drop i) = n := ⟨_, rfl⟩
    have hns : n ≤ s.size := by have := skL_le false (s.data.toList.drop i); rw [List.length_drop, ← size_list] at this; omega
    rw [hn] at r
    rcases Nat.lt_or_eq_of_le hns with hlt | heq
    · obtain ⟨u, hu, hus, hsl⟩ := rest_at s n hns
      obtain ⟨t, ht⟩ : ∃ t, ftL (s.data.toList.drop n) = t := ⟨_, rfl⟩
      have htl : t.size ≤ s.size := by have := ftL_len (s.data.toList.drop n); rw [ht, List.length_drop, ← size_list] at this; omega
      have hft : ftS u = t := by rw [ftS_eq, hu, ht]
      have HM := fun w hT => tokenOf_any t (n : Int) w (by omega) hT
      by_cases hf : tkFa t = 0
      · have hx := tkA_tok hn (by omega) ht hf
        rw [(tokR_yes (n : Int) hf rfl rfl).1, (tokR_yes (n : Int) hf rfl rfl).2] at HM
        have := implTokenAt_go s i n w hs hT e r hlt u hsl (by omega) (tkKi t) n (tkVa t) 0 0 t t hft htl (Lib.hid HM)
        rw [hx]
        exact this
      · have hx := tkA_bad hn (by omega) ht hf
        rw [(tokR_no (n : Int) rfl hf).1, (tokR_no (n : Int) rfl hf).2] at HM
        have := implTokenAt_go s i n w hs hT e r hlt u hsl (by omega) 0 0 0 (tkFa t) n t ⟨#[]⟩ hft (by show 0 ≤ s.size; omega) (Lib.hid HM)
        rw [hx]
        exact this
    · exact implTokenAt_end s i n w hs e r heq (tkA_end hn heq)
end Go.Proofs.YtmmofchfafnkcaaGreatDoor

/- Slices of strings of the call's own: contracts of the comparing, marking and asking functions of the laws. Marking and asking a slice of strings of the call's own. -/
namespace Go.Proofs.YtmmofchfafnkcaaGreatDoor
set_option maxRecDepth 100000
open Go.RowKit

theorem infoStr : (Tryz.prog.info? 9).map (fun i => (i.zero, i.size, i.bytes)) = some (some (.string ⟨#[]⟩), 1, 16) := by kernel_rfl
/-- the cells of a list of strings -/
def sv (l : List ByteArray) : List Value := l.map Value.string
theorem sv_length (l : List ByteArray) : (sv l).length = l.length := by simp [sv]
theorem sv_get (l : List ByteArray) (i : Nat) (h : i < l.length) : (sv l)[i]? = some (.string (l.getD i ⟨#[]⟩)) := by simp [sv, h]
theorem sv_set (l : List ByteArray) (k : Nat) (c : ByteArray) : (sv l).set k (.string c) = sv (l.set k c) := by simp [sv, List.map_set]
def OwnS (w : World) (B g n cap : Nat) (l : List ByteArray) : Prop := w.ownsRow B 9 1 (.slice (some ⟨g, 0, none⟩) n cap) n (sv l)
theorem OwnS.len {w : World} {B g n cap : Nat} {l : List ByteArray} (h : OwnS w B g n cap l) : l.length = n := by
  have := h.1; rw [sv_length] at this; omega
theorem OwnS.lt {w : World} {B g n cap : Nat} {l : List ByteArray} (h : OwnS w B g n cap l) : B ≤ g ∧ g < w.heap.size := World.ownsRow.lt h g rfl
theorem OwnS.block {w w' : World} {B g n cap : Nat} {l : List ByteArray} (h : OwnS w B g n cap l) (hb : w'.heap[g]? = w.heap[g]?) : OwnS w' B g n cap l := by
  obtain ⟨h1, h2⟩ := h
  refine ⟨h1, ?_⟩
  rcases h2 with h2 | ⟨g', cap', cur, a, b, c, d⟩
  · exact .inl h2
  · cases a
    exact .inr ⟨g, cap, cur, rfl, b, by rw [hb]; exact c, d⟩
theorem OwnS.below {w w' : World} {B B' g n cap : Nat} {l : List ByteArray} (h : OwnS w B g n cap l) (hb : Below B' w w') (hg : g < B') : OwnS w' B g n cap l := h.block (hb.block g hg)
theorem OwnS.base {w : World} {B B' g n cap : Nat} {l : List ByteArray} (h : OwnS w B g n cap l) (hB : B' ≤ B) : OwnS w B' g n cap l := by
  obtain ⟨h1, h2⟩ := h
  refine ⟨h1, ?_⟩
  rcases h2 with h2 | ⟨g', cap', cur, a, b, c, d⟩
  · exact .inl h2
  · exact .inr ⟨g', cap', cur, a, Nat.le_trans hB b, c, d⟩
theorem OwnS.self {w : World} {B g n cap : Nat} {l : List ByteArray} (h : OwnS w B g n cap l) : OwnS w g g n cap l := by
  obtain ⟨h1, h2⟩ := h
  refine ⟨h1, ?_⟩
  rcases h2 with ⟨a, _⟩ | ⟨g1, cap', cur, a, b, c, d⟩
  · cases a
  · cases a
    exact .inr ⟨g, cap, cur, rfl, Nat.le_refl _, c, d⟩
theorem OwnS.cell {w : World} {B g n cap : Nat} {l : List ByteArray} (h : OwnS w B g n cap l) (k : Nat) (hk : k < n) : w.cell? ⟨g, k, none⟩ = some (.string (l.getD k ⟨#[]⟩)) := by
  have hl := h.len
  rw [World.ownsRow.cellAt h k (by omega), sv_get _ _ (by omega)]
theorem OwnS.store {w : World} {B g n cap : Nat} {l : List ByteArray} (h : OwnS w B g n cap l) (k : Nat) (c : ByteArray) : OwnS (w.setCell ⟨g, k, none⟩ (.string c)) B g n cap (l.set k c) := by
  have := (World.ownsRow.stored h k (.string c)).1
  rw [sv_set] at this
  exact this
/-- a slice of the call's own, or nil -/
def OwnZ (w : World) (B : Nat) (v : Value) (n : Nat) (l : List ByteArray) : Prop := w.ownsRow B 9 1 v n (sv l)
theorem OwnZ.snoc {w wr w1 : World} {B n : Nat} {v v' : Value} {l : List ByteArray} {c : ByteArray} {o : Obj} (h : OwnZ wr B v n l) (hB : B ≤ wr.heap.size) (hb : Below B w wr)
    (h' : w1.ownsRow B 9 1 v' (n + 1) (sv l ++ [.string c])) (hg : (wr.alloc o).grownBy w1 v.ownBlock) : OwnZ w1 B v' (n + 1) (l ++ [c]) ∧ Below B w w1 :=
  ⟨by unfold OwnZ; simpa [sv] using h', (hb.alloc hB o).grown hg (by simp; omega) (fun j hj => (World.ownsRow.lt h j hj).1)⟩
theorem OwnZ.some {w : World} {B n : Nat} {v : Value} {l : List ByteArray} (h : OwnZ w B v n l) (hn : 0 < n) : ∃ g cap, v = .slice (some ⟨g, 0, none⟩) n cap ∧ OwnS w B g n cap l := by
  rcases h.2 with ⟨_, h0⟩ | ⟨g, cap, cur, hv, _⟩
  · omega
  · subst hv
    exact ⟨g, cap, rfl, h⟩
theorem OwnZ.below {w w' : World} {B B' n : Nat} {v : Value} {l : List ByteArray} (h : OwnZ w B v n l) (hb : Below B' w w') (hB : w.heap.size ≤ B') : OwnZ w' B v n l := by
  obtain ⟨h1, h2⟩ := h
  refine ⟨h1, ?_⟩
  rcases h2 with h2 | ⟨g, cap, cur, a, b, c, d⟩
  · exact .inl h2
  · have hlt : g < w.heap.size := (World.ownsRow.lt (show w.ownsRow B 9 1 v n (sv l) from ⟨h1, .inr ⟨g, cap, cur, a, b, c, d⟩⟩) g (by rw [a]; rfl)).2
    exact .inr ⟨g, cap, cur, a, b, by rw [hb.block g (by omega)]; exact c, d⟩
/-- only block g was written, new ones may have come -/
def OnlyGrown (g : Nat) (w w' : World) : Prop := Below g w w' ∧ ∀ j, j ≠ g → j < w.heap.size → w'.heap[j]? = w.heap[j]?
theorem OnlyGrown.refl (g : Nat) (w : World) : OnlyGrown g w w := ⟨Below.refl _ _, fun _ _ _ => rfl⟩
theorem OnlyGrown.step {g : Nat} {w wr w1 : World} (h : OnlyGrown g w wr) (hg : g < wr.heap.size) (hb : Below wr.heap.size wr w1) (k : Nat) (v : Value) : OnlyGrown g w (w1.setCell ⟨g, k, none⟩ v) :=
  ⟨(h.1.trans (hb.mono (by omega))).setCell (Nat.le_refl _) v, fun j hj hl => by
    rw [Below.heap_setCell _ _ _ _ (by exact hj), hb.block j (Nat.lt_of_lt_of_le hl h.1.size)]
    exact h.2 j hj hl⟩
theorem OwnS.only {w w' : World} {B g g' n cap : Nat} {l : List ByteArray} (h : OwnS w B g n cap l) (hb : OnlyGrown g' w w') (hg : g ≠ g') : OwnS w' B g n cap l := h.block (hb.2 g hg h.lt.2)

theorem conv_one (w : World) (z : Int) : (convert 22 9 (.slice (some ⟨w.heap.size, 0, none⟩) 1 1)).run Tryz.prog (w.alloc (.cells #[.int .u8 z] 5)) = .ok (.string (strOfNums [z])) (w.alloc (.cells #[.int .u8 z] 5)) :=
  run_convert_bytes_arg (w.alloc (.cells #[.int .u8 z] 5)) 22 5 Tryz.underlying22 Tryz.underlying5 w.heap.size 0 1 1 [z] rfl
    (fun i hi => by
      obtain rfl : i = 0 := by omega
      rw [World.cell?_alloc_at _ _ _ _ rfl]
      rfl) 9 Tryz.underlying9
theorem str_two (a b : Int) : (strOfNums [a] ++ strOfNums [b] : ByteArray) = strOfNums [a, b] := by
  apply ByteArray.ext
  simp [strOfNums, ByteArray.data_append]
end Go.Proofs.YtmmofchfafnkcaaGreatDoor

namespace Go.Proofs.YtmmofchfafnkcaaGreatDoor
open Go.RowKit

def mkS (k : Int) : ByteArray := strOfNums [109, 48 + k]
def marksS (n : Nat) : List ByteArray := (List.range n).map fun i : Nat => mkS ((i : Int) + 1)
def markToS (l : List ByteArray) (k : Nat) : List ByteArray := marksS k ++ l.drop k
theorem marksS_length (n : Nat) : (marksS n).length = n := by simp [marksS]
theorem marksS_succ (n : Nat) : marksS (n + 1) = marksS n ++ [mkS ((n : Int) + 1)] := by simp [marksS, List.range_succ]
theorem markToS_zero (l : List ByteArray) : markToS l 0 = l := by simp [markToS, marksS]
theorem markToS_all (l : List ByteArray) : markToS l l.length = marksS l.length := by simp [markToS]
theorem markToS_set (l : List ByteArray) (k : Nat) (h : k < l.length) : (markToS l k).set k (mkS ((k : Int) + 1)) = markToS l (k + 1) := by
  unfold markToS
  rw [List.set_append_right _ _ (by rw [marksS_length]; exact Nat.le_refl _), marksS_length, Nat.sub_self, List.drop_eq_getElem_cons h, List.set_cons_zero, marksS_succ, List.append_assoc]
  rfl
theorem marksS_get (n k : Nat) (h : k < n) : (marksS n).getD k ⟨#[]⟩ = mkS ((k : Int) + 1) := by
  simp [marksS, List.getD_eq_getElem?_getD, h]
def MarkRelS (w : World) (g n cap : Nat) (l : List ByteArray) (m i : Value) (wr : World) : Prop :=
  ∃ k : Nat, k ≤ n ∧ i = .int .i64 k ∧ m = .int .i64 (k + 1) ∧ OwnS wr g g n cap (markToS l k) ∧ OnlyGrown g w wr
end Go.Proofs.YtmmofchfafnkcaaGreatDoor
