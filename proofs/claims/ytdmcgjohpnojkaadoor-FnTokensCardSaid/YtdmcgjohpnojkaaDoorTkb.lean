/- TokenAt: contracts, program and model. -/
import Derived.Test.YtdmcgjohpnojkaaDoorTka
import Derived.RegionTactic
import Derived.ChangeAlike
import Derived.IntWalk
namespace Go.Proofs.YtdmcgjohpnojkaaDoor
set_option maxRecDepth 100000
open Go.RowKit

/-- what TokenAt answers -/
def taV (s : ByteArray) (a : Int) : Value := if ixB s a then .tuple #[(tkA s a.toNat).tv, .int .i64 ((tkA s a.toNat).e : Int), (tkA s a.toNat).fv, .bool true] else .tuple #[tokV 0 0 ⟨#[]⟩ 0, .int .i64 0, fauV 0 0, .bool false]
theorem taV_no {s : ByteArray} {a : Int} (h : ixB s a = false) : taV s a = .tuple #[tokV 0 0 ⟨#[]⟩ 0, .int .i64 0, fauV 0 0, .bool false] := by unfold taV; rw [if_neg (by rw [h]; simp)]
theorem taV_yes {s : ByteArray} {k : Nat} (h : ixB s (k : Int) = true) : taV s (k : Int) = .tuple #[(tkA s k).tv, .int .i64 ((tkA s k).e : Int), (tkA s k).fv, .bool true] := by unfold taV; rw [if_pos h]; rfl
/-- two tokens and two faults of the call's own: what the walk asks of the world -/
theorem reg_facts {w w1 wr : World} {z0 z1 z2 z3 y0 y1 k b t v f g : Value} {T T' T2 T2' : TypeId} (hb : Below ((w.alloc (.cells #[z0, z1, z2, z3] T)).alloc (.cells #[y0, y1] T')).heap.size ((w.alloc (.cells #[z0, z1, z2, z3] T)).alloc (.cells #[y0, y1] T')) w1)
    (hwr : (w1.alloc (.cells #[k, b, t, v] T2)).alloc (.cells #[f, g] T2') = wr) :
    ((wr.cell? ⟨w.heap.size, 0, none⟩ = some z0 ∧ wr.cell? ⟨w.heap.size, 1, none⟩ = some z1 ∧ wr.cell? ⟨w.heap.size, 2, none⟩ = some z2 ∧ wr.cell? ⟨w.heap.size, 3, none⟩ = some z3) ∧ (wr.cell? ⟨w.heap.size + 1, 0, none⟩ = some y0 ∧ wr.cell? ⟨w.heap.size + 1, 1, none⟩ = some y1)) ∧
    ((wr.frozen? ⟨w.heap.size, 0, none⟩ = false ∧ wr.frozen? ⟨w.heap.size, 1, none⟩ = false ∧ wr.frozen? ⟨w.heap.size, 2, none⟩ = false ∧ wr.frozen? ⟨w.heap.size, 3, none⟩ = false) ∧ (wr.frozen? ⟨w.heap.size + 1, 0, none⟩ = false ∧ wr.frozen? ⟨w.heap.size + 1, 1, none⟩ = false)) ∧
    ((wr.cell? ⟨w1.heap.size, 0, none⟩ = some k ∧ wr.cell? ⟨w1.heap.size, 1, none⟩ = some b ∧ wr.cell? ⟨w1.heap.size, 2, none⟩ = some t ∧ wr.cell? ⟨w1.heap.size, 3, none⟩ = some v) ∧ (wr.cell? ⟨w1.heap.size + 1, 0, none⟩ = some f ∧ wr.cell? ⟨w1.heap.size + 1, 1, none⟩ = some g)) ∧
    (Six w wr ∧ Below w.heap.size w wr ∧ w.heap.size + 1 < w1.heap.size) := by
  have hz := two_size hb
  have hB := two_below hb
  have hbr := (hb.alloc hb.size (.cells #[k, b, t, v] T2)).alloc (Nat.le_trans hb.size (by simp)) (.cells #[f, g] T2')
  rw [hwr] at hbr
  obtain ⟨hc, hf⟩ := bcell hbr
  have e : ((w.alloc (.cells #[z0, z1, z2, z3] T)).alloc (.cells #[y0, y1] T')).heap.size = w.heap.size + 2 := by simp
  have h6 := six_new hbr
  rw [e] at hc hf
  refine ⟨⟨⟨?_, ?_, ?_, ?_⟩, ?_, ?_⟩, ⟨⟨?_, ?_, ?_, ?_⟩, ?_, ?_⟩, ⟨⟨?_, ?_, ?_, ?_⟩, ?_, ?_⟩, h6, two_below hbr, hz⟩
  · rw [hc _ _ (by omega)]; simp [go_sem]
  · rw [hc _ _ (by omega)]; simp [go_sem]
  · rw [hc _ _ (by omega)]; simp [go_sem]
  · rw [hc _ _ (by omega)]; simp [go_sem]
  · rw [hc _ _ (by omega)]; simp [go_sem]
  · rw [hc _ _ (by omega)]; simp [go_sem]
  · rw [hf _ _ (by omega)]; simp [go_sem]
  · rw [hf _ _ (by omega)]; simp [go_sem]
  · rw [hf _ _ (by omega)]; simp [go_sem]
  · rw [hf _ _ (by omega)]; simp [go_sem]
  · rw [hf _ _ (by omega)]; simp [go_sem]
  · rw [hf _ _ (by omega)]; simp [go_sem]
  all_goals
    subst hwr
    simp [go_sem]
theorem specTokenAt_no (s : ByteArray) (a : Int) (w : World) (hs : s.size ≤ 1048576) (e : Hid (ixB s a = false)) :
    Calls Tryd.prog 10 #[.string s, .int .i64 a] w (SaysV w (.tuple #[tokV 0 0 ⟨#[]⟩ 0, .int .i64 0, fauV 0 0, .bool false])) := by
  have HI := Lib.hid (fun w => scIndex_any s a w hs)
  rw [e.out] at HI
  go_enter Tryd.func10, Tryd.ntmps10
  go_wp2_with (go_at_call 41; refine (HI.out _).mono ?_; rintro e w' ⟨rfl, rfl⟩)
  exact bodyPost_ret (v := .tuple #[.agg #[.int .i64 0, .int .i64 0, .string ⟨#[]⟩, .int .i64 0], .int .i64 0, .agg #[.int .i64 0, .int .i64 0], .bool false]) (by simp [results, Tryd.results10, go_sem]) rfl ⟨rfl, two_new _ _ _⟩
set_option maxHeartbeats 1600000 in
theorem specTokenAt_go (s : ByteArray) (a : Int) (w : World) (hs : s.size ≤ 1048576) (e : Hid (ixB s a = true)) (k b v f g n : Int) (t : ByteArray)
    (HM : Hid (∀ w, Calls Tryd.prog 42 #[.string s, .int .i64 a] w (SaysV w (.tuple #[.agg #[.int .i64 k, .int .i64 b, .string t, .int .i64 v], .int .i64 n, .agg #[.int .i64 f, .int .i64 g]])))) :
    Calls Tryd.prog 10 #[.string s, .int .i64 a] w (SaysV w (.tuple #[.agg #[.int .i64 k, .int .i64 b, .string t, .int .i64 v], .int .i64 n, .agg #[.int .i64 f, .int .i64 g], .bool true])) := by
  have HI := Lib.hid (fun w => scIndex_any s a w hs)
  rw [e.out] at HI
  go_enter Tryd.func10, Tryd.ntmps10
  go_wp2_with (first | (go_at_call 41; refine (HI.out _).mono ?_; rintro e w' ⟨rfl, rfl⟩) | (go_at_call 42; refine (HM.out _).mono ?_; rintro e w1 ⟨rfl, b1⟩; have X1 := Lib.hid (six_new b1); have B1 := Lib.hid (two_below b1); have C1 := Lib.hid b1; have hz := two_size b1; clear b1))
  obtain ⟨wr, hwr⟩ : ∃ wr, (w1.alloc (.cells #[.int .i64 k, .int .i64 b, .string t, .int .i64 v] 32)).alloc (.cells #[.int .i64 f, .int .i64 g] 26) = wr := ⟨_, rfl⟩
  rw [hwr]
  obtain ⟨⟨⟨c0, c1, c2, c3⟩, c4, c5⟩, ⟨⟨g0, g1, g2, g3⟩, g4, g5⟩, ⟨⟨l0, l1, l2, l3⟩, l4, l5⟩, x6, br, hz3⟩ := reg_facts C1.out hwr
  have X6 := Lib.hid x6
  have BR := Lib.hid br
  clear hwr x6 br
  go_region
  all_goals
    go_wp2
    obtain ⟨⟨r0, r1, r2, r3⟩, q0, q1⟩ := read42 X6.out (.int .i64 k) (.int .i64 b) (.string t) (.int .i64 v) (.int .i64 f) (.int .i64 g) _ rfl
    exact bodyPost_ret (v := .tuple #[.agg #[.int .i64 k, .int .i64 b, .string t, .int .i64 v], .int .i64 n, .agg #[.int .i64 f, .int .i64 g], .bool true]) (by simp [results, Tryd.results10, go_sem, r0, r1, r2, r3, q0, q1]) rfl ⟨rfl, below_drewN (set2 (set4 BR.out _ (Nat.le_refl _) _ _ _ _) _ (Nat.le_succ _) _ _) 1⟩
theorem specTokenAt_any (s : ByteArray) (a : Int) (w : World) (hs : s.size ≤ 1048576) :
    Calls Tryd.prog 10 #[.string s, .int .i64 a] w (SaysV w (taV s a)) := by
  rcases ix_way s a with ⟨h, e, r⟩ | ⟨h, l, e, r⟩ | ⟨h, z, l, e, r⟩ | ⟨h, k, hk, l, e, r⟩
  · rw [taV_no e]; exact specTokenAt_no s a w hs e
  · rw [taV_no e]; exact specTokenAt_no s a w hs e
  · rw [taV_no e]; exact specTokenAt_no s a w hs e
  · subst hk
    rw [taV_yes e]
    exact specTokenAt_go s k w hs e _ _ _ _ _ _ _ (Lib.hid fun w => tkAt_any s k w hs l)
theorem implTokenAt_no (s : ByteArray) (a : Int) (w : World) (hs : s.size ≤ 1048576) (e : Hid (ixB s a = false)) (r : Hid (skR s a = 0)) :
    Calls Tryd.prog 9 #[.string s, .int .i64 a] w (SaysV w (.tuple #[tokV 0 0 ⟨#[]⟩ 0, .int .i64 0, fauV 0 0, .bool false])) := by
  have HI := Lib.hid (fun w => implSkipSpace_any s a w hs)
  rw [e.out, r.out] at HI
  go_enter Tryd.func9, Tryd.ntmps9
  go_wp2_with (go_at_call 11; refine (HI.out _).mono ?_; rintro e w1 ⟨rfl, b1⟩; have X1 := Lib.hid (six_new b1); have B1 := Lib.hid (two_below b1); have hz := two_size b1; obtain ⟨hc, hf⟩ := bcell b1; clear b1)
  obtain ⟨⟨r0, r1, r2, r3⟩, q0, q1⟩ := read42 X1.out (.int .i64 0) (.int .i64 0) (.string ⟨#[]⟩) (.int .i64 0) (.int .i64 0) (.int .i64 0) _ rfl
  exact bodyPost_ret (v := .tuple #[.agg #[.int .i64 0, .int .i64 0, .string ⟨#[]⟩, .int .i64 0], .int .i64 0, .agg #[.int .i64 0, .int .i64 0], .bool false]) (by simp [results, Tryd.results9, go_sem, r0, r1, r2, r3, q0, q1]) rfl ⟨rfl, set2 (set4 B1.out _ (Nat.le_refl _) _ _ _ _) _ (Nat.le_succ _) _ _⟩
theorem implTokenAt_end (s : ByteArray) (i : Nat) (n : Nat) (w : World) (hs : s.size ≤ 1048576) (e : Hid (ixB s (i : Int) = true)) (r : Hid (skR s (i : Int) = n)) (he : Hid (n = s.size)) (hx : Hid (tkA s i = ⟨0, 0, ⟨#[]⟩, 0, n, 0, 0⟩)) :
    Calls Tryd.prog 9 #[.string s, .int .i64 i] w (SaysV w (.tuple #[(tkA s i).tv, .int .i64 ((tkA s i).e : Int), (tkA s i).fv, .bool true])) := by
  have HI := Lib.hid (fun w => implSkipSpace_any s i w hs)
  rw [e.out, r.out, he.out] at HI
  rw [hx.out, he.out]
  go_enter Tryd.func9, Tryd.ntmps9
  go_wp2_with (go_at_call 11; refine (HI.out _).mono ?_; rintro e w1 ⟨rfl, b1⟩; have X1 := Lib.hid (six_new b1); have B1 := Lib.hid (two_below b1); have hz := two_size b1; obtain ⟨hc, hf⟩ := bcell b1; clear b1)
  obtain ⟨⟨r0, r1, r2, r3⟩, q0, q1⟩ := read42 X1.out (.int .i64 0) (.int .i64 0) (.string ⟨#[]⟩) (.int .i64 0) (.int .i64 0) (.int .i64 0) _ rfl
  exact bodyPost_ret (v := .tuple #[.agg #[.int .i64 0, .int .i64 0, .string ⟨#[]⟩, .int .i64 0], .int .i64 s.size, .agg #[.int .i64 0, .int .i64 0], .bool true]) (by simp [results, Tryd.results9, go_sem, r0, r1, r2, r3, q0, q1]) rfl ⟨rfl, set2 (set4 B1.out _ (Nat.le_refl _) _ _ _ _) _ (Nat.le_succ _) _ _⟩
set_option maxHeartbeats 1600000 in
theorem implTokenAt_go (s : ByteArray) (i : Nat) (n : Nat) (w : World) (hs : s.size ≤ 1048576) (hT : Hid (Tabs w)) (e : Hid (ixB s (i : Int) = true)) (r : Hid (skR s (i : Int) = n)) (he : n < s.size) (u : ByteArray) (hsl : ∀ w, (Instr.slice 9 (.string s) (some (.int .i64 (n : Int))) none none).run Tryd.prog w = .ok (.string u) w) (hu : u.size ≤ 1048576) (k b v f g : Int) (t T : ByteArray) (hft : Hid (ftS u = t)) (hTs : T.size ≤ s.size)
    (HM : Hid (∀ w, Hid (Tabs w) → Calls Tryd.prog 39 #[.string t, .int .i64 n] w (SaysV w (.tuple #[.agg #[.int .i64 k, .int .i64 b, .string T, .int .i64 v], .agg #[.int .i64 f, .int .i64 g]])))) :
    Calls Tryd.prog 9 #[.string s, .int .i64 i] w (SaysV w (.tuple #[.agg #[.int .i64 k, .int .i64 b, .string T, .int .i64 v], .int .i64 (n + T.size), .agg #[.int .i64 f, .int .i64 g], .bool true])) := by
  have HI := Lib.hid (fun w => implSkipSpace_any s i w hs)
  rw [e.out, r.out] at HI
  have HF := Lib.hid (fun w hS => firstText_any u w hu hS)
  rw [hft.out] at HF
  have dn : ((n : Int) == (s.size : Int)) = false := by simp; omega
  have q1 : IntKind.i64.wrap ((n : Int) + T.size) = (n : Int) + T.size := IntWalk.i64_in _ (by omega)
  go_enter Tryd.func9, Tryd.ntmps9
  go_wp2_with (go_at_call 11; refine (HI.out _).mono ?_; rintro e w1 ⟨rfl, b1⟩; have C1 := Lib.hid b1; have T1 := Lib.hid (hT.out.below (two_below b1)); have S1 := Lib.hid (hT.out.below (two_below b1)).2.2.2; clear b1)
  go_wp2_with (go_at_call 40; refine (HF.out _ S1).mono ?_; rintro e w2 ⟨rfl, b2⟩; have C2 := Lib.hid (C1.out.trans (b2.mono C1.out.size)); have T2 := Lib.hid (T1.out.below b2); clear b2)
  go_wp2_with (go_at_call 39; refine (HM.out _ T2).mono ?_; rintro e w3 ⟨rfl, b3⟩; have C3 := Lib.hid (C2.out.trans (b3.mono C2.out.size)); clear b3)
  obtain ⟨wr, hwr⟩ : ∃ wr, (w3.alloc (.cells #[.int .i64 k, .int .i64 b, .string T, .int .i64 v] 32)).alloc (.cells #[.int .i64 f, .int .i64 g] 26) = wr := ⟨_, rfl⟩
  rw [hwr]
  obtain ⟨⟨⟨c0, c1, c2, c3⟩, c4, c5⟩, ⟨⟨g0, g1, g2, g3⟩, g4, g5⟩, ⟨⟨l0, l1, l2, l3⟩, l4, l5⟩, x6, br, hz3⟩ := reg_facts C3.out hwr
  have X6 := Lib.hid x6
  have BR := Lib.hid br
  clear hwr x6 br
  go_region
  all_goals
    go_wp2
    obtain ⟨⟨r0, r1, r2, r3⟩, q0, q1⟩ := read42 X6.out (.int .i64 k) (.int .i64 b) (.string T) (.int .i64 v) (.int .i64 f) (.int .i64 g) _ rfl
    exact bodyPost_ret (v := .tuple #[.agg #[.int .i64 k, .int .i64 b, .string T, .int .i64 v], .int .i64 (n + T.size), .agg #[.int .i64 f, .int .i64 g], .bool true]) (by simp [results, Tryd.results9, go_sem, r0, r1, r2, r3, q0, q1]) rfl ⟨rfl, below_drewN (set2 (set4 BR.out _ (Nat.le_refl _) _ _ _ _) _ (Nat.le_succ _) _ _) 1⟩
theorem implTokenAt_any (s : ByteArray) (a : Int) (w : World) (hs : s.size ≤ 1048576) (hT : Hid (Tabs w)) :
    Calls Tryd.prog 9 #[.string s, .int .i64 a] w (SaysV w (taV s a)) := by
  rcases ix_way s a with ⟨h, e, r⟩ | ⟨h, l, e, r⟩ | ⟨h, z, l, e, r⟩ | ⟨h, i, hk, l, e, r⟩
  · rw [taV_no e]; exact implTokenAt_no s a w hs e r
  · rw [taV_no e]; exact implTokenAt_no s a w hs e r
  · rw [taV_no e]; exact implTokenAt_no s a w hs e r
  · subst hk
    rw [taV_yes e]
    obtain ⟨n, hn⟩ : ∃ n, i + skL false (s.data.toList.drop i) = n := ⟨_, rfl⟩
    have hns : n ≤ s.size := by have := skL_le false (s.data.toList.drop i); rw [List.length_drop, ← size_list] at this; omega
    rw [hn] at r
    rcases Nat.lt_or_eq_of_le hns with hlt | heq
    · obtain ⟨u, hu, hus, hsl⟩ := rest_at s n hns
      obtain ⟨t, ht⟩ : ∃ t, ftL (s.data.toList.drop n) = t := ⟨_, rfl⟩
      have htl : t.size ≤ s.size := by have := ftL_len (s.data.toList.drop n); rw [ht, List.length_drop, ← size_list] at this; omega
      have hft : ftS u = t := by rw [ftS_eq, hu, ht]
      have HM := fun w hT => tokenOf_any t (n : Int) w (by omega) hT
      by_cases hf : tkFa t = 0
      · have hx := tkA_tok hn (by omega) ht hf
        rw [(tokR_yes (n : Int) hf rfl rfl).1, (tokR_yes (n : Int) hf rfl rfl).2] at HM
        have := implTokenAt_go s i n w hs hT e r hlt u hsl (by omega) (tkKi t) n (tkVa t) 0 0 t t hft htl (Lib.hid HM)
        rw [hx]
        exact this
      · have hx := tkA_bad hn (by omega) ht hf
        rw [(tokR_no (n : Int) rfl hf).1, (tokR_no (n : Int) rfl hf).2] at HM
        have := implTokenAt_go s i n w hs hT e r hlt u hsl (by omega) 0 0 0 (tkFa t) n t ⟨#[]⟩ hft (by show 0 ≤ s.size; omega) (Lib.hid HM)
        rw [hx]
        exact this
    · exact implTokenAt_end s i n w hs e r heq (tkA_end hn heq)
end Go.Proofs.YtdmcgjohpnojkaaDoor
