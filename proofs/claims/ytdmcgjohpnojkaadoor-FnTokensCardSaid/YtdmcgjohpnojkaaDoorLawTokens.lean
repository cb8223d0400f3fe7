/- For every bytes that FnTokens draws from: the tokens of a text lie in it one after the other, space is skipped between them, and the text made of them has the same tokens: the law FnTokens returns true. The tables of digits, units, key words and signs start as the program's text lays them (the card ties them). No other condition. -/
import Derived.Test.YtdmcgjohpnojkaaDoorCards
import Derived.Test.YtdmcgjohpnojkaaDoorTie
import Derived.Test.YtdmcgjohpnojkaaDoorTkt
import Derived.Test.YtdmcgjohpnojkaaDoorTre
import Derived.Test.YtdmcgjohpnojkaaDoorDrt
import Derived.ProofKit
import Derived.OpenShut
import Derived.ShutString
import Derived.ChangeOld
import Derived.ChangeVars
import Derived.Deep.DeepHandedRow
import Derived.Deep.CutRange
namespace Go.Proofs.YtdmcgjohpnojkaaDoor.fnTokens
set_option maxRecDepth 100000
open Go.ChangeShapes Go.WideShapes Go.ChangeAt Go.RowKit
open Go.ChangeMaps (open_string shut_string)
set_option linter.unusedVariables false

/-- a text cut between two places -/
theorem cut_two (s : ByteArray) (n m : Nat) (t : ByteArray) (h : n ≤ m) (h2 : m ≤ s.size) (e : s.extract n m = t) : ∀ w, (Instr.slice 9 (.string s) (some (.int .i64 (n : Int))) (some (.int .i64 (m : Int))) none).run Tryd.prog w = .ok (.string t) w := fun w => by
  rw [run_slice_string w 9 s .i64 .i64 (n : Int) (m : Int) Tryd.underlying9 (by omega) (by omega) (by omega)]
  rw [Int.toNat_natCast, Int.toNat_natCast, e]
theorem bx_below {wb w' : World} (h : BX wb w') : Below wb.heap.size wb w' := h
theorem two_of {w w' : World} {g : Nat} {a b : Value} (h : Two w g a b) (hb : Below w.heap.size w w') (hg : g < w.heap.size) : w'.cell? ⟨g, 0, none⟩ = some a ∧ w'.cell? ⟨g, 1, none⟩ = some b := h.below hb hg
theorem chain_sk {s : ByteArray} {j : Nat} {y : Tok} {r : List Tok} (h : Chain s j (y :: r)) (hs : s.size ≤ 4000) : ∃ n : Nat, skR s (j : Int) = (n : Int) ∧ ixB s (j : Int) = true ∧ y.a = (n : Int) ∧ goodT y.k y.a y.t y.v = true ∧ n + y.t.size ≤ s.size ∧ s.extract n (n + y.t.size) = y.t ∧ Chain s (n + y.t.size) r := by
  obtain ⟨hi, n, hn, ha, ht, hk, hv, hz, he, hc⟩ := h
  have hx : ixB s (j : Int) = true := ixB_yes (by omega) hi
  refine ⟨n, ?_, hx, ha, ?_, hz, he, hc⟩
  · unfold skR; rw [if_pos hx, Int.toNat_natCast, hn]
  · rw [← hk, ← hv, ha]; exact tok_good ht ⟨by omega, by omega⟩
/-- what the two answers about a place have in common -/
theorem at_facts (t : ByteArray) (a : Int) : ∃ (k b : Int) (tt : ByteArray) (v n f g : Int) (o : Bool) (sk : Int), taV t a = .tuple #[.agg #[.int .i64 k, .int .i64 b, .string tt, .int .i64 v], .int .i64 n, .agg #[.int .i64 f, .int .i64 g], .bool o] ∧ skR t a = sk ∧ ixB t a = o ∧
    (o = false ∨ (o = true ∧ k = 0 ∧ sk ≤ n) ∨ (o = true ∧ k ≠ 0 ∧ b = sk ∧ sk ≤ n ∧ ∀ w, (Instr.slice 9 (.string t) (some (.int .i64 sk)) (some (.int .i64 n)) none).run Tryd.prog w = .ok (.string tt) w)) := by
  rcases taV_ways t a with ⟨e, ex⟩ | ⟨f', g', n, e, ex, ek⟩ | ⟨k, v, n, tt, hk, e, ex, ek, hz, hx⟩
  · exact ⟨_, _, _, _, _, _, _, _, _, e, rfl, ex, .inl rfl⟩
  · exact ⟨_, _, _, _, _, _, _, _, _, e, ek, ex, .inr (.inl ⟨rfl, rfl, Int.le_refl _⟩)⟩
  · exact ⟨_, _, _, _, _, _, _, _, _, e, ek, ex, .inr (.inr ⟨rfl, hk, rfl, by omega, cut_two t n (n + tt.size) tt (by omega) hz hx⟩)⟩
theorem slt_view {w : World} {v : Value} {l : List Tok} (h : SlT w v l) : ∃ ad c, v = .slice ad l.length c ∧ (0 < l.length → ∃ gv, ad = some ⟨gv, 0, none⟩ ∧ ToksAt w gv l ∧ gv < w.heap.size) := by
  rcases h with ⟨rfl, ad, c, rfl⟩ | ⟨gv, c, rfl, ht, hg⟩
  · exact ⟨ad, c, rfl, fun h => absurd h (by simp)⟩
  · exact ⟨_, c, rfl, fun _ => ⟨gv, rfl, ht, hg⟩⟩
theorem tok_box {w w1 : World} {a b c d : Value} {t : TypeId} (h : Below (w.alloc (.cells #[a, b, c, d] t)).heap.size (w.alloc (.cells #[a, b, c, d] t)) w1) : w1.cell? ⟨w.heap.size, 0, none⟩ = some a ∧ w1.cell? ⟨w.heap.size, 1, none⟩ = some b ∧ w1.cell? ⟨w.heap.size, 2, none⟩ = some c ∧ w1.cell? ⟨w.heap.size, 3, none⟩ = some d ∧ w.heap.size < w1.heap.size := by
  have hz : w.heap.size < (w.alloc (.cells #[a, b, c, d] t)).heap.size := by simp
  refine ⟨?_, ?_, ?_, ?_, Nat.lt_of_lt_of_le hz h.size⟩ <;> rw [h.cell hz] <;> simp [go_sem]
theorem four_on {w w1 : World} {g : Nat} {a b c d : Value} (h : w.cell? ⟨g, 0, none⟩ = some a ∧ w.cell? ⟨g, 1, none⟩ = some b ∧ w.cell? ⟨g, 2, none⟩ = some c ∧ w.cell? ⟨g, 3, none⟩ = some d ∧ g < w.heap.size) (hb : Below w.heap.size w w1) : w1.cell? ⟨g, 0, none⟩ = some a ∧ w1.cell? ⟨g, 1, none⟩ = some b ∧ w1.cell? ⟨g, 2, none⟩ = some c ∧ w1.cell? ⟨g, 3, none⟩ = some d ∧ g < w1.heap.size := by
  obtain ⟨h0, h1, h2, h3, hg⟩ := h
  exact ⟨(hb.cell (p := ⟨g, 0, none⟩) hg).trans h0, (hb.cell (p := ⟨g, 1, none⟩) hg).trans h1, (hb.cell (p := ⟨g, 2, none⟩) hg).trans h2, (hb.cell (p := ⟨g, 3, none⟩) hg).trans h3, Nat.lt_of_lt_of_le hg hb.size⟩
theorem drop_getD {L : List Tok} {k : Nat} (h : k < L.length) {y : Tok} (hy : L.getD k tok0 = y) : L.drop k = y :: L.drop (k + 1) := by
  rw [List.drop_eq_getElem_cons h, ← hy]
  simp [List.getD_eq_getElem?_getD, h]
def TkLoop (w0 : World) (s : ByteArray) (L : List Tok) (last i : Value) (wr : World) : Prop := ∃ k j : Nat, k ≤ L.length ∧ i = .int .i64 k ∧ last = .int .i64 j ∧ Below w0.heap.size w0 wr ∧ Hid (Chain s j (L.drop k))
set_option maxRecDepth 100000 in
set_option maxHeartbeats 16000000 in
theorem walk_in (a0 a1 : Option Addr) (n0 n1 cap0 cap1 : Nat) (ys0 ys1 : List Int) (w : World) (HT : Hid (Tabs w)) (HL0 : Hid (ys0.length = n0)) (HI0 : Hid (In w a0 ys0)) (HL1 : Hid (ys1.length = n1)) (HI1 : Hid (In w a1 ys1)) (h0 : n0 ≤ 9223372036854775807) (h1 : n1 ≤ 9223372036854775807) (d : decide ((1048576 : Int) < wrap64 ((n0 : Int) + n1)) = false) :
    Calls Tryd.prog 3 #[.slice a0 n0 cap0, .slice a1 n1 cap1] w fun e w' => e = .returned (.bool true) ∧ Below w.heap.size w w' := by
  go_enter Tryd.func3, Tryd.ntmps3
  go_wp2_with (go_at_call 5; refine (drawTokensOf_any _ _ _ _ _ HL0 HI0 h0).mono ?_; rintro e v1 ⟨s, rfl, hs, b⟩; have T := Lib.hid b; clear b; refine Hid.out ?_)
  refine Lib.hid ?_
  have HIs := Lib.hid (fun w hT => implTokensOf_any s w hT)
  have HSs := Lib.hid (fun w => specTokensOf_any s w)
  have HWAY := Lib.hid (tkT_ways s)
  have hlen := tkT_len s
  obtain ⟨R, hR⟩ : ∃ R, tkT s = R := ⟨_, rfl⟩
  obtain ⟨o, ho⟩ : ∃ o, tkO s = o := ⟨_, rfl⟩
  rw [hR, ho] at HIs HSs HWAY
  rw [hR] at hlen
  have HRS : Hid (tkT s = R) := Lib.hid hR
  have HOS : Hid (tkO s = o) := Lib.hid ho
  clear hR ho
  obtain ⟨L, f, g⟩ := R
  simp only at HWAY hlen
  have hl2 : L.length ≤ 1048576 := Nat.le_trans hlen (by omega)
  have T1 := Lib.hid (HT.out.below T.out)
  go_wp2_with (go_at_call 6; refine (HIs.out _ T1).mono ?_; rintro e v2 ⟨va, rfl, o2, b⟩; have O2 := Lib.hid o2.slt; have T := Lib.hid (T.out.trans (b.mono T.out.size)); clear b o2)
  obtain ⟨wa, hwa⟩ : ∃ wa, v2.alloc (.cells #[.int .i64 f, .int .i64 g] 26) = wa := ⟨_, rfl⟩
  rw [hwa]
  have PA := Lib.hid (two_cells hwa)
  have T := Lib.hid (T.out.trans (PA.out.2.1.mono T.out.size))
  have SA := Lib.hid (O2.out.below PA.out.2.1)
  clear hwa T1 O2
  go_wp2_with (go_at_call 7; refine (HSs.out _).mono ?_; rintro e v3 ⟨vb, rfl, o3, b⟩; have O3 := Lib.hid o3.slt; have FA := Lib.hid (PA.out.1.below b PA.out.2.2); have SA3 := Lib.hid (SA.out.below b); have hz3 := Nat.lt_of_lt_of_le PA.out.2.2 b.size; have T := Lib.hid (T.out.trans (b.mono T.out.size)); clear b o3)
  obtain ⟨wb, hwb⟩ : ∃ wb, v3.alloc (.cells #[.int .i64 f, .int .i64 g] 26) = wb := ⟨_, rfl⟩
  rw [hwb]
  have PB := Lib.hid (two_cells hwb)
  have T := Lib.hid (T.out.trans (PB.out.2.1.mono T.out.size))
  have SB := Lib.hid (O3.out.below PB.out.2.1)
  have SA4 := Lib.hid (SA3.out.below PB.out.2.1)
  have FB := Lib.hid (FA.out.below PB.out.2.1 hz3)
  have hzb := Nat.lt_of_lt_of_le hz3 PB.out.2.1.size
  clear hwb O3 FA SA3 SA HIs HSs
  go_upto_region 7 with (go_at_call 8; refine (drawTokenAt_any _ _ _ _ _ HL1 (Lib.hid (HI1.out.below T.out)) h1).mono ?_; rintro e v4 ⟨t, at_, rfl, ht, x0, x1, b⟩; have BD := Lib.hid b; have T := Lib.hid (T.out.trans (b.mono T.out.size)); clear b)
  have TT := Lib.hid (HT.out.below T.out)
  have F0 := Lib.hid (FB.out.below BD.out hzb)
  have F1 := Lib.hid (PB.out.1.below BD.out PB.out.2.2)
  have SX := Lib.hid (SA4.out.below BD.out)
  have SY := Lib.hid (SB.out.below BD.out)
  have hzc := Nat.lt_of_lt_of_le hzb BD.out.size
  have hzd := Nat.lt_of_lt_of_le PB.out.2.2 BD.out.size
  have hts : t.size ≤ 1048576 := by omega
  have HIt := Lib.hid (fun w hT => implTokenAt_any t at_ w hts hT)
  have HSt := Lib.hid (fun w => specTokenAt_any t at_ w hts)
  have HIk := Lib.hid (fun w => implSkipSpace_any t at_ w hts)
  have HSk := Lib.hid (fun w => specSkipSpace_any t at_ w hts)
  obtain ⟨k, b', tt, v, n, f', g', o', sk, e1, e2, e3, hfact⟩ := at_facts t at_
  rw [e1] at HIt HSt
  rw [e2, e3] at HIk HSk
  have HF := Lib.hid hfact
  clear e1 e2 e3 hfact SA4 SB BD hlen
  go_wp2_with (go_at_call 9; refine (HIt.out _ TT).mono ?_; rintro e v5 ⟨rfl, b⟩; have B5 := Lib.hid b; have F0 := Lib.hid (F0.out.below b hzc); have F1 := Lib.hid (F1.out.below b hzd); have SX := Lib.hid (SX.out.below b); have SY := Lib.hid (SY.out.below b); have hzc := Nat.lt_of_lt_of_le hzc b.size; have hzd := Nat.lt_of_lt_of_le hzd b.size; clear b)
  obtain ⟨wk, hwk⟩ : ∃ wk, (v5.alloc (.cells #[.int .i64 k, .int .i64 b', .string tt, .int .i64 v] 32)).alloc (.cells #[.int .i64 f', .int .i64 g'] 26) = wk := ⟨_, rfl⟩
  rw [hwk]
  have PC := Lib.hid (pair_new hwk)
  have B5 := Lib.hid (B5.out.trans (PC.out.2.1.mono B5.out.size))
  have F0 := Lib.hid (F0.out.below PC.out.2.1 hzc)
  have F1 := Lib.hid (F1.out.below PC.out.2.1 hzd)
  have SX := Lib.hid (SX.out.below PC.out.2.1)
  have SY := Lib.hid (SY.out.below PC.out.2.1)
  have hzc := Nat.lt_of_lt_of_le hzc PC.out.2.1.size
  have hzd := Nat.lt_of_lt_of_le hzd PC.out.2.1.size
  clear hwk
  go_wp2_with (go_at_call 10; refine (HSt.out _).mono ?_; rintro e v6 ⟨rfl, b⟩; have P6 := Lib.hid (PC.out.1.below b PC.out.2.2); have hz6 := Nat.lt_of_lt_of_le PC.out.2.2 b.size; have B5 := Lib.hid (B5.out.trans (b.mono B5.out.size)); have F0 := Lib.hid (F0.out.below b hzc); have F1 := Lib.hid (F1.out.below b hzd); have SX := Lib.hid (SX.out.below b); have SY := Lib.hid (SY.out.below b); have hzc := Nat.lt_of_lt_of_le hzc b.size; have hzd := Nat.lt_of_lt_of_le hzd b.size; clear b)
  obtain ⟨wd, hwd⟩ : ∃ wd, (v6.alloc (.cells #[.int .i64 k, .int .i64 b', .string tt, .int .i64 v] 32)).alloc (.cells #[.int .i64 f', .int .i64 g'] 26) = wd := ⟨_, rfl⟩
  rw [hwd]
  have PD := Lib.hid (pair_new hwd)
  have P7 := Lib.hid (P6.out.below PD.out.2.1 hz6)
  have hz7 := Nat.lt_of_lt_of_le hz6 PD.out.2.1.size
  have B5 := Lib.hid (B5.out.trans (PD.out.2.1.mono B5.out.size))
  have F0 := Lib.hid (F0.out.below PD.out.2.1 hzc)
  have F1 := Lib.hid (F1.out.below PD.out.2.1 hzd)
  have SX := Lib.hid (SX.out.below PD.out.2.1)
  have SY := Lib.hid (SY.out.below PD.out.2.1)
  have hzc := Nat.lt_of_lt_of_le hzc PD.out.2.1.size
  have hzd := Nat.lt_of_lt_of_le hzd PD.out.2.1.size
  clear hwd P6 PC
  go_wp2_with (go_at_call 11; refine (HIk.out _).mono ?_; rintro e v8 ⟨rfl, b⟩; have P8 := Lib.hid (P7.out.below b hz7); have Q8 := Lib.hid (PD.out.1.below b PD.out.2.2); have hz8 := Nat.lt_of_lt_of_le hz7 b.size; have hy8 := Nat.lt_of_lt_of_le PD.out.2.2 b.size; have B5 := Lib.hid (B5.out.trans (b.mono B5.out.size)); have F0 := Lib.hid (F0.out.below b hzc); have F1 := Lib.hid (F1.out.below b hzd); have SX := Lib.hid (SX.out.below b); have SY := Lib.hid (SY.out.below b); have hzc := Nat.lt_of_lt_of_le hzc b.size; have hzd := Nat.lt_of_lt_of_le hzd b.size; clear b)
  go_upto_region 11 with (go_at_call 12; refine (HSk.out _).mono ?_; rintro e v9 ⟨rfl, rfl⟩)
  have QT := Lib.hid (qTokens_any va vb L v8 SX SY hl2)
  clear HIt HSt HIk HSk PD P7 TT
  go_cut [143] from 92 to 143 (fun c wx => c = .bool false ∧ Below v8.heap.size v8 wx)
  case first =>
    rcases HF.out with rfl | ⟨rfl, rfl, hsk⟩ | ⟨rfl, hk, rfl, hsk, hsl⟩
    · go_wp2_with (go_at_call 13; refine QT.out.mono ?_; rintro e v10 ⟨rfl, b⟩; have BQ := Lib.hid b; obtain ⟨⟨p0, p1, p2, p3⟩, p4, p5⟩ := P8.out.below b hz8; obtain ⟨⟨q0, q1, q2, q3⟩, q4, q5⟩ := Q8.out.below b hy8; obtain ⟨c0, c1⟩ := F0.out.below b hzc; obtain ⟨c2, c3⟩ := F1.out.below b hzd; clear b)
      go_meet
      exact ⟨rfl, BQ.out⟩
    · have dl := not_lt hsk
      go_wp2_with (go_at_call 13; refine QT.out.mono ?_; rintro e v10 ⟨rfl, b⟩; have BQ := Lib.hid b; obtain ⟨⟨p0, p1, p2, p3⟩, p4, p5⟩ := P8.out.below b hz8; obtain ⟨⟨q0, q1, q2, q3⟩, q4, q5⟩ := Q8.out.below b hy8; obtain ⟨c0, c1⟩ := F0.out.below b hzc; obtain ⟨c2, c3⟩ := F1.out.below b hzd; clear b)
      go_meet
      exact ⟨rfl, BQ.out⟩
    · have dl := not_lt hsk
      go_wp2_with (go_at_call 13; refine QT.out.mono ?_; rintro e v10 ⟨rfl, b⟩; have BQ := Lib.hid b; obtain ⟨⟨p0, p1, p2, p3⟩, p4, p5⟩ := P8.out.below b hz8; obtain ⟨⟨q0, q1, q2, q3⟩, q4, q5⟩ := Q8.out.below b hy8; obtain ⟨c0, c1⟩ := F0.out.below b hzc; obtain ⟨c2, c3⟩ := F1.out.below b hzd; clear b)
      go_meet
      exact ⟨rfl, BQ.out⟩
  case rest =>
  obtain ⟨rfl, hb⟩ := hcut
  have BW := Lib.hid hb
  clear hb SX
  go_upto_region 13 with fail
  go_cut [164] from 144 to 164 (fun c wx => c = .bool false ∧ Below wc.heap.size wc wx)
  case first =>
    obtain ⟨⟨q0, q1, q2, q3⟩, q4, q5⟩ := Q8.out.below BW.out hy8
    rcases HF.out with rfl | ⟨rfl, rfl, hsk⟩ | ⟨rfl, hk, rfl, hsk, hsl⟩
    · go_quiet (fail)
      go_wp2
      go_meet
      exact ⟨rfl, below_drewN (Below.refl _ _) _⟩
    · go_quiet (fail)
      go_wp2
      go_meet
      exact ⟨rfl, below_drewN (Below.refl _ _) _⟩
    · have k0 : (k == 0) = false := by simp [hk]
      go_quiet (fail)
      go_wp2
      go_meet
      exact ⟨rfl, below_drewN (Below.refl _ _) _⟩
  case rest =>
  obtain ⟨rfl, hb⟩ := hcut
  have F1 := Lib.hid ((F1.out.below BW.out hzd).below hb (Nat.lt_of_lt_of_le hzd BW.out.size))
  have SY := Lib.hid ((SY.out.below BW.out).below hb)
  have hz1 : v3.heap.size < wc.heap.size := Nat.lt_of_lt_of_le (Nat.lt_of_lt_of_le hzd BW.out.size) hb.size
  have T := Lib.hid (T.out.trans (((B5.out.trans (BW.out.mono B5.out.size)).trans (hb.mono (Nat.le_trans B5.out.size BW.out.size))).mono T.out.size))
  have HTL := Lib.hid (HT.out.below T.out)
  clear hb BW HF P8 Q8 F0 hz8 hy8 hzc B5 hzd QT
  rename World => W0
  have HCH : Hid (Chain s 0 L ∧ (L = [] ∨ s.size ≤ 4000)) := Lib.hid (by
    rcases HWAY.out with ⟨_, e⟩ | ⟨h, _, _, e, _⟩ | ⟨h, _, _, hc⟩
    · injection e with e _ _
      subst e
      exact ⟨Nat.zero_le _, .inl rfl⟩
    · subst e
      exact ⟨Nat.zero_le _, .inl rfl⟩
    · exact ⟨hc, .inr h⟩)
  obtain ⟨ad, cv, rfl, hview⟩ := slt_view SY.out
  have VIEW := Lib.hid hview
  clear hview SY FB PB hzb hz3 PA
  have HIS := Lib.hid (fun a w => implSkipSpace_any s a w (by omega))
  have HIT := Lib.hid (fun k a v t w h hT => implIsToken_any k a v t w h hT)
  go_wp2_with fail
  go_loopw [26, 167] (fun last i wr => TkLoop W0 s L last i wr) (fun _ i _ => L.length - (intOf i).toNat)
  case atStart => exact ⟨0, 0, Nat.zero_le _, rfl, rfl, Below.refl _ _, Lib.hid (by rw [List.drop_zero]; exact HCH.out.1)⟩
  case round =>
    obtain ⟨k', j, hk', rfl, rfl, hbl, hch⟩ := hrel
    have HBL := Lib.hid hbl
    clear hbl
    by_cases hlt : k' < L.length
    · obtain ⟨gv, rfl, htk, hgv⟩ := VIEW.out (by omega)
      obtain ⟨y, hy⟩ : ∃ y, L.getD k' tok0 = y := ⟨_, rfl⟩
      have h4 : s.size ≤ 4000 := by
        rcases HCH.out.2 with e | e
        · subst e; simp at hlt
        · exact e
      have hcc := hch.out
      rw [drop_getD hlt hy] at hcc
      obtain ⟨n, e1, e2, ea, eg, ez, ex, ec⟩ := chain_sk hcc h4
      obtain ⟨c0, c1, c2, c3⟩ := (htk.below HBL.out hgv).four k' hlt y hy
      obtain ⟨yk, ya, yt, yv⟩ := y
      simp only at c0 c1 c2 c3 ea eg ez ex ec
      subst ea
      have HSK := Lib.hid (HIS.out (j : Int))
      rw [e1, e2] at HSK
      have HGT := Lib.hid (fun w hT => HIT.out yk (n : Int) yv yt w (by omega) hT)
      rw [eg] at HGT
      have EC := Lib.hid ec
      have EX := Lib.hid ex
      clear e1 e2 eg ec ex hcc hch hy htk
      go_upto_region 20 with (go_at_call 11; refine (HSK.out _).mono ?_; rintro e u1 ⟨rfl, b⟩; have BX1 := Lib.hid (tok_box b); have BU := Lib.hid ((one_new2 _ _).trans (b.mono (by simp))); clear b)
      have TU := Lib.hid (HTL.out.below (HBL.out.trans (BU.out.mono HBL.out.size)))
      have HSL : ∀ w, (Instr.slice 9 (.string s) (some (.int .i64 (n : Int))) (some (.int .i64 ((n : Int) + (yt.size : Int)))) none).run Tryd.prog w = .ok (.string yt) w := by
        have q := cut_two s n (n + yt.size) yt (by omega) ez EX.out
        rw [Int.natCast_add] at q
        exact q
      have HWR : Hid (IntKind.i64.wrap ((n : Int) + (yt.size : Int)) = (n : Int) + (yt.size : Int)) := Lib.hid (by unfold IntKind.wrap; simp [IntKind.bits, IntKind.signed]; omega)
      clear c0 c1 c2 c3
      go_cut [204] from 177 to 204 (fun c wx => c = .bool false ∧ Below u1.heap.size u1 wx)
      case first =>
        have HQ : Hid (∀ w', BX u1 w' → w'.cell? ⟨wr.heap.size, 0, none⟩ = some (.int .i64 yk) ∧ w'.cell? ⟨wr.heap.size, 1, none⟩ = some (.int .i64 (n : Int)) ∧ w'.cell? ⟨wr.heap.size, 2, none⟩ = some (.string yt) ∧ w'.cell? ⟨wr.heap.size, 3, none⟩ = some (.int .i64 yv) ∧ BX u1 w') := Lib.hid (fun w' h => by
          obtain ⟨z0, z1, z2, z3, _⟩ := four_on BX1.out (bx_below h)
          exact ⟨z0, z1, z2, z3, h⟩)
        refine wp_region_held_drew (S := fun w' => w'.cell? ⟨wr.heap.size, 0, none⟩ = some (.int .i64 yk) ∧ w'.cell? ⟨wr.heap.size, 1, none⟩ = some (.int .i64 (n : Int)) ∧ w'.cell? ⟨wr.heap.size, 2, none⟩ = some (.string yt) ∧ w'.cell? ⟨wr.heap.size, 3, none⟩ = some (.int .i64 yv) ∧ BX u1 w') (by kernel_rfl) ?_ (fun hHeld => ?_)
        · (try dsimp only)
          (first | (go_split_ands; refine HQ.out _ ?_; repeat' (with_reducible first | exact BX.drew0 _ | exact BX.refl _ | assumption | refine BX.call' (by assumption) ?_ | refine BX.drew ?_)))
        refine held_take (i := 0) (d := 177) (v := ?_) rfl rfl (by kernel_rfl) (by kernel_rfl) (by kernel_rfl) (fun _ _ _ h => h) (by rfl) ?_ (by assumption) ?_
        rotate_left
        · intro w hSw
          (try dsimp only at hSw)
          go_simp
          try with_reducible rfl
        try simp only [Act.put, List.setIfInBounds_toArray, List.set_cons_zero, List.set_cons_succ]
        refine held_take (i := 1) (d := 178) (v := ?_) rfl rfl (by kernel_rfl) (by kernel_rfl) (by kernel_rfl) (fun _ _ _ h => h) (by rfl) ?_ (by assumption) ?_
        rotate_left
        · intro w hSw
          (try dsimp only at hSw)
          go_simp
          try with_reducible rfl
        try simp only [Act.put, List.setIfInBounds_toArray, List.set_cons_zero, List.set_cons_succ]
        refine held_take (i := 2) (d := 179) (v := ?_) rfl rfl (by kernel_rfl) (by kernel_rfl) (by kernel_rfl) (fun _ _ _ h => h) (by rfl) ?_ (by assumption) ?_
        rotate_left
        · intro w hSw
          (try dsimp only at hSw)
          go_simp
          try with_reducible rfl
        try simp only [Act.put, List.setIfInBounds_toArray, List.set_cons_zero, List.set_cons_succ]
        refine held_take (i := 3) (d := 180) (v := ?_) rfl rfl (by kernel_rfl) (by kernel_rfl) (by kernel_rfl) (fun _ _ _ h => h) (by rfl) ?_ (by assumption) ?_
        rotate_left
        · intro w hSw
          (try dsimp only at hSw)
          go_simp
          try with_reducible rfl
        try simp only [Act.put, List.setIfInBounds_toArray, List.set_cons_zero, List.set_cons_succ]
        refine held_take (i := 4) (d := 181) (v := ?_) rfl rfl (by kernel_rfl) (by kernel_rfl) (by kernel_rfl) (fun _ _ _ h => h) (by rfl) ?_ (by assumption) ?_
        rotate_left
        · intro w hSw
          (try dsimp only at hSw)
          go_simp
          try with_reducible rfl
        try simp only [Act.put, List.setIfInBounds_toArray, List.set_cons_zero, List.set_cons_succ]
        refine held_take (i := 5) (d := 182) (v := ?_) rfl rfl (by kernel_rfl) (by kernel_rfl) (by kernel_rfl) (fun _ _ _ h => h) (by rfl) ?_ (by assumption) ?_
        rotate_left
        · intro w hSw
          (try dsimp only at hSw)
          go_simp
          try with_reducible rfl
        try simp only [Act.put, List.setIfInBounds_toArray, List.set_cons_zero, List.set_cons_succ]
        refine held_take (i := 6) (d := 183) (v := ?_) rfl rfl (by kernel_rfl) (by kernel_rfl) (by kernel_rfl) (fun _ _ _ h => h) (by rfl) ?_ (by assumption) ?_
        rotate_left
        · intro w hSw
          (try dsimp only at hSw)
          go_simp
          try with_reducible rfl
        try simp only [Act.put, List.setIfInBounds_toArray, List.set_cons_zero, List.set_cons_succ]
        refine held_take (i := 7) (d := 184) (v := ?_) rfl rfl (by kernel_rfl) (by kernel_rfl) (by kernel_rfl) (fun _ _ _ h => h) (by rfl) ?_ (by assumption) ?_
        rotate_left
        · intro w hSw
          (try dsimp only at hSw)
          go_simp
          try with_reducible rfl
        try simp only [Act.put, List.setIfInBounds_toArray, List.set_cons_zero, List.set_cons_succ]
        refine held_take (i := 8) (d := 185) (v := ?_) rfl rfl (by kernel_rfl) (by kernel_rfl) (by kernel_rfl) (fun _ _ _ h => h) (by rfl) ?_ (by assumption) ?_
        rotate_left
        · intro w hSw
          (try dsimp only at hSw)
          go_simp
          try with_reducible rfl
        try simp only [Act.put, List.setIfInBounds_toArray, List.set_cons_zero, List.set_cons_succ]
        refine held_take (i := 9) (d := 186) (v := ?_) rfl rfl (by kernel_rfl) (by kernel_rfl) (by kernel_rfl) (fun _ _ _ h => h) (by rfl) ?_ (by assumption) ?_
        rotate_left
        · intro w hSw
          (try dsimp only at hSw)
          go_simp
          try with_reducible rfl
        try simp only [Act.put, List.setIfInBounds_toArray, List.set_cons_zero, List.set_cons_succ]
        refine wpAnyH_ready (rs := [10]) (by kernel_rfl) (by simp) ?_
        refine AllReadyH.cons rfl (fun K' hK => ?_) AllReadyH.nil
        go_simp
        (go_split_ands; (with_reducible refine (HGT.out _ (Lib.hid (TU.out.below (bx_below (by assumption))))).mono ?_); rintro e u2 ⟨rfl, b2⟩)
        refine hK.out _ _ ?_ (fun hHeld => ?_)
        · (try dsimp only)
          (first | (go_split_ands; refine HQ.out _ ?_; repeat' (with_reducible first | exact BX.drew0 _ | exact BX.refl _ | assumption | refine BX.call' (by assumption) ?_ | refine BX.drew ?_)))
        clear hK K'
        try simp only [Act.put, List.setIfInBounds_toArray, List.set_cons_zero, List.set_cons_succ]
        refine held_take (i := 11) (d := 188) (v := ?_) rfl rfl (by kernel_rfl) (by kernel_rfl) (by kernel_rfl) (fun _ _ _ h => h) (by rfl) ?_ (by assumption) ?_
        rotate_left
        · intro w hSw
          (try dsimp only at hSw)
          go_simp
          try with_reducible rfl
        try simp only [Act.put, List.setIfInBounds_toArray, List.set_cons_zero, List.set_cons_succ]
        refine held_take (i := 12) (d := 189) (v := ?_) rfl rfl (by kernel_rfl) (by kernel_rfl) (by kernel_rfl) (fun _ _ _ h => h) (by rfl) ?_ (by assumption) ?_
        rotate_left
        · intro w hSw
          (try dsimp only at hSw)
          go_simp
          try with_reducible rfl
        try simp only [Act.put, List.setIfInBounds_toArray, List.set_cons_zero, List.set_cons_succ]
        refine held_take (i := 13) (d := 190) (v := ?_) rfl rfl (by kernel_rfl) (by kernel_rfl) (by kernel_rfl) (fun _ _ _ h => h) (by rfl) ?_ (by assumption) ?_
        rotate_left
        · intro w hSw
          (try dsimp only at hSw)
          go_simp
          try with_reducible rfl
        try simp only [Act.put, List.setIfInBounds_toArray, List.set_cons_zero, List.set_cons_succ]
        refine held_take (i := 14) (d := 191) (v := ?_) rfl rfl (by kernel_rfl) (by kernel_rfl) (by kernel_rfl) (fun _ _ _ h => h) (by rfl) ?_ (by assumption) ?_
        rotate_left
        · intro w hSw
          (try dsimp only at hSw)
          go_simp
          try with_reducible rfl
        try simp only [Act.put, List.setIfInBounds_toArray, List.set_cons_zero, List.set_cons_succ]
        refine held_take (i := 15) (d := 192) (v := ?_) rfl rfl (by kernel_rfl) (by kernel_rfl) (by kernel_rfl) (fun _ _ _ h => h) (by rfl) ?_ (by assumption) ?_
        rotate_left
        · intro w hSw
          (try dsimp only at hSw)
          go_simp
          try with_reducible rfl
        try simp only [Act.put, List.setIfInBounds_toArray, List.set_cons_zero, List.set_cons_succ]
        refine held_take (i := 16) (d := 193) (v := ?_) rfl rfl (by kernel_rfl) (by kernel_rfl) (by kernel_rfl) (fun _ _ _ h => h) (by rfl) ?_ (by assumption) ?_
        rotate_left
        · intro w hSw
          (try dsimp only at hSw)
          go_simp
          try with_reducible rfl
        try simp only [Act.put, List.setIfInBounds_toArray, List.set_cons_zero, List.set_cons_succ]
        refine held_take (i := 17) (d := 194) (v := ?_) rfl rfl (by kernel_rfl) (by kernel_rfl) (by kernel_rfl) (fun _ _ _ h => h) (by rfl) ?_ (by assumption) ?_
        rotate_left
        · intro w hSw
          (try dsimp only at hSw)
          go_simp
          try with_reducible rfl
        try simp only [Act.put, List.setIfInBounds_toArray, List.set_cons_zero, List.set_cons_succ]
        refine held_take (i := 18) (d := 195) (v := ?_) rfl rfl (by kernel_rfl) (by kernel_rfl) (by kernel_rfl) (fun _ _ _ h => h) (by rfl) ?_ (by assumption) ?_
        rotate_left
        · intro w hSw
          (try dsimp only at hSw)
          go_simp
          try with_reducible rfl
        try simp only [Act.put, List.setIfInBounds_toArray, List.set_cons_zero, List.set_cons_succ]
        refine held_take (i := 19) (d := 196) (v := ?_) rfl rfl (by kernel_rfl) (by kernel_rfl) (by kernel_rfl) (fun _ _ _ h => h) (by rfl) ?_ (by assumption) ?_
        rotate_left
        · intro w hSw
          (try dsimp only at hSw)
          go_simp
          try with_reducible rfl
        try simp only [Act.put, List.setIfInBounds_toArray, List.set_cons_zero, List.set_cons_succ]
        refine held_take (i := 20) (d := 197) (v := ?_) rfl rfl (by kernel_rfl) (by kernel_rfl) (by kernel_rfl) (fun _ _ _ h => h) (by rfl) ?_ (by assumption) ?_
        rotate_left
        · intro w hSw
          (try dsimp only at hSw)
          go_simp
          try with_reducible rfl
        try simp only [Act.put, List.setIfInBounds_toArray, List.set_cons_zero, List.set_cons_succ]
        refine held_take (i := 21) (d := 198) (v := ?_) rfl rfl (by kernel_rfl) (by kernel_rfl) (by kernel_rfl) (fun _ _ _ h => h) (by rfl) ?_ (by assumption) ?_
        rotate_left
        · intro w hSw
          (try dsimp only at hSw)
          go_simp
          try with_reducible rfl
        try simp only [Act.put, List.setIfInBounds_toArray, List.set_cons_zero, List.set_cons_succ]
        refine held_take (i := 22) (d := 199) (v := ?_) rfl rfl (by kernel_rfl) (by kernel_rfl) (by kernel_rfl) (fun _ _ _ h => h) (by rfl) ?_ (by assumption) ?_
        rotate_left
        · intro w hSw
          (try dsimp only at hSw)
          go_simp
          try with_reducible rfl
        try simp only [Act.put, List.setIfInBounds_toArray, List.set_cons_zero, List.set_cons_succ]
        refine held_take (i := 23) (d := 200) (v := ?_) rfl rfl (by kernel_rfl) (by kernel_rfl) (by kernel_rfl) (fun _ _ _ h => h) (by rfl) ?_ (by assumption) ?_
        rotate_left
        · intro w hSw
          (try dsimp only at hSw)
          go_simp
          (rw [HWR.out, HSL]; rfl)
        try simp only [Act.put, List.setIfInBounds_toArray, List.set_cons_zero, List.set_cons_succ]
        refine held_take (i := 24) (d := 201) (v := ?_) rfl rfl (by kernel_rfl) (by kernel_rfl) (by kernel_rfl) (fun _ _ _ h => h) (by rfl) ?_ (by assumption) ?_
        rotate_left
        · intro w hSw
          (try dsimp only at hSw)
          go_simp
          try with_reducible rfl
        try simp only [Act.put, List.setIfInBounds_toArray, List.set_cons_zero, List.set_cons_succ]
        refine held_take (i := 25) (d := 202) (v := ?_) rfl rfl (by kernel_rfl) (by kernel_rfl) (by kernel_rfl) (fun _ _ _ h => h) (by rfl) ?_ (by assumption) ?_
        rotate_left
        · intro w hSw
          (try dsimp only at hSw)
          go_simp
          try with_reducible rfl
        try simp only [Act.put, List.setIfInBounds_toArray, List.set_cons_zero, List.set_cons_succ]
        refine held_take (i := 26) (d := 203) (v := ?_) rfl rfl (by kernel_rfl) (by kernel_rfl) (by kernel_rfl) (fun _ _ _ h => h) (by rfl) ?_ (by assumption) ?_
        rotate_left
        · intro w hSw
          (try dsimp only at hSw)
          go_simp
          try with_reducible rfl
        try simp only [Act.put, List.setIfInBounds_toArray, List.set_cons_zero, List.set_cons_succ]
        refine held_take (i := 27) (d := 204) (v := ?_) rfl rfl (by kernel_rfl) (by kernel_rfl) (by kernel_rfl) (fun _ _ _ h => h) (by rfl) ?_ (by assumption) ?_
        rotate_left
        · intro w hSw
          (try dsimp only at hSw)
          go_simp
          try with_reducible rfl
        try simp only [Act.put, List.setIfInBounds_toArray, List.set_cons_zero, List.set_cons_succ]
        refine wpAnyH_done (by kernel_rfl) ?_ _
        go_split_ands
        go_wp2_with fail
        go_meet
        exact ⟨rfl, by assumption⟩
      case rest =>
      obtain ⟨rfl, hb⟩ := hcut
      obtain ⟨z0, z1, z2, z3, z4⟩ := four_on BX1.out hb
      have BV := Lib.hid (HBL.out.trans ((BU.out.trans (hb.mono BU.out.size)).mono HBL.out.size))
      clear hb HSL BX1 TU BU
      go_wp2_with fail
      go_roundw
      case rel => exact ⟨k' + 1, n + yt.size, by omega, by go_num, by go_num, BV.out, EC⟩
      case measure => simp [intOf]; omega
    · have HTW := Lib.hid (HTL.out.below HBL.out)
      obtain ⟨c0, c1⟩ := F1.out.below HBL.out hz1
      rcases HWAY.out with ⟨rfl, e⟩ | ⟨h4, rfl, hf, rfl, hg⟩ | ⟨h4, rfl, rfl, hc⟩
      · injection e with e _ _
        subst e
        go_wp2_with fail
        go_ret
        exact ⟨rfl, T.out.trans (HBL.out.mono T.out.size)⟩
      · have f0 : (f == 0) = false := by simp [hf]
        have dg := is_le hg
        go_wp2_with fail
        go_ret
        exact ⟨rfl, T.out.trans (HBL.out.mono T.out.size)⟩
      · have HAG : Hid (spO s = true → ∀ w, Hid (Tabs w) → Calls Tryd.prog 17 #[.string s, .string (spR s)] w (SaysBB w true true) ∧ Calls Tryd.prog 15 #[.string (spR s)] w (SaysTB w (spR s) true)) := Lib.hid (fun ho w hT => by
          obtain ⟨a1, a2, a3, a4⟩ := sp_again ho
          have hm : smO s (spR s) = true := by unfold smR at a2; exact (Bool.and_eq_true_iff.1 a2).1
          have q1 := implSame_any s (spR s) w hT
          have q2 := implSpaced_any (spR s) w hT
          rw [a2, hm] at q1
          rw [a3, a4] at q2
          exact ⟨q1, q2⟩)
        have HSI := Lib.hid (fun w hT => implSpaced_any s w hT)
        have HSP := Lib.hid (fun w => specSpaced_any s w)
        obtain ⟨J, hJ⟩ : ∃ J, spR s = J := ⟨_, rfl⟩
        obtain ⟨o2, ho2⟩ : ∃ o2, spO s = o2 := ⟨_, rfl⟩
        rw [hJ, ho2] at HAG HSI HSP
        clear hJ ho2 hc
        go_wp2_with (go_at_call 15; refine (HSI.out _ HTW).mono ?_; rintro e u1 ⟨rfl, b⟩; have B1 := Lib.hid (HBL.out.trans (b.mono HBL.out.size)); clear b)
        go_wp2_with (go_at_call 16; refine (HSP.out _).mono ?_; rintro e u2 ⟨rfl, b⟩; have B2 := Lib.hid (B1.out.trans (b.mono B1.out.size)); clear b; refine Hid.out ?_)
        refine Lib.hid ?_
        cases o2
        · go_wp2_with fail
          go_ret
          exact ⟨rfl, T.out.trans (B2.out.mono T.out.size)⟩
        · have HQ := Lib.hid (HAG.out rfl)
          go_wp2_with (go_at_call 17; refine ((HQ.out _ (Lib.hid (HTL.out.below B2.out))).1).mono ?_; rintro e u3 ⟨rfl, b⟩; have B3 := Lib.hid (B2.out.trans (b.mono B2.out.size)); clear b)
          go_wp2_with (go_at_call 15; refine ((HQ.out _ (Lib.hid (HTL.out.below B3.out))).2).mono ?_; rintro e u4 ⟨rfl, b⟩; have B4 := Lib.hid (B3.out.trans (b.mono B3.out.size)); clear b)
          go_ret
          exact ⟨rfl, T.out.trans (B4.out.mono T.out.size)⟩
theorem walk (a0 : Option Addr) (len0 cap0 : Nat) (z0 : List Int) (a1 : Option Addr) (len1 cap1 : Nat) (z1 : List Int) (w : World) (w0 : IsRow .u8 w a0 len0 cap0 z0) (w1 : IsRow .u8 w a1 len1 cap1 z1) (hD : Tabs w) :
    Calls Tryd.prog 3 #[.slice a0 len0 cap0, .slice a1 len1 cap1] w fun e w' => e = .returned (.bool true) ∧ Below w.heap.size w w' := by
  obtain ⟨hm0, ys0, HL0, HI0⟩ := w0.view
  obtain ⟨hm1, ys1, HL1, HI1⟩ := w1.view
  unfold maxLen at hm0 hm1
  rcases Bool.eq_false_or_eq_true (decide ((1048576 : Int) < wrap64 ((len0 : Int) + len1))) with d | d
  · clear HL0 HI0 HL1 HI1 hm0 hm1
    go_enter Tryd.func3, Tryd.ntmps3
    go_wp2
    go_ret
    exact ⟨rfl, Below.refl _ _⟩
  · exact walk_in a0 a1 len0 len1 cap0 cap1 ys0 ys1 w (Lib.hid hD) HL0 HI0 HL1 HI1 (by omega) (by omega) d

theorem contract (H : Type) (enc : TypeId × Value → H) (W : World) (base : Nat) (args : Array Value) (ds gs : List (DataW H)) (before : List MemPlace)
    (hval : ∀ (j : Nat) t v, Tryd.f3.params[j]? = some t → args[j]? = some v → Value.okWide Tryd.prog W .any base t v)
    (hW : DataW.Whole enc Tryd.prog Tryd.f3.params.toList Rows.fnTokensSpec.vars false W args.toList ds gs before) (hL : laidMetH Tryd.prog Rows.fnTokensRow.laid W) :
    Calls Tryd.prog 3 args W fun e W' => ∃ v, e = .returned v ∧ Rows.fnTokensSpec.post enc Tryd.prog Tryd.f3 false true false false W args v W' := by
  have hW' := hW
  obtain ⟨p, q, hA0, hV, rfl, hfz, hnd⟩ := hW
  have hA : DataW.TrodAll enc Tryd.prog W 0 (fun _ => true) true Tryd.f3.params.toList args.toList ds p := hA0
  rw [Tryd.params3] at hA hval
  obtain ⟨v0, vs0, d0, ds0, p0, q0, hargs, rfl, rfl, h0, r0⟩ := trodAll_cons hA
  obtain ⟨v1, vs1, d1, ds1, p1, q1, rfl, rfl, rfl, h1, r1⟩ := trodAll_cons r0
  obtain ⟨rfl, rfl, rfl⟩ := trodAll_nil r1
  obtain rfl : args = #[v0, v1] := by cases args; simp_all
  have hV2 := hV
  obtain ⟨dV0, dV1, dV2, dV3, rfl⟩ := trodVars_four hV
  obtain ⟨a0, len0, cap0, rfl⟩ := okWide_slice Tryd.underlying22 (hval 0 22 v0 rfl rfl)
  have k0 := h0
  have lt0 : ∀ x ∈ p0, x.block < W.heap.size := by obtain ⟨m, hm⟩ := k0; exact DataW.trod_lt m _ _ _ hm
  obtain ⟨z0, w0⟩ : ∃ zs, IsRow .u8 W a0 len0 cap0 zs := by
    obtain ⟨fuel, hf⟩ := h0
    rcases open_ints Tryd.underlying22 Tryd.underlying5 (by kernel_rfl) hf with ⟨hcs, _⟩ | ⟨x, l, c, zs, hcs, _, hl, hm, hz, _, hcell, hwz⟩
    · simp [Value.cells] at hcs
      obtain ⟨rfl, rfl, rfl⟩ := hcs
      exact ⟨[], .inl ⟨rfl, rfl, rfl, rfl⟩⟩
    · simp [Value.cells] at hcs
      obtain ⟨rfl, rfl, rfl⟩ := hcs
      exact ⟨zs, .inr ⟨_, rfl, hl, hm, by simpa using hz, hcell, hwz⟩⟩
  obtain ⟨a1, len1, cap1, rfl⟩ := okWide_slice Tryd.underlying22 (hval 1 22 v1 rfl rfl)
  have k1 := h1
  have lt1 : ∀ x ∈ p1, x.block < W.heap.size := by obtain ⟨m, hm⟩ := k1; exact DataW.trod_lt m _ _ _ hm
  obtain ⟨z1, w1⟩ : ∃ zs, IsRow .u8 W a1 len1 cap1 zs := by
    obtain ⟨fuel, hf⟩ := h1
    rcases open_ints Tryd.underlying22 Tryd.underlying5 (by kernel_rfl) hf with ⟨hcs, _⟩ | ⟨x, l, c, zs, hcs, _, hl, hm, hz, _, hcell, hwz⟩
    · simp [Value.cells] at hcs
      obtain ⟨rfl, rfl, rfl⟩ := hcs
      exact ⟨[], .inl ⟨rfl, rfl, rfl, rfl⟩⟩
    · simp [Value.cells] at hcs
      obtain ⟨rfl, rfl, rfl⟩ := hcs
      exact ⟨zs, .inr ⟨_, rfl, hl, hm, by simpa using hz, hcell, hwz⟩⟩
  clear hA0
  refine (walk a0 len0 cap0 z0 a1 len1 cap1 z1 W w0 w1 ⟨(dig_of_head hL), (units_of_head (laidMet.tail hL)), (kwt_of_head (laidMet.tail (laidMet.tail hL))), (sgt_of_head (laidMet.tail (laidMet.tail (laidMet.tail hL))))⟩).mono fun e W' ⟨he, bel⟩ => ?_
  subst he
  exact ⟨_, rfl, _, _, _, [], _, _, hW', trodAll_mk1 (shut_bool Tryd.underlying4 _), (trodAll_cons_mk (Below.trod laidOut (by kernel_rfl) (of_decide_eq_true (by kernel_rfl)) k0 bel lt0) (trodAll_cons_mk (Below.trod laidOut (by kernel_rfl) (of_decide_eq_true (by kernel_rfl)) k1 bel lt1) trodAll_mk0)), Below.trodVars laidOut bel (by kernel_rfl) hV2, bel.frame _, fun h => by cases h⟩

theorem laid_met (os : Os) : laidMet Tryd.prog Rows.fnTokensRow.laid ((laidWorld3 os).forCall (fun _ _ => 0) ⟨#[], #[.slice none 0 0, .slice none 0 0], []⟩).memory :=
  laidMet_of_run' 8 (by kernel_rfl) (by kernel_rfl)
theorem reads (os : Os) {H : Type} (enc : TypeId × Value → H) : ∃ places, DataW.whole enc Tryd.prog ((laidWorld3 os).forCall (fun _ _ => 0) ⟨#[], #[.slice none 0 0, .slice none 0 0], []⟩).memory Tryd.f3.params.toList Rows.fnTokensSpec.vars false (#[.slice none 0 0, .slice none 0 0] : Array Value).toList 8 = some ([.nil, .nil], [Rows.laid_loop_example_g00838_impl_signs, Rows.laid_loop_example_g00838_impl_digits, Rows.laid_loop_example_g00838_impl_units, Rows.laid_loop_example_g00838_impl_keyWords], places) :=
  ⟨[.cell 0 0, .cell 0 1, .cell 0 2, .cell 0 3, .cell 0 4, .cell 0 5, .cell 2 0, .cell 2 1, .cell 3 0, .cell 3 1, .cell 3 2, .cell 3 3, .cell 1 0, .cell 1 1, .cell 1 2, .cell 1 3, .cell 1 4, .cell 1 5, .cell 1 6, .cell 1 7, .cell 1 8, .cell 1 9, .cell 1 10, .cell 1 11, .cell 1 12, .cell 1 13], by kernel_rfl⟩

set_option maxRecDepth 100000 in
theorem lifted (os : Os) (started : os.Started) (H : Type) (enc : TypeId × Value → H) (F : Stop.Interp) :
    ReturnsInHanded {} Tryd.checked os 3 .any ((OpenSpec.ofChange Rows.fnTokensSpec).preRow enc Tryd.prog Tryd.f3 Rows.fnTokensRow.domain false Rows.fnTokensRow.laid) (((OpenSpec.ofChange Rows.fnTokensSpec).at F).post enc Tryd.prog Tryd.f3 false true false false) := by
  obtain ⟨places, hx⟩ := reads os enc
  refine returnsInHanded_of_row (C := Tryd.checked) (s := OpenSpec.ofChange Rows.fnTokensSpec) own started (by kernel_rfl) Tryd.func3
    (witness_row_at (enc := enc) (C := Tryd.checked) false (laidWorld3 os) #[.slice none 0 0, .slice none 0 0] rfl (by kernel_rfl) (by kernel_rfl) (by kernel_rfl)
      (OpenSpec.preRow_of_cond 8 hx (by kernel_rfl) (fun k hk => by cases hk) (by kernel_rfl) (laid_met os))) ?_
  intro W base args ds gs before hval hW _ _ _ hL _ _
  exact contract H enc W base args ds gs before hval hW hL

theorem said : Rows.FnTokensSaid :=
  OpenClaim.holds_of_cond 3 Tryd.f3 rfl rfl rfl rfl rfl rfl rfl ⟨rfl, rfl, rfl, rfl, rfl⟩ rfl rfl rfl rfl rfl (by kernel_rfl) Tryd.func3 (by kernel_rfl)
    (of_decide_eq_true (by kernel_rfl)) (by unfold Func.isWrapper; first | (rw [if_pos (by decide +kernel)]; kernel_rfl) | (rw [if_neg (by decide +kernel)]; exact ⟨rfl, rfl⟩))
    (fun os started H enc _ F => by rw [OpenClaim.pre_eq_preRow]; exact lifted os started H enc F)

theorem plain (f : FuncId) (fn : Func) (hf : Tryd.pinned.checked.prog.funcNamed "loop.example/g00838/laws.FnTokens" = some f) (hfn : Tryd.pinned.checked.prog.funcs[f]? = some fn) :
    false = Tryd.pinned.checked.prog.looks [] ∧ ∀ (j : Nat) t, fn.params[j]? = some t → Tryd.pinned.checked.prog.wantsStandIn t = false := by
  obtain rfl : f = 3 := Option.some.inj ((show Tryd.prog.funcNamed "loop.example/g00838/laws.FnTokens" = some 3 by kernel_rfl).symm.trans hf) |>.symm
  obtain rfl : fn = Tryd.f3 := (Option.some.inj (Tryd.func3.symm.trans hfn)).symm
  refine ⟨by kernel_rfl, fun j t ht => ?_⟩
  rw [Tryd.params3] at ht
  have hm : t ∈ [22, 22] := by simpa using Array.mem_of_getElem? ht
  have hall : ([22, 22].all fun u => !Tryd.prog.wantsStandIn u) = true := by kernel_rfl
  exact (show Tryd.prog.wantsStandIn t = false by simpa using List.all_eq_true.1 hall t hm)

theorem proved : Rows.FnTokensCardSaid :=
  Claim7.holds_tied_plain_at .later [] _ _ _ _ said (fun _ h => by cases h) (by kernel_rfl) (fun _ h => by cases h) fnTokens_row_tie rfl ⟨rfl, rfl⟩ (by kernel_rfl) rfl plain (by kernel_rfl)
end Go.Proofs.YtdmcgjohpnojkaaDoor.fnTokens
