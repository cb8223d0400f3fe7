/- Tokens of a text: contracts of TokensOf, program and model. -/
import Derived.Test.YtdmcgjohpnojkaaDoorTkc
namespace Go.Proofs.YtdmcgjohpnojkaaDoor
set_option maxRecDepth 100000
open Go.RowKit

/-- a list of tokens of the call's own, a fault, and whether there is an answer -/
def SaysL3 (w : World) (R : TkRes) (ok : Bool) (e : Ending) (w' : World) : Prop :=
  ∃ v, e = .returned (.tuple #[v, .agg #[.int .i64 R.f, .int .i64 R.g], .bool ok]) ∧ OwnK w' w.heap.size v R.l.length R.l ∧ Below w.heap.size w w'
/-- what TokensOf answers -/
def tkT (s : ByteArray) : TkRes := if s.size ≤ 4000 then tkL s else ⟨[], 0, 0⟩
def tkO (s : ByteArray) : Bool := decide (s.size ≤ 4000)
theorem tkT_yes {s : ByteArray} (h : s.size ≤ 4000) : tkT s = tkL s ∧ tkO s = true := ⟨if_pos h, decide_eq_true h⟩
theorem tkT_no {s : ByteArray} (h : ¬ s.size ≤ 4000) : tkT s = ⟨[], 0, 0⟩ ∧ tkO s = false := ⟨if_neg h, decide_eq_false h⟩
theorem ixB_yes {s : ByteArray} {k : Nat} (hs : (s.size : Int) ≤ 4000) (hk : k ≤ s.size) : ixB s (k : Int) = true := by unfold ixB; simp; omega
theorem read21 {w1 : World} {b : Nat} {x0 x1 : Value} (h0 : w1.cell? ⟨b, 0, none⟩ = some x0) (h1 : w1.cell? ⟨b, 1, none⟩ = some x1) (hz : b < w1.heap.size) (v0 v1 : Value) (o : Obj) :
    (((w1.setCell ⟨b, 0, none⟩ v0).setCell ⟨b, 1, none⟩ v1).alloc o).cell? ⟨b, 0, none⟩ = some v0 ∧ (((w1.setCell ⟨b, 0, none⟩ v0).setCell ⟨b, 1, none⟩ v1).alloc o).cell? ⟨b, 1, none⟩ = some v1 := by
  have hx := one_new2 ((w1.setCell ⟨b, 0, none⟩ v0).setCell ⟨b, 1, none⟩ v1) o
  have hs : b < ((w1.setCell ⟨b, 0, none⟩ v0).setCell ⟨b, 1, none⟩ v1).heap.size := by simpa using hz
  refine ⟨((hx.cell (p := ⟨b, 0, none⟩) hs)).trans ?_, ((hx.cell (p := ⟨b, 1, none⟩) hs)).trans ?_⟩ <;> simp [go_sem, World.cell?_setCell_other, World.cell?_setCell_same', h0, h1]
theorem OwnK.drew {w : World} {B n : Nat} {v : Value} {l : List Tok} (h : OwnK w B v n l) : OwnK w.drew B v n l := h
theorem specTokensOf_no (s : ByteArray) (w : World) (h : (4000 : Int) < s.size) :
    Calls Tryd.prog 7 #[.string s] w (SaysL3 w ⟨[], 0, 0⟩ false) := by
  go_enter Tryd.func7, Tryd.ntmps7
  go_wp2_with (go_at_call 36; refine (scBytes_false _ _ h).mono ?_; rintro e w' ⟨rfl, rfl⟩)
  exact bodyPost_ret (v := .tuple #[.slice none 0 0, .agg #[.int .i64 0, .int .i64 0], .bool false]) (by simp [results, Tryd.results7, go_sem]) rfl ⟨.slice none 0 0, rfl, OwnK.nil _ _, one_new2 _ _⟩
set_option maxHeartbeats 1600000 in
theorem specTokensOf_go (s : ByteArray) (w : World) (h : (s.size : Int) ≤ 4000) :
    Calls Tryd.prog 7 #[.string s] w (SaysL3 w (tkL s) true) := by
  have HA := Lib.hid (fun w => tkAll_any s w (by omega))
  obtain ⟨R, hR⟩ : ∃ R, tkL s = R := ⟨_, rfl⟩
  rw [hR] at HA ⊢
  clear hR
  obtain ⟨l, f, g⟩ := R
  obtain ⟨W0, hW0⟩ : ∃ W0, w.alloc (.cells #[.int .i64 0, .int .i64 0] 26) = W0 := ⟨_, rfl⟩
  have HZ : Hid (w.heap.size < W0.heap.size) := Lib.hid (by rw [← hW0]; simp)
  have HW := Lib.hid hW0
  clear hW0
  go_enter Tryd.func7, Tryd.ntmps7
  go_wp2_with (go_at_call 36; refine (scBytes_true _ _ h).mono ?_; rintro e w' ⟨rfl, rfl⟩)
  rw [HW.out]
  go_wp2_with (go_at_call 37; refine (HA.out _).mono ?_; rintro e w1 ⟨v, rfl, o1, b1⟩; obtain ⟨p0, p1, p2, p3, hz, bb⟩ := loop_facts HW.out b1; have B1 := Lib.hid bb; have P1 := Lib.hid (show _ ∧ _ from ⟨p0, p1⟩); have O1 := Lib.hid o1; clear b1 bb o1)
  go_region
  all_goals
    go_wp2
    have r2 := read21 P1.out.1 P1.out.2 hz (.int .i64 f) (.int .i64 g) (.cells #[.int .i64 f, .int .i64 g] 26)
    exact bodyPost_ret (v := .tuple #[v, .agg #[.int .i64 f, .int .i64 g], .bool true]) (by simp [results, Tryd.results7, go_sem, r2.1, r2.2]) rfl ⟨v, rfl, OwnK.base (World.ownsRow.alloc (O1.out.sets HZ.out) _) (Nat.le_of_lt HZ.out), below_drewN (((B1.out.setCell (Nat.le_refl _) _).setCell (Nat.le_refl _) _).alloc (by simpa using Nat.le_of_lt hz) _) 1⟩
theorem specTokensOf_any (s : ByteArray) (w : World) : Calls Tryd.prog 7 #[.string s] w (SaysL3 w (tkT s) (tkO s)) := by
  by_cases h : s.size ≤ 4000
  · rw [(tkT_yes h).1, (tkT_yes h).2]; exact specTokensOf_go s w (by omega)
  · rw [(tkT_no h).1, (tkT_no h).2]; exact specTokensOf_no s w (by omega)
theorem implTokensOf_no (s : ByteArray) (w : World) (h : (4000 : Int) < s.size) :
    Calls Tryd.prog 6 #[.string s] w (SaysL3 w ⟨[], 0, 0⟩ false) := by
  go_enter Tryd.func6, Tryd.ntmps6
  go_wp2_with (go_at_call 35; refine (isText_false _ _ h).mono ?_; rintro e w' ⟨rfl, rfl⟩)
  exact bodyPost_ret (v := .tuple #[.slice none 0 0, .agg #[.int .i64 0, .int .i64 0], .bool false]) (by simp [results, Tryd.results6, go_sem]) rfl ⟨.slice none 0 0, rfl, OwnK.nil _ _, one_new2 _ _⟩
set_option maxHeartbeats 6400000 in
theorem implTokensOf_go (s : ByteArray) (w : World) (hs : (s.size : Int) ≤ 4000) (hT : Hid (Tabs w)) :
    Calls Tryd.prog 6 #[.string s] w (SaysL3 w (tkL s) true) := by
  have hs2 : s.size ≤ 1048576 := by omega
  obtain ⟨i0, hi, hz0, hz1, hz2⟩ := info_parts infoTok
  obtain ⟨R, hR⟩ : ∃ R, tkL s = R := ⟨_, rfl⟩
  have H0 : Hid (tkGo s (600 + 1) 0 [] = R) := Lib.hid hR
  rw [hR]
  clear hR
  go_enter Tryd.func6, Tryd.ntmps6
  go_wp2_with (go_at_call 35; refine (isText_true _ _ hs).mono ?_; rintro e w' ⟨rfl, rfl⟩)
  obtain ⟨W0, hW0⟩ : ∃ W0, w.alloc (.cells #[.int .i64 0, .int .i64 0] 26) = W0 := ⟨_, rfl⟩
  rw [hW0]
  have HT0 : Hid (Tabs W0) := Lib.hid (by rw [← hW0]; exact hT.out.below (one_new2 _ _))
  have HZ : Hid (w.heap.size < W0.heap.size) := Lib.hid (by rw [← hW0]; simp)
  go_loopw [5, 6] (fun v i wr => AllRel s W0 R v i wr) (fun v _ _ => 601 - sliceLen v)
  case atStart => exact ⟨600, 0, 0, [], none, 0, rfl, Nat.zero_le _, rfl, rfl, OwnK.nil _ _, Below.refl _ _, H0⟩
  case round =>
    obtain ⟨m, k, n, acc, ad, c, hmn, hk, rfl, rfl, ho, hb, HG⟩ := hrel
    have HO := Lib.hid ho
    have HB := Lib.hid hb
    have HTr := Lib.hid (HT0.out.below hb)
    clear ho hb
    rcases tkA_way s k hk with ⟨q, f, g, hf, e⟩ | ⟨q, e⟩ | ⟨kk, a, t, v, q, hkk, hq, e⟩
    · have HR := Lib.hid (go_fault HG.out e hf)
      have HA : Hid (∀ w, Hid (Tabs w) → Calls Tryd.prog 9 #[.string s, .int .i64 k] w (SaysV w (.tuple #[.agg #[.int .i64 0, .int .i64 0, .string ⟨#[]⟩, .int .i64 0], .int .i64 q, .agg #[.int .i64 f, .int .i64 g], .bool true]))) := Lib.hid (fun w hT => by
        have := implTokenAt_any s k w hs2 hT
        rw [taV_yes (ixB_yes hs hk), e] at this
        exact this)
      have df : (f != 0) = true := by simpa using hf
      clear e hf
      go_wp2_with (go_at_call 9; refine (HA.out _ HTr).mono ?_; rintro e w1 ⟨rfl, b1⟩; obtain ⟨p0, p1, p2, p3, hz, bb⟩ := loop_facts hW0 (HB.out.trans (b1.mono HB.out.size)); have B1 := Lib.hid bb; have P1 := Lib.hid (show _ ∧ _ from ⟨p0, p1⟩); clear b1 bb)
      go_region
      all_goals
        go_wp2
        have r2 := read2 P1.out.1 P1.out.2 hz (.int .i64 f) (.int .i64 g) (.cells #[.int .i64 0, .int .i64 0, .string ⟨#[]⟩, .int .i64 0] 32) (.cells #[.int .i64 f, .int .i64 g] 26)
        refine bodyPost_ret (v := .tuple #[.slice none 0 0, .agg #[.int .i64 f, .int .i64 g], .bool true]) (by simp [results, Tryd.results6, go_sem, r2.1, r2.2]) rfl ⟨.slice none 0 0, ?_, ?_, below_drewN ((((B1.out.setCell (Nat.le_refl _) _).setCell (Nat.le_refl _) _).alloc (by simpa using Nat.le_of_lt hz) _).alloc (by simp; omega) _) 1⟩
        · rw [HR.out]
        · rw [HR.out]; exact OwnK.nil _ _
    · have HR := Lib.hid (go_stop HG.out e)
      have HA : Hid (∀ w, Hid (Tabs w) → Calls Tryd.prog 9 #[.string s, .int .i64 k] w (SaysV w (.tuple #[.agg #[.int .i64 0, .int .i64 0, .string ⟨#[]⟩, .int .i64 0], .int .i64 q, .agg #[.int .i64 0, .int .i64 0], .bool true]))) := Lib.hid (fun w hT => by
        have := implTokenAt_any s k w hs2 hT
        rw [taV_yes (ixB_yes hs hk), e] at this
        exact this)
      clear e
      go_wp2_with (go_at_call 9; refine (HA.out _ HTr).mono ?_; rintro e w1 ⟨rfl, b1⟩; obtain ⟨p0, p1, p2, p3, hz, bb⟩ := loop_facts hW0 (HB.out.trans (b1.mono HB.out.size)); have B1 := Lib.hid bb; have P1 := Lib.hid (show _ ∧ _ from ⟨p0, p1⟩); have O1 := Lib.hid (HO.out.below b1 (Nat.le_refl _)); clear b1 bb)
      have r2 := read2 P1.out.1 P1.out.2 hz (.int .i64 0) (.int .i64 0) (.cells #[.int .i64 0, .int .i64 0, .string ⟨#[]⟩, .int .i64 0] 32) (.cells #[.int .i64 0, .int .i64 0] 26)
      refine bodyPost_ret (v := .tuple #[.slice ad n c, .agg #[.int .i64 0, .int .i64 0], .bool true]) (by simp [results, Tryd.results6, go_sem, r2.1, r2.2]) rfl ⟨.slice ad n c, ?_, ?_, ((((B1.out.setCell (Nat.le_refl _) _).setCell (Nat.le_refl _) _).alloc (by simpa using Nat.le_of_lt hz) _).alloc (by simp; omega) _)⟩
      · rw [HR.out]
      · rw [HR.out]
        show OwnK _ _ _ acc.length acc
        rw [O1.out.len]
        exact (O1.out.sets HZ.out).two (Nat.le_of_lt HZ.out) _ _
    · have HA : Hid (∀ w, Hid (Tabs w) → Calls Tryd.prog 9 #[.string s, .int .i64 k] w (SaysV w (.tuple #[.agg #[.int .i64 kk, .int .i64 a, .string t, .int .i64 v], .int .i64 q, .agg #[.int .i64 0, .int .i64 0], .bool true]))) := Lib.hid (fun w hT => by
        have := implTokenAt_any s k w hs2 hT
        rw [taV_yes (ixB_yes hs hk), e] at this
        exact this)
      have dk : (kk == 0) = false := by simpa using hkk
      by_cases hn : n = 600
      · have HR := Lib.hid (go_full HG.out e hkk (HO.out.len.trans hn))
        have dn : ((n : Int) == 600) = true := by simp; omega
        clear e hkk
        go_wp2_with (go_at_call 9; refine (HA.out _ HTr).mono ?_; rintro e w1 ⟨rfl, b1⟩; obtain ⟨p0, p1, p2, p3, hz, bb⟩ := loop_facts hW0 (HB.out.trans (b1.mono HB.out.size)); have B1 := Lib.hid bb; have P1 := Lib.hid (show _ ∧ _ from ⟨p0, p1⟩); clear b1 bb)
        go_region
        all_goals
          go_wp2
          have r2 := read2 P1.out.1 P1.out.2 hz (.int .i64 5) (.int .i64 a) (.cells #[.int .i64 kk, .int .i64 a, .string t, .int .i64 v] 32) (.cells #[.int .i64 0, .int .i64 0] 26)
          refine bodyPost_ret (v := .tuple #[.slice none 0 0, .agg #[.int .i64 5, .int .i64 a], .bool true]) (by simp [results, Tryd.results6, go_sem, r2.1, r2.2]) rfl ⟨.slice none 0 0, ?_, ?_, below_drewN ((((B1.out.setCell (Nat.le_refl _) _).setCell (Nat.le_refl _) _).alloc (by simpa using Nat.le_of_lt hz) _).alloc (by simp; omega) _) 1⟩
          · rw [HR.out]
          · rw [HR.out]; exact OwnK.nil _ _
      · have HR := Lib.hid (fun m' (hm : m = m' + 1) => go_more (R := R) (m := m' + 1) (by rw [← hm]; exact HG.out) e hkk (by rw [HO.out.len]; exact hn))
        have dn : ((n : Int) == 600) = false := by simp; omega
        clear e hkk
        have hn6 : n < 600 := by omega
        go_wp2_with (first | (go_at_call 9; refine (HA.out _ HTr).mono ?_; rintro e w1 ⟨rfl, b1⟩; have B1 := Lib.hid (HB.out.trans (b1.mono HB.out.size)); have O1 := Lib.hid (HO.out.below b1 (Nat.le_refl _)); clear b1) | (at_builtin; refine wpList_append_own _ rfl _ _ 24 rfl W0.heap.size 32 i0 (.agg #[.int .i64 0, .int .i64 0, .string ⟨#[]⟩, .int .i64 0]) 4 40 Tryd.underlying24 hi hz0 hz1 hz2 rfl (by decide) _ _ _ rfl (World.ownsRow.alloc (World.ownsRow.alloc (World.ownsRow.alloc (w := w1) O1.out _) _) _) ⟨w1.heap.size + 1 + 1, 0, none⟩ 1 1 [.int .i64 kk, .int .i64 a, .string t, .int .i64 v] rfl rfl (new4 w1 _ _ _ _ _ _ _) (one4 _ _ _ _) ?_ ?_ (three_size w1 _ _ _ _ B1.out.size) ?_; (unfold maxLen; omega); omega; intro v' w3 hown1 hgrow1 _; have RR := Lib.hid (OwnK.snoc (wr := w1) (x := ⟨kk, a, t, v⟩) O1.out B1.out (three_new w1 _ _ _) hown1 B1.out.size hgrow1); clear hown1 hgrow1))
        obtain ⟨m', rfl⟩ : ∃ m', m = m' + 1 := ⟨m - 1, by omega⟩
        obtain ⟨g', cap', hv'⟩   := RR.out.1.form (Nat.succ_pos _)
        have HV := Lib.hid hv'
        clear hv'
        go_roundw
        case rel => exact ⟨m', q, n + 1, acc ++ [⟨kk, a, t, v⟩], some ⟨g', 0, none⟩, cap', by omega, hq, rfl, HV.out, RR.out.1, RR.out.2, Lib.hid (HR.out m' rfl)⟩
        case measure => rw [HV.out]; simp [sliceLen]; omega
theorem implTokensOf_any (s : ByteArray) (w : World) (hT : Hid (Tabs w)) : Calls Tryd.prog 6 #[.string s] w (SaysL3 w (tkT s) (tkO s)) := by
  by_cases h : s.size ≤ 4000
  · rw [(tkT_yes h).1, (tkT_yes h).2]; exact implTokensOf_go s w (by omega) hT
  · rw [(tkT_no h).1, (tkT_no h).2]; exact implTokensOf_no s w (by omega)
end Go.Proofs.YtdmcgjohpnojkaaDoor
