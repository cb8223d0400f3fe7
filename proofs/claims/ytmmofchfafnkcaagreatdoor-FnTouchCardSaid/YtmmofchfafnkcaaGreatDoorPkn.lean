import Derived.Test.YtmmofchfafnkcaaGreatDoorPkm
import Derived.Test.YtmmofchfafnkcaaGreatDoorPkj
import Derived.Deep.CutRange
/- What FnTouch draws of its bytes: tokens. -/
namespace Go.Proofs.YtmmofchfafnkcaaGreatDoor
set_option maxRecDepth 100000
open Go.RowKit
set_option linter.unusedVariables false

/-- a list of strings in block gl, each with a property -/
def StrsP (P : ByteArray → Prop) (w : World) (gl m : Nat) : Prop := ∀ i, i < m → ∃ x : ByteArray, P x ∧ w.cell? ⟨gl, i, none⟩ = some (.string x)
theorem StrsP.only {P : ByteArray → Prop} {w w' : World} {gl m g : Nat} (h : StrsP P w gl m) (ho : OnlyBlock g w w') (hg : gl ≠ g) : StrsP P w' gl m := fun i hi => by
  obtain ⟨x, hl, hx⟩ := h i hi
  exact ⟨x, hl, by rw [← hx]; exact World.cell?_of_block (a := ⟨gl, i, none⟩) (ho.2.2 gl hg)⟩
def Sh (x : ByteArray) : Prop := 1 ≤ x.size ∧ x.size ≤ 13
instance (x : ByteArray) : Decidable (Sh x) := by unfold Sh; exact inferInstance
def shAt : Option Value → Bool
  | some (.string x) => decide (Sh x)
  | _ => false
theorem sh_of (w : World) (cs : Array Value) (ty : TypeId) (m : Nat) (h : (List.range m).all (fun i => shAt cs[i]?) = true) : StrsP Sh (w.alloc (.cells cs ty)) w.heap.size m := fun i hi => by
  have hq := List.all_eq_true.1 h i (List.mem_range.2 hi)
  rw [World.cell?_alloc_at _ _ _ _ rfl]
  cases hc : cs[i]? with
  | none => rw [hc] at hq; simp [shAt] at hq
  | some v =>
    rw [hc] at hq
    cases v with
    | string x => exact ⟨x, by simpa [shAt] using hq, rfl⟩
    | _ => simp [shAt] at hq
def DrSh (w wr : World) (a : Option Addr) (n cap : Nat) (zs : List Int) (t K : Nat) (e : Ending) (w' : World) : Prop :=
  ∃ (s : ByteArray) (t' : Nat), e = .returned (.string s) ∧ Sh s ∧ t' ≤ t + K ∧ Dr w w' a n cap zs t' ∧ Bar w.heap.size wr.heap.size wr w'
theorem sh_texts {w : World} {g : Nat} {l : List ByteArray} (h : TextsAt w g l) (hL : ∀ x ∈ l, Sh x) : StrsP Sh w g l.length := fun i hi =>
  ⟨l.getD i ⟨#[]⟩, hL _ (by rw [List.getD_eq_getElem?_getD, List.getElem?_eq_getElem hi]; exact List.getElem_mem hi), h i hi⟩
theorem dr_sh {w wr : World} {a : Option Addr} {n cap t m cl gl : Nat} {zs : List Int} (HX : Hid (StrsP Sh wr gl m)) (hg : gl ≠ w.heap.size) (hm : 1 < m) (hm2 : m ≤ 100) (HD : Hid (Dr w wr a n cap zs t)) (HL : Hid (zs.length = n)) (hn : n ≤ 9223372036854775807) (ht : t ≤ 1000000) :
    Calls Tryz.prog 149 #[.pointer (some ⟨w.heap.size, 0, none⟩), .slice (some ⟨gl, 0, none⟩) m cl] wr (DrSh w wr a n cap zs t 2) := by
  go_enter Tryz.func149, Tryz.ntmps149
  go_wp2_with (go_at_call 91; refine (dr_pick (m : Int) (by omega) (by omega) HD HL hn ht).mono ?_; rintro e v1 ⟨r, t1, rfl, ⟨r0, r1⟩, ht1, d, o1⟩; obtain ⟨x, hxl, hx⟩ := (HX.out.only o1 hg) r.toNat (by omega); have D1 := Lib.hid d; have BB := Lib.hid (Bar.of_only o1 wr.heap.size); clear d o1)
  go_ret
  exact ⟨x, t1, rfl, hxl, ht1, D1.out, BB.out⟩
theorem dr_shn {w wr : World} {a : Option Addr} {n cap t m cl : Nat} {zs : List Int} {cs : Array Value} {ty : TypeId} (h : (List.range m).all (fun i => shAt cs[i]?) = true) (hm : 1 < m) (hm2 : m ≤ 100) (HD : Hid (Dr w wr a n cap zs t)) (HL : Hid (zs.length = n)) (hn : n ≤ 9223372036854775807) (ht : t ≤ 1000000) :
    Calls Tryz.prog 149 #[.pointer (some ⟨w.heap.size, 0, none⟩), .slice (some ⟨wr.heap.size, 0, none⟩) m cl] (wr.alloc (.cells cs ty)) (DrSh w (wr.alloc (.cells cs ty)) a n cap zs t 2) :=
  dr_sh (Lib.hid (sh_of wr cs ty m h)) (by have := HD.out.cur.lt; omega) hm hm2 (Lib.hid (HD.out.alloc _)) HL hn ht
theorem kw_sh : ∀ x ∈ kwA, Sh x := by decide
theorem sg_sh : ∀ x ∈ sgA, Sh x := by decide
theorem ts_keys {w wr w1 : World} {a : Option Addr} {n cap t : Nat} {zs : List Int} {l : List ByteArray} {e : Ending} (k : Nat) (hk : l.length = k) (hs : ∀ x ∈ l, Sh x) (HD : Dr w wr a n cap zs t) (h : e = .returned (.slice (some ⟨wr.heap.size, 0, none⟩) k k) ∧ TextsAt w1 wr.heap.size l ∧ Below wr.heap.size wr w1) :
    e = .returned (.slice (some ⟨wr.heap.size, 0, none⟩) k k) ∧ Hid (StrsP Sh w1 wr.heap.size k) ∧ Hid (Dr w w1 a n cap zs t) ∧ wr.heap.size ≠ w.heap.size ∧ Below wr.heap.size wr w1 := by
  subst hk
  exact ⟨h.1, sh_texts h.2.1 hs, HD.up h.2.2, by have := HD.cur.lt; omega, h.2.2⟩
set_option maxHeartbeats 3200000 in
theorem dr_textS {w wr : World} {a : Option Addr} {n cap t : Nat} {zs : List Int} (HD : Hid (Dr w wr a n cap zs t)) (HL : Hid (zs.length = n)) (hn : n ≤ 9223372036854775807) (ht : t ≤ 900000) :
    Calls Tryz.prog 77 #[.pointer (some ⟨w.heap.size, 0, none⟩)] wr (DrSh w wr a n cap zs t 6) := by
  go_enter Tryz.func77, Tryz.ntmps77
  go_wp2_with (go_at_call 91; refine (dr_pick 8 (by omega) (by omega) HD HL hn (by omega)).mono ?_; rintro e v1 ⟨r, t1, rfl, ⟨r0, r1⟩, ht1, d, o1⟩; have D1 := Lib.hid d; have B1 := Lib.hid (Bar.of_only o1 wr.heap.size); clear d o1; refine Hid.out ?_)
  refine Lib.hid ?_
  have SG : Hid (Calls Tryz.prog 146 #[] v1 fun e w1 => e = .returned (.slice (some ⟨v1.heap.size, 0, none⟩) 6 6) ∧ Hid (StrsP Sh w1 v1.heap.size 6) ∧ Hid (Dr w w1 a n cap zs t1) ∧ v1.heap.size ≠ w.heap.size ∧ Below v1.heap.size v1 w1) := Lib.hid ((tkSigns_any v1).mono fun _ _ h => ts_keys 6 rfl sg_sh D1.out h)
  have KY : Hid (Calls Tryz.prog 84 #[] v1 fun e w1 => e = .returned (.slice (some ⟨v1.heap.size, 0, none⟩) 14 14) ∧ Hid (StrsP Sh w1 v1.heap.size 14) ∧ Hid (Dr w w1 a n cap zs t1) ∧ v1.heap.size ≠ w.heap.size ∧ Below v1.heap.size v1 w1) := Lib.hid ((tkKeys_any v1).mono fun _ _ h => ts_keys 14 rfl kw_sh D1.out h)
  obtain rfl | rfl | rfl | rfl | rfl | rfl | hr : r = 0 ∨ r = 1 ∨ r = 2 ∨ r = 3 ∨ r = 4 ∨ r = 5 ∨ 6 ≤ r := by omega
  · go_wp2_with (first | (go_at_call 84; refine KY.out.mono ?_; rintro e v2 ⟨rfl, HS, D2, hg, bk⟩; have B2 := Lib.hid (B1.out.trans ((Bar.of_below bk).mono B1.out.size)); clear bk) | (go_at_call 149; (with_reducible refine (dr_sh (t := t1) (zs := zs) HS hg (by omega) (by omega) D2 HL hn (by omega)).mono ?_); rintro e v3 ⟨x, t2, rfl, hx, ht2, d, bb⟩; have D3 := Lib.hid d; have B3 := Lib.hid (B2.out.trans (bb.mono B2.out.size)); clear d bb))
    go_ret
    exact ⟨x, t2, rfl, hx, by omega, D3.out, B3.out⟩
  · go_wp2_with (first | (go_at_call 84; refine KY.out.mono ?_; rintro e v2 ⟨rfl, HS, D2, hg, bk⟩; have B2 := Lib.hid (B1.out.trans ((Bar.of_below bk).mono B1.out.size)); clear bk) | (go_at_call 149; (with_reducible refine (dr_sh (t := t1) (zs := zs) HS hg (by omega) (by omega) D2 HL hn (by omega)).mono ?_); rintro e v3 ⟨x, t2, rfl, hx, ht2, d, bb⟩; have D3 := Lib.hid d; have B3 := Lib.hid (B2.out.trans (bb.mono B2.out.size)); clear d bb))
    go_ret
    exact ⟨x, t2, rfl, hx, by omega, D3.out, B3.out⟩
  · go_wp2_with (go_at_call 149; (with_reducible refine (dr_shn (m := 5) (t := t1) (zs := zs) (by decide) (by omega) (by omega) D1 HL hn (by omega)).mono ?_); rintro e v2 ⟨x, t2, rfl, hx, ht2, d, bb⟩; have D3 := Lib.hid d; have B3 := Lib.hid (B1.out.trans (((Bar.of_below (one_new2 v1 _)).trans (bb.mono (one_new2 v1 _).size)).mono B1.out.size)); clear d bb)
    go_ret
    exact ⟨x, t2, rfl, hx, by omega, D3.out, B3.out⟩
  · go_wp2_with (go_at_call 149; (with_reducible refine (dr_shn (m := 8) (t := t1) (zs := zs) (by decide) (by omega) (by omega) D1 HL hn (by omega)).mono ?_); rintro e v2 ⟨x, t2, rfl, hx, ht2, d, bb⟩; have D3 := Lib.hid d; have B3 := Lib.hid (B1.out.trans (((Bar.of_below (one_new2 v1 _)).trans (bb.mono (one_new2 v1 _).size)).mono B1.out.size)); clear d bb)
    go_ret
    exact ⟨x, t2, rfl, hx, by omega, D3.out, B3.out⟩
  · go_wp2_with (go_at_call 149; (with_reducible refine (dr_shn (m := 8) (t := t1) (zs := zs) (by decide) (by omega) (by omega) D1 HL hn (by omega)).mono ?_); rintro e v2 ⟨x, t2, rfl, hx, ht2, d, bb⟩; have D3 := Lib.hid d; have B3 := Lib.hid (B1.out.trans (((Bar.of_below (one_new2 v1 _)).trans (bb.mono (one_new2 v1 _).size)).mono B1.out.size)); clear d bb)
    go_ret
    exact ⟨x, t2, rfl, hx, by omega, D3.out, B3.out⟩
  · go_wp2_with (go_at_call 80; refine (dr_one 3 (by omega) (by omega) D1 HL hn (by omega)).mono ?_; rintro e v2 ⟨x, t2, rfl, ht2, d, o⟩; have D2 := Lib.hid d; have B2 := Lib.hid (B1.out.trans ((Bar.of_only o v1.heap.size).mono B1.out.size)); clear d o; refine Hid.out ?_)
    refine Lib.hid ?_
    cases x
    · have SG2 : Hid (Calls Tryz.prog 146 #[] v2 fun e w1 => e = .returned (.slice (some ⟨v2.heap.size, 0, none⟩) 6 6) ∧ Hid (StrsP Sh w1 v2.heap.size 6) ∧ Hid (Dr w w1 a n cap zs t2) ∧ v2.heap.size ≠ w.heap.size ∧ Below v2.heap.size v2 w1) := Lib.hid ((tkSigns_any v2).mono fun _ _ h => ts_keys 6 rfl sg_sh D2.out h)
      go_wp2_with (first | (go_at_call 146; refine SG2.out.mono ?_; rintro e v3 ⟨rfl, HS, D3, hg, bk⟩; have BK := Lib.hid bk; clear bk) | (go_at_call 149; (with_reducible refine (dr_sh (t := t2) (zs := zs) HS hg (by omega) (by omega) D3 HL hn (by omega)).mono ?_); rintro e v4 ⟨y, t3, rfl, hy, ht3, d, bb⟩; have D4 := Lib.hid d; have B4 := Lib.hid (B2.out.trans (((Bar.of_below BK.out).trans (bb.mono BK.out.size)).mono B2.out.size)); clear d bb))
      go_ret
      exact ⟨y, t3, rfl, hy, by omega, D4.out, B4.out⟩
    · go_wp2_with (go_at_call 149; (with_reducible refine (dr_shn (m := 12) (t := t2) (zs := zs) (by decide) (by omega) (by omega) D2 HL hn (by omega)).mono ?_); rintro e v3 ⟨y, t3, rfl, hy, ht3, d, bb⟩; have D4 := Lib.hid d; have B4 := Lib.hid (B2.out.trans (((Bar.of_below (one_new2 v2 _)).trans (bb.mono (one_new2 v2 _).size)).mono B2.out.size)); clear d bb)
      go_ret
      exact ⟨y, t3, rfl, hy, by omega, D4.out, B4.out⟩
  · have e0 : (r == 0) = false := by simp; omega
    have e1 : (r == 1) = false := by simp; omega
    have e2 : (r == 2) = false := by simp; omega
    have e3 : (r == 3) = false := by simp; omega
    have e4 : (r == 4) = false := by simp; omega
    have e5 : (r == 5) = false := by simp; omega
    go_wp2_with (first | (go_at_call 146; refine SG.out.mono ?_; rintro e v3 ⟨rfl, HS, D3, hg, bk⟩; have BK := Lib.hid bk; clear bk) | (go_at_call 149; (with_reducible refine (dr_sh (t := t1) (zs := zs) HS hg (by omega) (by omega) D3 HL hn (by omega)).mono ?_); rintro e v4 ⟨y, t3, rfl, hy, ht3, d, bb⟩; have D4 := Lib.hid d; have B4 := Lib.hid (B1.out.trans (((Bar.of_below BK.out).trans (bb.mono BK.out.size)).mono B1.out.size)); clear d bb))
    go_ret
    exact ⟨y, t3, rfl, hy, by omega, D4.out, B4.out⟩
/-! A token drawn. -/
def TokBox (w : World) (g : Nat) (a0 a1 a2 a3 : Value) : Prop := FourIs w g a0 a1 a2 a3 ∧ ∀ o, w.frozen? ⟨g, o, none⟩ = false
theorem TokBox.keep {w w' : World} {g : Nat} {a0 a1 a2 a3 : Value} (h : TokBox w g a0 a1 a2 a3) (e : w'.heap[g]? = w.heap[g]?) (hs : w.heap.size ≤ w'.heap.size) : TokBox w' g a0 a1 a2 a3 := by
  obtain ⟨⟨h0, h1, h2, h3, hb⟩, hf⟩ := h
  have c : ∀ o, w'.cell? ⟨g, o, none⟩ = w.cell? ⟨g, o, none⟩ := fun o => World.cell?_of_block (a := ⟨g, o, none⟩) e
  exact ⟨⟨(c 0).trans h0, (c 1).trans h1, (c 2).trans h2, (c 3).trans h3, Nat.lt_of_lt_of_le hb hs⟩, fun o => (World.frozen?_of_block (a := ⟨g, o, none⟩) e).trans (hf o)⟩
theorem TokBox.bar {w w' : World} {g c B : Nat} {a0 a1 a2 a3 : Value} (h : TokBox w g a0 a1 a2 a3) (hb : Bar c B w w') (hg : g < B) (hc : g ≠ c) : TokBox w' g a0 a1 a2 a3 := h.keep (hb.block g hg hc) hb.size
theorem TokBox.new (w : World) (a0 a1 a2 a3 : Value) (t : TypeId) : TokBox (w.alloc (.cells #[a0, a1, a2, a3] t)) w.heap.size a0 a1 a2 a3 := ⟨(box_four (Below.refl _ _)).1, fun o => by simp⟩
theorem TokBox.other {w : World} {g b : Nat} {a0 a1 a2 a3 : Value} (h : TokBox w g a0 a1 a2 a3) (hg : g ≠ b) (j : Nat) (v : Value) : TokBox (w.setCell ⟨b, j, none⟩ v) g a0 a1 a2 a3 := h.keep (Below.heap_setCell w ⟨b, j, none⟩ v g hg) (by simp)
theorem TokBox.set {w : World} {g : Nat} {a0 a1 a2 a3 : Value} (h : TokBox w g a0 a1 a2 a3) (v : Value) : TokBox (w.setCell ⟨g, 0, none⟩ v) g v a1 a2 a3 ∧ TokBox (w.setCell ⟨g, 1, none⟩ v) g a0 v a2 a3 ∧ TokBox (w.setCell ⟨g, 2, none⟩ v) g a0 a1 v a3 ∧ TokBox (w.setCell ⟨g, 3, none⟩ v) g a0 a1 a2 v := by
  obtain ⟨⟨h0, h1, h2, h3, hb⟩, hf⟩ := h
  have fz : ∀ j o, (w.setCell ⟨g, j, none⟩ v).frozen? ⟨g, o, none⟩ = false := fun j o => by rw [World.frozen?_setCell]; exact hf o
  have sz : ∀ j, g < (w.setCell ⟨g, j, none⟩ v).heap.size := fun j => by simpa using hb
  refine ⟨⟨⟨?_, ?_, ?_, ?_, sz 0⟩, fz 0⟩, ⟨⟨?_, ?_, ?_, ?_, sz 1⟩, fz 1⟩, ⟨⟨?_, ?_, ?_, ?_, sz 2⟩, fz 2⟩, ⟨⟨?_, ?_, ?_, ?_, sz 3⟩, fz 3⟩⟩
  all_goals first
    | (rw [World.cell?_setCell_other _ _ _ _ (by simp)]; assumption)
    | exact World.cell?_setCell_same' _ _ _ (by first | (rw [h0]; rfl) | (rw [h1]; rfl) | (rw [h2]; rfl) | (rw [h3]; rfl))
theorem TokBox.set4 {w : World} {g : Nat} {a0 a1 a2 a3 : Value} (h : TokBox w g a0 a1 a2 a3) (v0 v1 v2 v3 : Value) : TokBox ((((w.setCell ⟨g, 0, none⟩ v0).setCell ⟨g, 1, none⟩ v1).setCell ⟨g, 2, none⟩ v2).setCell ⟨g, 3, none⟩ v3) g v0 v1 v2 v3 := ((((h.set v0).1.set v1).2.1.set v2).2.2.1.set v3).2.2.2
theorem Dr.set {w wx : World} {a : Option Addr} {n cap t g : Nat} {zs : List Int} (h : Dr w wx a n cap zs t) (hg : w.heap.size < g) (j : Nat) (v : Value) : Dr w (wx.setCell ⟨g, j, none⟩ v) a n cap zs t :=
  ⟨h.cur.kept (Below.heap_setCell wx ⟨g, j, none⟩ v _ (by show w.heap.size ≠ g; omega)), h.bel.setCell (p := ⟨g, j, none⟩) (by show w.heap.size ≤ g; omega) v, h.src.bar (Bar.of_below ((Below.refl w.heap.size wx).setCell (p := ⟨g, j, none⟩) (by show w.heap.size ≤ g; omega) v)) h.ahead h.ahead, h.ahead⟩
theorem Bar.set {c B g : Nat} {w wx : World} (h : Bar c B w wx) (hg : B ≤ g) (j : Nat) (v : Value) : Bar c B w (wx.setCell ⟨g, j, none⟩ v) := h.trans (Bar.of_below ((Below.refl B wx).setCell (p := ⟨g, j, none⟩) hg v))
theorem TokBox.four {w : World} {g : Nat} {a0 a1 a2 a3 : Value} (h : TokBox w g a0 a1 a2 a3) : Four w g := by
  obtain ⟨⟨h0, h1, h2, h3, _⟩, _⟩ := h
  refine ⟨?_, ?_, ?_, ?_⟩ <;> simp only [h0, h1, h2, h3, Option.isSome]
theorem ints_three (w : World) (x0 x1 x2 : Int) (ty : TypeId) : Ints (w.alloc (.cells #[.int .i64 x0, .int .i64 x1, .int .i64 x2] ty)) w.heap.size 3 := by
  intro i hi
  rw [World.cell?_alloc_at _ _ _ _ rfl]
  rcases (show i = 0 ∨ i = 1 ∨ i = 2 by omega) with rfl | rfl | rfl <;> exact ⟨_, rfl⟩
/-- what holds on the way through token: the token's box g, the result's box, the cursor -/
def TkSt (w wr : World) (a : Option Addr) (n cap : Nat) (zs : List Int) (T g : Nat) (wx : World) : Prop :=
  ∃ (k b v : Int) (s : ByteArray) (t' : Nat), s.size ≤ 13 ∧ t' ≤ T ∧ TokBox wx g (.int .i64 k) (.int .i64 b) (.string s) (.int .i64 v) ∧ TokBox wx wr.heap.size (.int .i64 0) (.int .i64 0) (.string ⟨#[]⟩) (.int .i64 0) ∧ Dr w wx a n cap zs t' ∧ Bar w.heap.size wr.heap.size wr wx ∧ w.heap.size < wr.heap.size ∧ wr.heap.size < g
def DrTok (w wr : World) (a : Option Addr) (n cap : Nat) (zs : List Int) (t K : Nat) (e : Ending) (w' : World) : Prop :=
  ∃ (k b v : Int) (s : ByteArray) (t' : Nat), e = .returned (.agg #[.int .i64 k, .int .i64 b, .string s, .int .i64 v]) ∧ s.size ≤ 13 ∧ t' ≤ t + K ∧ Dr w w' a n cap zs t' ∧ Bar w.heap.size wr.heap.size wr w'
theorem tokR_form (x : ByteArray) (r : Int) (h : x.size ≤ 13) : ∃ (k b v : Int) (s : ByteArray), tokR x r = .agg #[.int .i64 k, .int .i64 b, .string s, .int .i64 v] ∧ s.size ≤ 13 := by
  unfold tokR
  split
  · exact ⟨_, _, _, x, rfl, h⟩
  · exact ⟨0, 0, 0, ⟨#[]⟩, rfl, by decide⟩
set_option maxHeartbeats 6400000 in
theorem dr_token {w wr : World} {a : Option Addr} {n cap t : Nat} {zs : List Int} (HD : Hid (Dr w wr a n cap zs t)) (HL : Hid (zs.length = n)) (hn : n ≤ 9223372036854775807) (ht : t ≤ 800000) :
    Calls Tryz.prog 70 #[.pointer (some ⟨w.heap.size, 0, none⟩)] wr (DrTok w wr a n cap zs t 20) := by
  have hcw : w.heap.size < wr.heap.size := HD.out.cur.lt
  go_enter Tryz.func70, Tryz.ntmps70
  obtain ⟨wz, hwz⟩ : ∃ wz, wr.alloc (.cells #[.int .i64 0, .int .i64 0, .string ⟨#[]⟩, .int .i64 0] 31) = wz := ⟨_, rfl⟩
  have D0 := Lib.hid (HD.out.alloc (.cells #[.int .i64 0, .int .i64 0, .string ⟨#[]⟩, .int .i64 0] 31))
  have R0 := Lib.hid (TokBox.new wr (.int .i64 0) (.int .i64 0) (.string ⟨#[]⟩) (.int .i64 0) 31)
  have B0 := Lib.hid (Bar.of_below (g := w.heap.size) (one_new2 wr (.cells #[.int .i64 0, .int .i64 0, .string ⟨#[]⟩, .int .i64 0] 31)))
  clear hwz
  go_wp2_with (go_at_call 77; refine (dr_textS D0 HL hn (by omega)).mono ?_; rintro e v1 ⟨x, t1, rfl, hx, ht1, d, bb⟩; have D1 := Lib.hid d; have R1 := Lib.hid (R0.out.bar bb (by simp) (by omega)); have B1 := Lib.hid (B0.out.trans (bb.mono (one_new2 wr _).size)); clear d bb; refine Hid.out ?_)
  refine Lib.hid ?_
  have hx0 : 0 < x.size := hx.1
  have hx1 : x.size ≤ 1048576 := Nat.le_trans hx.2 (by decide)
  go_wp2_with (go_at_call 91; refine (dr_pick 90 (by omega) (by omega) D1 HL hn (by omega)).mono ?_; rintro e v2 ⟨r, t2, rfl, ⟨r0, r1⟩, ht2, d, o1⟩; have D2 := Lib.hid d; have R2 := Lib.hid (R1.out.bar (Bar.of_only o1 v1.heap.size) R1.out.1.2.2.2.2 (by omega)); have B2 := Lib.hid (B1.out.trans ((Bar.of_only o1 v1.heap.size).mono B1.out.size)); clear d o1; refine Hid.out ?_)
  refine Lib.hid ?_
  obtain ⟨k, b, v, s, hform, hs⟩ := tokR_form x r hx.2
  have MK := Lib.hid (tkMake_any x r v2 hx0 hx1)
  rw [hform] at MK
  obtain ⟨f, hf⟩ : ∃ f, tkFa x = f := ⟨_, rfl⟩
  rw [hf] at MK
  clear hform hf D0 R0 B0 D1 R1 B1
  go_upto_if 16 with (go_at_call 145; refine MK.out.mono ?_; rintro e v3 ⟨rfl, bk⟩; have D3 := Lib.hid (D2.out.up bk); have R3 := Lib.hid (R2.out.keep (bk.block _ R2.out.1.2.2.2.2) bk.size); have B3 := Lib.hid (B2.out.trans ((Bar.of_below bk).mono B2.out.size)); clear bk)
  have BX3 := Lib.hid (TokBox.new v3 (.int .i64 k) (.int .i64 b) (.string s) (.int .i64 v) 31)
  have D4 := Lib.hid (D3.out.alloc (.cells #[.int .i64 k, .int .i64 b, .string s, .int .i64 v] 31))
  have hg3 : wr.heap.size < v3.heap.size := R3.out.1.2.2.2.2
  have R4 := Lib.hid (R3.out.keep (Below.heap_alloc v3 (.cells #[.int .i64 k, .int .i64 b, .string s, .int .i64 v] 31) _ hg3) (by simp))
  have B4 := Lib.hid (B3.out.trans ((Bar.of_below (one_new2 v3 (.cells #[.int .i64 k, .int .i64 b, .string s, .int .i64 v] 31))).mono B3.out.size))
  clear MK D2 R2 B2 D3 R3 B3
  go_cut [5] from 16 to 21 (fun _ wx => TkSt w wr a n cap zs (t + 10) v3.heap.size wx)
  case first =>
    by_cases hf0 : f = 0
    · subst hf0
      go_wp2_with fail
      go_meet
      exact ⟨k, b, v, s, t2, hs, by omega, BX3.out, R4.out, D4.out, B4.out, hcw, hg3⟩
    · have f0 : (f == 0) = false := by simp [hf0]
      go_wp2_with (go_at_call 91; refine (dr_pick 4 (by omega) (by omega) D4 HL hn (by omega)).mono ?_; rintro e v5 ⟨r', t5, rfl, ⟨q0, q1⟩, ht5, d, o1⟩; have D5 := Lib.hid d; have ob := Bar.of_only o1 (v3.alloc (.cells #[.int .i64 k, .int .i64 b, .string s, .int .i64 v] 31)).heap.size; have BX5 := Lib.hid (BX3.out.bar ob BX3.out.1.2.2.2.2 (by omega)); have R5 := Lib.hid (R4.out.bar ob R4.out.1.2.2.2.2 (by omega)); have B5 := Lib.hid (B4.out.trans (ob.mono B4.out.size)); clear d o1 ob; obtain ⟨⟨z0, z1, z2, z3, _⟩, zf⟩ := BX5.out; have g0 := zf 0; have g1 := zf 1; have g2 := zf 2; have g3 := zf 3; clear zf)
      go_meet
      exact ⟨1 + r', 0, 0, x, t5, hx.2, by omega, BX5.out.set4 _ _ _ _, (((R5.out.other (by omega) _ _).other (by omega) _ _).other (by omega) _ _).other (by omega) _ _, (((D5.out.set (by omega) _ _).set (by omega) _ _).set (by omega) _ _).set (by omega) _ _, (((B5.out.set (by omega) _ _).set (by omega) _ _).set (by omega) _ _).set (by omega) _ _, hcw, hg3⟩
  case rest =>
  obtain ⟨k, b, v, s, t4, hs, ht4, hbx, hr, hd, hb, _, _⟩ := hcut
  have BX := Lib.hid hbx
  have RR := Lib.hid hr
  have DD := Lib.hid hd
  have BB := Lib.hid hb
  clear hbx hr hd hb BX3 R4 D4 B4
  rename World => W0
  go_wp2_with (go_at_call 91; refine (dr_pick 30 (by omega) (by omega) DD HL hn (by omega)).mono ?_; rintro e v5 ⟨r', t5, rfl, ⟨q0, q1⟩, ht5, d, o1⟩; have D5 := Lib.hid d; have ob := Bar.of_only o1 W0.heap.size; have BX5 := Lib.hid (BX.out.bar ob BX.out.1.2.2.2.2 (by omega)); have R5 := Lib.hid (RR.out.bar ob RR.out.1.2.2.2.2 (by omega)); have B5 := Lib.hid (BB.out.trans (ob.mono BB.out.size)); clear d o1 ob; refine Hid.out ?_)
  refine Lib.hid ?_
  obtain rfl | rfl | rfl | rfl | hr : r' = 0 ∨ r' = 1 ∨ r' = 2 ∨ r' = 3 ∨ 4 ≤ r' := by omega
  · have BX6 := Lib.hid (BX5.out.keep (Below.heap_alloc v5 (.cells #[.int .i64 (-1), .int .i64 4000, .int .i64 4001] 3) _ BX5.out.1.2.2.2.2) (by simp))
    have R6 := Lib.hid (R5.out.keep (Below.heap_alloc v5 (.cells #[.int .i64 (-1), .int .i64 4000, .int .i64 4001] 3) _ R5.out.1.2.2.2.2) (by simp))
    have B6 := Lib.hid (B5.out.trans ((Bar.of_below (one_new2 v5 (.cells #[.int .i64 (-1), .int .i64 4000, .int .i64 4001] 3))).mono B5.out.size))
    go_wp2_with (go_at_call 101; (with_reducible refine (dr_among (m := 3) (t := t5) (zs := zs) (ints_three v5 _ _ _ _) (by omega) (by omega) D5 HL hn (by omega)).mono ?_); rintro e v7 ⟨y, t7, rfl, _, ht7, d, o⟩; have D7 := Lib.hid d; have ob := Bar.of_only o (v5.alloc (.cells #[.int .i64 (-1), .int .i64 4000, .int .i64 4001] 3)).heap.size; have BX7 := Lib.hid (BX6.out.bar ob BX6.out.1.2.2.2.2 (by omega)); have R7 := Lib.hid (R6.out.bar ob R6.out.1.2.2.2.2 (by omega)); have B7 := Lib.hid (B6.out.trans (ob.mono B6.out.size)); clear d o ob; obtain ⟨⟨z0, z1, z2, z3, _⟩, zf⟩ := BX7.out; have g0 := zf 0; have g1 := zf 1; have g2 := zf 2; have g3 := zf 3; clear zf; obtain ⟨⟨y0, y1, y2, y3, _⟩, yf⟩ := R7.out; have h0 := yf 0; have h1 := yf 1; have h2 := yf 2; have h3 := yf 3; clear yf)
    obtain ⟨r0', r1', r2', r3'⟩ := read4 (R7.out.other (b := v3.heap.size) (by omega) 1 (.int .i64 y)).four (.int .i64 k) (.int .i64 y) (.string s) (.int .i64 v) _ rfl
    exact bodyPost_ret (v := .agg #[.int .i64 k, .int .i64 y, .string s, .int .i64 v]) (by simp [results, Tryz.results70, go_sem, r0', r1', r2', r3']) rfl ⟨k, y, v, s, t7, rfl, hs, by omega, ((((D7.out.set (g := v3.heap.size) (by omega) 1 (.int .i64 y)).set hcw _ _).set hcw _ _).set hcw _ _).set hcw _ _, ((((B7.out.set (g := v3.heap.size) (by omega) 1 (.int .i64 y)).set (Nat.le_refl _) _ _).set (Nat.le_refl _) _ _).set (Nat.le_refl _) _ _).set (Nat.le_refl _) _ _⟩
  · go_wp2_with (go_at_call 91; refine (dr_pick 6 (by omega) (by omega) D5 HL hn (by omega)).mono ?_; rintro e v7 ⟨y, t7, rfl, _, ht7, d, o⟩; have D7 := Lib.hid d; have ob := Bar.of_only o v5.heap.size; have BX7 := Lib.hid (BX5.out.bar ob BX5.out.1.2.2.2.2 (by omega)); have R7 := Lib.hid (R5.out.bar ob R5.out.1.2.2.2.2 (by omega)); have B7 := Lib.hid (B5.out.trans (ob.mono B5.out.size)); clear d o ob; obtain ⟨⟨z0, z1, z2, z3, _⟩, zf⟩ := BX7.out; have g0 := zf 0; have g1 := zf 1; have g2 := zf 2; have g3 := zf 3; clear zf; obtain ⟨⟨y0, y1, y2, y3, _⟩, yf⟩ := R7.out; have h0 := yf 0; have h1 := yf 1; have h2 := yf 2; have h3 := yf 3; clear yf)
    obtain ⟨r0', r1', r2', r3'⟩ := read4 (R7.out.other (b := v3.heap.size) (by omega) 0 (.int .i64 y)).four (.int .i64 y) (.int .i64 b) (.string s) (.int .i64 v) _ rfl
    exact bodyPost_ret (v := .agg #[.int .i64 y, .int .i64 b, .string s, .int .i64 v]) (by simp [results, Tryz.results70, go_sem, r0', r1', r2', r3']) rfl ⟨y, b, v, s, t7, rfl, hs, by omega, ((((D7.out.set (g := v3.heap.size) (by omega) 0 (.int .i64 y)).set hcw _ _).set hcw _ _).set hcw _ _).set hcw _ _, ((((B7.out.set (g := v3.heap.size) (by omega) 0 (.int .i64 y)).set (Nat.le_refl _) _ _).set (Nat.le_refl _) _ _).set (Nat.le_refl _) _ _).set (Nat.le_refl _) _ _⟩
  · skip
    obtain ⟨⟨z0, z1, z2, z3, _⟩, zf⟩ := BX5.out
    have g0 := zf 0
    have g1 := zf 1
    have g2 := zf 2
    have g3 := zf 3
    clear zf
    obtain ⟨⟨y0, y1, y2, y3, _⟩, yf⟩ := R5.out
    have h0 := yf 0
    have h1 := yf 1
    have h2 := yf 2
    have h3 := yf 3
    clear yf
    go_wp2_with fail
    obtain ⟨r0', r1', r2', r3'⟩ := read4 (R5.out.other (b := v3.heap.size) (by omega) 3 (.int .i64 (wrap64 (v + 1)))).four (.int .i64 k) (.int .i64 b) (.string s) (.int .i64 (wrap64 (v + 1))) _ rfl
    exact bodyPost_ret (v := .agg #[.int .i64 k, .int .i64 b, .string s, .int .i64 (wrap64 (v + 1))]) (by simp [results, Tryz.results70, go_sem, r0', r1', r2', r3']) rfl ⟨k, b, (wrap64 (v + 1)), s, t5, rfl, hs, by omega, ((((D5.out.set (g := v3.heap.size) (by omega) 3 (.int .i64 (wrap64 (v + 1)))).set hcw _ _).set hcw _ _).set hcw _ _).set hcw _ _, ((((B5.out.set (g := v3.heap.size) (by omega) 3 (.int .i64 (wrap64 (v + 1)))).set (Nat.le_refl _) _ _).set (Nat.le_refl _) _ _).set (Nat.le_refl _) _ _).set (Nat.le_refl _) _ _⟩
  · skip
    obtain ⟨⟨z0, z1, z2, z3, _⟩, zf⟩ := BX5.out
    have g0 := zf 0
    have g1 := zf 1
    have g2 := zf 2
    have g3 := zf 3
    clear zf
    obtain ⟨⟨y0, y1, y2, y3, _⟩, yf⟩ := R5.out
    have h0 := yf 0
    have h1 := yf 1
    have h2 := yf 2
    have h3 := yf 3
    clear yf
    go_wp2_with fail
    obtain ⟨r0', r1', r2', r3'⟩ := read4 (R5.out.other (b := v3.heap.size) (by omega) 2 (.string ⟨#[]⟩)).four (.int .i64 k) (.int .i64 b) (.string ⟨#[]⟩) (.int .i64 v) _ rfl
    exact bodyPost_ret (v := .agg #[.int .i64 k, .int .i64 b, .string ⟨#[]⟩, .int .i64 v]) (by simp [results, Tryz.results70, go_sem, r0', r1', r2', r3']) rfl ⟨k, b, v, ⟨#[]⟩, t5, rfl, (by decide), by omega, ((((D5.out.set (g := v3.heap.size) (by omega) 2 (.string ⟨#[]⟩)).set hcw _ _).set hcw _ _).set hcw _ _).set hcw _ _, ((((B5.out.set (g := v3.heap.size) (by omega) 2 (.string ⟨#[]⟩)).set (Nat.le_refl _) _ _).set (Nat.le_refl _) _ _).set (Nat.le_refl _) _ _).set (Nat.le_refl _) _ _⟩
  · have e0 : (r' == 0) = false := by simp; omega
    have e1 : (r' == 1) = false := by simp; omega
    have e2 : (r' == 2) = false := by simp; omega
    have e3 : (r' == 3) = false := by simp; omega
    obtain ⟨⟨z0, z1, z2, z3, _⟩, zf⟩ := BX5.out
    have g0 := zf 0
    have g1 := zf 1
    have g2 := zf 2
    have g3 := zf 3
    clear zf
    obtain ⟨⟨y0, y1, y2, y3, _⟩, yf⟩ := R5.out
    have h0 := yf 0
    have h1 := yf 1
    have h2 := yf 2
    have h3 := yf 3
    clear yf
    go_wp2_with fail
    obtain ⟨r0', r1', r2', r3'⟩ := read4 R5.out.four (.int .i64 k) (.int .i64 b) (.string s) (.int .i64 v) _ rfl
    exact bodyPost_ret (v := .agg #[.int .i64 k, .int .i64 b, .string s, .int .i64 v]) (by simp [results, Tryz.results70, go_sem, r0', r1', r2', r3']) rfl ⟨k, b, v, s, t5, rfl, hs, by omega, (((D5.out.set hcw _ _).set hcw _ _).set hcw _ _).set hcw _ _, (((B5.out.set (Nat.le_refl _) _ _).set (Nat.le_refl _) _ _).set (Nat.le_refl _) _ _).set (Nat.le_refl _) _ _⟩
/-! Tokens drawn. -/
theorem Dr.grown {w wx w' : World} {a : Option Addr} {n cap t : Nat} {zs : List Int} {row : Option Nat} (h : Dr w wx a n cap zs t) (hg : wx.grownBy w' row) (hr : ∀ k, row = some k → w.heap.size < k) : Dr w w' a n cap zs t :=
  ⟨h.cur.kept (hg.block _ h.cur.lt (fun e => by have := hr _ e.symm; omega)), h.bel.grown hg h.bel.size (fun k e => by have := hr k e; omega), h.src.bar (Bar.of_below ((Below.refl w.heap.size wx).grown hg h.bel.size (fun k e => by have := hr k e; omega))) h.ahead h.ahead, h.ahead⟩
theorem OwnK.bar {w w' : World} {B n c C : Nat} {v : Value} {l : List Tok} (h : OwnK w B v n l) (hb : Bar c C w w') (hC : w.heap.size ≤ C) (hc : c < B) : OwnK w' B v n l := by
  have hlt := World.ownsRow.lt h
  obtain ⟨h1, h2⟩ := h
  refine ⟨h1, ?_⟩
  rcases h2 with h2 | ⟨g, cap, cur, e, hg, hh, q⟩
  · exact .inl h2
  · refine .inr ⟨g, cap, cur, e, hg, ?_, q⟩
    have := hlt g (by rw [e]; rfl)
    rw [hb.block g (by omega) (by omega)]
    exact hh
theorem new4a (w1 : World) (v0 v1 v2 v3 : Value) (t : TypeId) : ∀ j u, [v0, v1, v2, v3][j]? = some u → (w1.alloc (.cells #[v0, v1, v2, v3] t)).cell? ((⟨w1.heap.size, 0, none⟩ : Addr).add j) = some u := by
  intro j u hj
  match j, hj with
  | 0, hj => simp at hj; subst hj; simp [Addr.add, go_sem]
  | 1, hj => simp at hj; subst hj; simp [Addr.add, go_sem]
  | 2, hj => simp at hj; subst hj; simp [Addr.add, go_sem]
  | 3, hj => simp at hj; subst hj; simp [Addr.add, go_sem]
/-- a list of drawn tokens on its way -/
def TkLs (w : World) (a : Option Addr) (n cap : Nat) (zs : List Int) (T N : Nat) (v : Value) (wx : World) : Prop :=
  ∃ (l : List Tok) (t' : Nat) (ad : Option Addr) (cv : Nat), v = .slice ad l.length cv ∧ OwnK wx (w.heap.size + 1) (.slice ad l.length cv) l.length l ∧ l.length ≤ N ∧ t' ≤ T ∧ Dr w wx a n cap zs t' ∧ SzT l
def TkLk (w : World) (a : Option Addr) (n cap : Nat) (zs : List Int) (t : Nat) (v k : Value) (wx : World) : Prop :=
  ∃ (l : List Tok) (j t' : Nat) (ad : Option Addr) (cv : Nat), v = .slice ad l.length cv ∧ k = .int .i64 j ∧ j ≤ 8 ∧ OwnK wx (w.heap.size + 1) (.slice ad l.length cv) l.length l ∧ l.length + j ≤ 8 ∧ t' + 20 * j ≤ t + 170 ∧ Dr w wx a n cap zs t' ∧ SzT l
def DrToks (w : World) (a : Option Addr) (n cap : Nat) (zs : List Int) (t K : Nat) (e : Ending) (w' : World) : Prop :=
  ∃ (v : Value) (l : List Tok) (t' : Nat), e = .returned v ∧ OwnK w' (w.heap.size + 1) v l.length l ∧ l.length ≤ 601 ∧ t' ≤ t + K ∧ Dr w w' a n cap zs t' ∧ SzT l
set_option maxHeartbeats 6400000 in
theorem dr_tokens {w wr : World} {a : Option Addr} {n cap t : Nat} {zs : List Int} (HD : Hid (Dr w wr a n cap zs t)) (HL : Hid (zs.length = n)) (hn : n ≤ 9223372036854775807) (ht : t ≤ 700000) :
    Calls Tryz.prog 63 #[.pointer (some ⟨w.heap.size, 0, none⟩)] wr (DrToks w a n cap zs t 200) := by
  obtain ⟨i0, hi, hz0, hz1, hz2⟩ := info_parts infoTok
  go_enter Tryz.func63, Tryz.ntmps63
  go_wp2_with (go_at_call 91; refine (dr_pick 9 (by omega) (by omega) HD HL hn (by omega)).mono ?_; rintro e v1 ⟨r, t1, rfl, ⟨r0, r1⟩, ht1, d, o1⟩; have D1 := Lib.hid d; clear d o1)
  go_loopw [3, 4] (fun v k wx => TkLk w a n cap zs t v k wx) (fun _ k _ => (intOf k).toNat)
  case atStart => exact ⟨[], r.toNat, t1, none, 0, rfl, by go_num, by omega, OwnK.nil _ _, by simp; omega, by omega, D1.out, SzT.nil⟩
  case round =>
    obtain ⟨l, j, t', ad, cv, rfl, rfl, hj, ho, hlj, ht', hd, hz⟩ := hrel
    have O2 := Lib.hid ho
    have D2 := Lib.hid hd
    have Z2 := Lib.hid hz
    clear ho hd hz
    cases j with
    | zero =>
      have hl8 : l.length ≤ 601 := by omega
      go_upto_if 19 with (go_at_call 80; refine (dr_one 30 (by omega) (by omega) D2 HL hn (by omega)).mono ?_; rintro e v2 ⟨x, t2, rfl, ht2, d, o⟩; have D4 := Lib.hid d; have O4 := Lib.hid (O2.out.bar (Bar.of_only o _) (Nat.le_refl _) (Nat.lt_succ_self _)); clear d o)
      go_cut [3, 5] from 19 to 30 (fun v _ wx => TkLs w a n cap zs (t + 176) 601 v wx)
      case first =>
        cases x
        · go_wp2_with fail
          go_meet
          exact ⟨l, t2, ad, cv, rfl, O4.out, hl8, by omega, D4.out, Z2.out⟩
        · go_wp2_with (go_at_call 91; refine (dr_pick 2 (by omega) (by omega) D4 HL hn (by omega)).mono ?_; rintro e v3 ⟨y, t3, rfl, ⟨y0, y1⟩, ht3, d, o1⟩; have DX := Lib.hid d; clear d o1)
          go_loopw [3] (fun v wx => TkLs w a n cap zs (t + 176) 601 v wx) (fun v _ => 602 - sliceLen v)
          case atStart => exact ⟨[], _, none, 0, rfl, OwnK.nil _ _, by simp, by omega, DX.out, SzT.nil⟩
          case round =>
            obtain ⟨L, t9, ad', cv', rfl, hoL, hL, ht9, hdL, hzL⟩ := hrel
            have O7 := Lib.hid hoL
            have D7 := Lib.hid hdL
            have Z7 := Lib.hid hzL
            clear hoL hdL hzL
            by_cases hlt : (L.length : Int) < 600 + y
            · have dl := is_lt hlt
              go_wp2_with (at_builtin; refine wpList_append_own _ rfl _ _ 23 rfl (w.heap.size + 1) 31 i0 (.agg #[.int .i64 0, .int .i64 0, .string ⟨#[]⟩, .int .i64 0]) 4 40 Tryz.underlying23 hi hz0 hz1 hz2 rfl (by decide) _ _ _ rfl (World.ownsRow.alloc (w := wr) O7.out _) ⟨wr.heap.size, 0, none⟩ 1 1 [.int .i64 4, .int .i64 0, .string ⟨#[59]⟩, .int .i64 0] rfl rfl (new4a wr _ _ _ _ _) (one4 _ _ _ _) ?_ ?_ (by simp; have := D7.out.cur.lt; omega) ?_; (unfold maxLen; omega); omega; intro v' w3 hown1 hgrow1 _; have O3 : Hid (OwnK w3 (w.heap.size + 1) v' (L.length + 1) (L ++ [⟨4, 0, ⟨#[59]⟩, 0⟩])) := Lib.hid (by unfold OwnK; rw [tkCs_snoc]; exact hown1); have D3 := Lib.hid (Dr.grown (D7.out.alloc _) hgrow1 (fun j hj => by have := (World.ownsRow.lt O7.out j hj).1; omega)); clear hown1 hgrow1)
              obtain ⟨g', cap', hv'⟩ := O3.out.form (Nat.succ_pos _)
              have HV := Lib.hid hv'
              clear hv'
              go_roundw
              case rel => exact ⟨L ++ [⟨4, 0, ⟨#[59]⟩, 0⟩], t9, some ⟨g', 0, none⟩, cap', by rw [HV.out, List.length_append]; rfl, by rw [List.length_append]; have q := O3.out; rw [HV.out] at q; exact q, by rw [List.length_append]; simp; omega, ht9, D3.out, Z7.out.snoc (by show (⟨#[59]⟩ : ByteArray).size ≤ 1048576; decide)⟩
              case measure => rw [HV.out]; simp [sliceLen]; omega
            · have dl := not_lt (Int.not_lt.1 hlt)
              go_wp2_with fail
              go_meet
              exact ⟨L, t9, ad', cv', rfl, O7.out, hL, ht9, D7.out, Z7.out⟩
      case rest =>
      obtain ⟨l5, t5, ad5, cv5, rfl, ho5, hl5, ht5, hd5, hz5⟩ := hcut
      have O5 := Lib.hid ho5
      have D5 := Lib.hid hd5
      have Z5 := Lib.hid hz5
      clear ho5 hd5 hz5 O4 D4 O2 D2 Z2
      go_wp2_with (go_at_call 80; refine (dr_one 40 (by omega) (by omega) D5 HL hn (by omega)).mono ?_; rintro e v6 ⟨x2, t6, rfl, ht6, d, o⟩; have D6 := Lib.hid d; have O6 := Lib.hid (O5.out.bar (Bar.of_only o _) (Nat.le_refl _) (Nat.lt_succ_self _)); clear d o; cases x2)
      · go_ret
        exact ⟨_, l5, t6, rfl, O6.out, hl5, by omega, D6.out, Z5.out⟩
      · go_wp2_with (go_at_call 91; refine (dr_pick 3 (by omega) (by omega) D6 HL hn (by omega)).mono ?_; rintro e v7 ⟨y, t7, rfl, ⟨y0, y1⟩, ht7, d, o1⟩; have DX := Lib.hid d; clear d o1)
        go_loopw [3] (fun v wx => TkLs w a n cap zs (t + 190) 601 v wx) (fun v _ => 602 - sliceLen v)
        case atStart => exact ⟨[], _, none, 0, rfl, OwnK.nil _ _, by simp, by omega, DX.out, SzT.nil⟩
        case round =>
          obtain ⟨L, t9, ad', cv', rfl, hoL, hL, ht9, hdL, hzL⟩ := hrel
          have O7 := Lib.hid hoL
          have D7 := Lib.hid hdL
          have Z7 := Lib.hid hzL
          clear hoL hdL hzL
          by_cases hlt : (L.length : Int) < 307 + y
          · have dl := is_lt hlt
            go_wp2_with (at_builtin; refine wpList_append_own _ rfl _ _ 23 rfl (w.heap.size + 1) 31 i0 (.agg #[.int .i64 0, .int .i64 0, .string ⟨#[]⟩, .int .i64 0]) 4 40 Tryz.underlying23 hi hz0 hz1 hz2 rfl (by decide) _ _ _ rfl (World.ownsRow.alloc (w := wr) O7.out _) ⟨wr.heap.size, 0, none⟩ 1 1 [.int .i64 2, .int .i64 0, .string ⟨#[97, 98, 99, 100, 101, 102, 103, 104, 105, 106, 107, 108]⟩, .int .i64 0] rfl rfl (new4a wr _ _ _ _ _) (one4 _ _ _ _) ?_ ?_ (by simp; have := D7.out.cur.lt; omega) ?_; (unfold maxLen; omega); omega; intro v' w3 hown1 hgrow1 _; have O3 : Hid (OwnK w3 (w.heap.size + 1) v' (L.length + 1) (L ++ [⟨2, 0, ⟨#[97, 98, 99, 100, 101, 102, 103, 104, 105, 106, 107, 108]⟩, 0⟩])) := Lib.hid (by unfold OwnK; rw [tkCs_snoc]; exact hown1); have D3 := Lib.hid (Dr.grown (D7.out.alloc _) hgrow1 (fun j hj => by have := (World.ownsRow.lt O7.out j hj).1; omega)); clear hown1 hgrow1)
            obtain ⟨g', cap', hv'⟩ := O3.out.form (Nat.succ_pos _)
            have HV := Lib.hid hv'
            clear hv'
            go_roundw
            case rel => exact ⟨L ++ [⟨2, 0, ⟨#[97, 98, 99, 100, 101, 102, 103, 104, 105, 106, 107, 108]⟩, 0⟩], t9, some ⟨g', 0, none⟩, cap', by rw [HV.out, List.length_append]; rfl, by rw [List.length_append]; have q := O3.out; rw [HV.out] at q; exact q, by rw [List.length_append]; simp; omega, ht9, D3.out, Z7.out.snoc (by show (⟨#[97, 98, 99, 100, 101, 102, 103, 104, 105, 106, 107, 108]⟩ : ByteArray).size ≤ 1048576; decide)⟩
            case measure => rw [HV.out]; simp [sliceLen]; omega
          · have dl := not_lt (Int.not_lt.1 hlt)
            go_wp2_with fail
            go_ret
            exact ⟨_, L, t9, rfl, O7.out, hL, by omega, D7.out, Z7.out⟩
    | succ j =>
      have hl8 : l.length ≤ 8 := by omega
      go_wp2_with (go_at_call 70; refine (dr_token D2 HL hn (by omega)).mono ?_; rintro e v2 ⟨k, b, v, s, t2, rfl, hs, ht2, d, bb⟩; have D4 := Lib.hid d; have O4 := Lib.hid (O2.out.bar bb (Nat.le_refl _) (Nat.lt_succ_self _)); clear d bb; refine Hid.out ?_)
      refine Lib.hid ?_
      go_wp2_with (at_builtin; refine wpList_append_own _ rfl _ _ 23 rfl (w.heap.size + 1) 31 i0 (.agg #[.int .i64 0, .int .i64 0, .string ⟨#[]⟩, .int .i64 0]) 4 40 Tryz.underlying23 hi hz0 hz1 hz2 rfl (by decide) _ _ _ rfl (World.ownsRow.alloc (w := v2) O4.out _) ⟨v2.heap.size, 0, none⟩ 1 1 [.int .i64 k, .int .i64 b, .string s, .int .i64 v] rfl rfl (new4a v2 _ _ _ _ _) (one4 _ _ _ _) ?_ ?_ (by simp; have := D4.out.cur.lt; omega) ?_; (unfold maxLen; omega); omega; intro v' w3 hown1 hgrow1 _; have O3 : Hid (OwnK w3 (w.heap.size + 1) v' (l.length + 1) (l ++ [⟨k, b, s, v⟩])) := Lib.hid (by unfold OwnK; rw [tkCs_snoc]; exact hown1); have D3 := Lib.hid (Dr.grown (D4.out.alloc _) hgrow1 (fun j hj => by have := (World.ownsRow.lt O4.out j hj).1; omega)); clear hown1 hgrow1)
      obtain ⟨g', cap', hv'⟩ := O3.out.form (Nat.succ_pos _)
      have HV := Lib.hid hv'
      clear hv'
      go_roundw
      case rel => exact ⟨l ++ [⟨k, b, s, v⟩], j, t2, some ⟨g', 0, none⟩, cap', by rw [HV.out, List.length_append]; rfl, by go_num, by omega, by rw [List.length_append]; have q := O3.out; rw [HV.out] at q; exact q, by simp; omega, by omega, D3.out, Z2.out.snoc (Nat.le_trans hs (by decide))⟩
      case measure => simp [intOf]
/-! What FnTouch draws. -/
def OneToks (w : World) (e : Ending) (w' : World) : Prop := ∃ (v : Value) (l : List Tok), e = .returned v ∧ SlT w' v l ∧ l.length ≤ 601 ∧ SzT l ∧ Below w.heap.size w w'
def OneTok (w : World) (e : Ending) (w' : World) : Prop := ∃ (k b v : Int) (s : ByteArray), e = .returned (.agg #[.int .i64 k, .int .i64 b, .string s, .int .i64 v]) ∧ s.size ≤ 13 ∧ Below w.heap.size w w'
def TwoTexts (w : World) (e : Ending) (w' : World) : Prop := ∃ (s u : ByteArray), e = .returned (.tuple #[.string s, .string u]) ∧ s.size ≤ 4001 ∧ u.size ≤ 4001 ∧ Below w.heap.size w w'
set_option maxHeartbeats 1600000 in
theorem drawJoin_any (w : World) (n cap : Nat) (a : Option Addr) (zs : List Int) (HL : Hid (zs.length = n)) (HI : Hid (In w a zs)) (hn : n ≤ 9223372036854775807) :
    Calls Tryz.prog 6 #[.slice a n cap] w (OneToks w) := by
  have D0 := Lib.hid (Dr.new (n := n) (cap := cap) HI.out)
  go_enter Tryz.func6, Tryz.ntmps6
  go_wp2_with (go_at_call 63; (with_reducible refine (dr_tokens (t := 0) (zs := zs) D0 HL hn (by omega)).mono ?_); rintro e v1 ⟨v, l, t1, rfl, ho, hl, ht1, d, hz⟩; have D1 := Lib.hid d; have O1 := Lib.hid ho.slt; have Z1 := Lib.hid hz; clear d ho hz)
  go_ret
  exact ⟨v, l, rfl, O1.out, hl, Z1.out, D1.out.bel⟩
set_option maxHeartbeats 1600000 in
theorem drawIsKey_any (w : World) (n cap : Nat) (a : Option Addr) (zs : List Int) (HL : Hid (zs.length = n)) (HI : Hid (In w a zs)) (hn : n ≤ 9223372036854775807) :
    Calls Tryz.prog 15 #[.slice a n cap] w (OneText w) := by
  have D0 := Lib.hid (Dr.new (n := n) (cap := cap) HI.out)
  go_enter Tryz.func15, Tryz.ntmps15
  go_wp2_with (go_at_call 77; (with_reducible refine (dr_text (t := 0) (zs := zs) D0 HL hn (by omega)).mono ?_); rintro e v1 ⟨s, t1, rfl, hs, ht1, d⟩; have D1 := Lib.hid d; clear d)
  go_ret
  exact ⟨s, rfl, by omega, D1.out.bel⟩
set_option maxHeartbeats 3200000 in
theorem drawSame_any (w : World) (n cap : Nat) (a : Option Addr) (zs : List Int) (HL : Hid (zs.length = n)) (HI : Hid (In w a zs)) (hn : n ≤ 9223372036854775807) :
    Calls Tryz.prog 16 #[.slice a n cap] w (TwoTexts w) := by
  have D0 := Lib.hid (Dr.new (n := n) (cap := cap) HI.out)
  go_enter Tryz.func16, Tryz.ntmps16
  go_wp2_with (go_at_call 78; (with_reducible refine (dr_tokenized (t := 0) (zs := zs) D0 HL hn (by omega)).mono ?_); rintro e v1 ⟨s, t1, rfl, hs, ht1, d⟩; have D1 := Lib.hid d; clear d; refine Hid.out ?_)
  refine Lib.hid ?_
  have HSP := Lib.hid (specSpaced_any s v1)
  have hz : (spR s).size ≤ 4000 := by
    unfold spR jnR
    split
    · split
      · rename_i h; unfold jnO at h; simpa using (Bool.and_eq_true_iff.1 h).2
      · decide
    · decide
  obtain ⟨J, hJ⟩ : ∃ J, spR s = J := ⟨_, rfl⟩
  obtain ⟨o, ho⟩ : ∃ o, spO s = o := ⟨_, rfl⟩
  rw [hJ, ho] at HSP
  rw [hJ] at hz
  clear hJ ho
  go_wp2_with (go_at_call 79; refine HSP.out.mono ?_; rintro e v2 ⟨rfl, b⟩; have D2 := Lib.hid (D1.out.up b); clear b; refine Hid.out ?_)
  refine Lib.hid ?_
  cases o
  · go_wp2_with (go_at_call 78; (with_reducible refine (dr_tokenized (t := t1) (zs := zs) D2 HL hn (by omega)).mono ?_); rintro e v3 ⟨u, t3, rfl, hu, ht3, d⟩; have D3 := Lib.hid d; clear d)
    go_ret2
    exact ⟨s, u, rfl, hs, hu, D3.out.bel⟩
  · go_wp2_with (go_at_call 80; refine (dr_one 4 (by omega) (by omega) D2 HL hn (by omega)).mono ?_; rintro e v3 ⟨x, t3, rfl, ht3, d, o⟩; have D3 := Lib.hid d; clear d o; refine Hid.out ?_)
    refine Lib.hid ?_
    cases x
    · go_wp2_with fail
      go_ret2
      exact ⟨s, J, rfl, hs, by omega, D3.out.bel⟩
    · go_wp2_with (go_at_call 78; (with_reducible refine (dr_tokenized (t := t3) (zs := zs) D3 HL hn (by omega)).mono ?_); rintro e v4 ⟨u, t4, rfl, hu, ht4, d⟩; have D4 := Lib.hid d; clear d)
      go_ret2
      exact ⟨s, u, rfl, hs, hu, D4.out.bel⟩
def TwoToks (w : World) (e : Ending) (w' : World) : Prop := ∃ (k b v k2 b2 v2 : Int) (s s2 : ByteArray), e = .returned (.tuple #[.agg #[.int .i64 k, .int .i64 b, .string s, .int .i64 v], .agg #[.int .i64 k2, .int .i64 b2, .string s2, .int .i64 v2]]) ∧ s.size ≤ 13 ∧ s2.size ≤ 13 ∧ Below w.heap.size w w'
set_option maxHeartbeats 1600000 in
theorem drawIsToken_any (w : World) (n cap : Nat) (a : Option Addr) (zs : List Int) (HL : Hid (zs.length = n)) (HI : Hid (In w a zs)) (hn : n ≤ 9223372036854775807) :
    Calls Tryz.prog 14 #[.slice a n cap] w (OneTok w) := by
  have D0 := Lib.hid (Dr.new (n := n) (cap := cap) (HI.out.below (one_new2 w (.cells #[.int .i64 0, .int .i64 0, .string ⟨#[]⟩, .int .i64 0] 31))))
  have R0 := Lib.hid (TokBox.new w (.int .i64 0) (.int .i64 0) (.string ⟨#[]⟩) (.int .i64 0) 31)
  go_enter Tryz.func14, Tryz.ntmps14
  have D0' : Hid (Dr (w.alloc (.cells #[.int .i64 0, .int .i64 0, .string ⟨#[]⟩, .int .i64 0] 31)) ((w.alloc (.cells #[.int .i64 0, .int .i64 0, .string ⟨#[]⟩, .int .i64 0] 31)).alloc (.cells #[.slice a n cap, .int .i64 0, .int .u64 0] 79)) a n cap zs 0) := D0
  have hz0 : (w.alloc (.cells #[.int .i64 0, .int .i64 0, .string ⟨#[]⟩, .int .i64 0] 31)).heap.size = w.heap.size + 1 := by simp
  have HT := Lib.hid (dr_token (t := 0) (zs := zs) D0' HL hn (by omega))
  rw [hz0] at HT
  go_wp2_with (go_at_call 70; refine HT.out.mono ?_; rintro e v1 ⟨k, b, v, s, t1, rfl, hs, ht1, d, bb⟩; have D1 := Lib.hid d; have R1 := Lib.hid (R0.out.keep (d.bel.block w.heap.size (by simp)) d.bel.size); clear d bb; obtain ⟨⟨y0, y1, y2, y3, _⟩, yf⟩ := R1.out; have h0 := yf 0; have h1 := yf 1; have h2 := yf 2; have h3 := yf 3; clear yf)
  obtain ⟨r0, r1, r2, r3⟩ := read4 R1.out.four (.int .i64 k) (.int .i64 b) (.string s) (.int .i64 v) _ rfl
  exact bodyPost_ret (v := .agg #[.int .i64 k, .int .i64 b, .string s, .int .i64 v]) (by simp [results, Tryz.results14, go_sem, r0, r1, r2, r3]) rfl ⟨k, b, v, s, rfl, hs, set4 ((one_new2 w (.cells #[.int .i64 0, .int .i64 0, .string ⟨#[]⟩, .int .i64 0] 31)).trans (D1.out.bel.mono (one_new2 w (.cells #[.int .i64 0, .int .i64 0, .string ⟨#[]⟩, .int .i64 0] 31)).size)) _ (Nat.le_refl _) _ _ _ _⟩
set_option maxHeartbeats 3200000 in
theorem drawTouch_any (w : World) (n cap : Nat) (a : Option Addr) (zs : List Int) (HL : Hid (zs.length = n)) (HI : Hid (In w a zs)) (hn : n ≤ 9223372036854775807) :
    Calls Tryz.prog 11 #[.slice a n cap] w (TwoToks w) := by
  have hb0 := two_new w (.cells #[.int .i64 0, .int .i64 0, .string ⟨#[]⟩, .int .i64 0] 31) (.cells #[.int .i64 0, .int .i64 0, .string ⟨#[]⟩, .int .i64 0] 31)
  have D0 : Hid (Dr ((w.alloc (.cells #[.int .i64 0, .int .i64 0, .string ⟨#[]⟩, .int .i64 0] 31)).alloc (.cells #[.int .i64 0, .int .i64 0, .string ⟨#[]⟩, .int .i64 0] 31)) (((w.alloc (.cells #[.int .i64 0, .int .i64 0, .string ⟨#[]⟩, .int .i64 0] 31)).alloc (.cells #[.int .i64 0, .int .i64 0, .string ⟨#[]⟩, .int .i64 0] 31)).alloc (.cells #[.slice a n cap, .int .i64 0, .int .u64 0] 79)) a n cap zs 0) := Lib.hid (Dr.new (n := n) (cap := cap) (HI.out.below hb0))
  have R0 : Hid (TokBox ((w.alloc (.cells #[.int .i64 0, .int .i64 0, .string ⟨#[]⟩, .int .i64 0] 31)).alloc (.cells #[.int .i64 0, .int .i64 0, .string ⟨#[]⟩, .int .i64 0] 31)) w.heap.size (.int .i64 0) (.int .i64 0) (.string ⟨#[]⟩) (.int .i64 0)) := Lib.hid ((TokBox.new w (.int .i64 0) (.int .i64 0) (.string ⟨#[]⟩) (.int .i64 0) 31).keep (Below.heap_alloc _ _ _ (by simp)) (by simp))
  have hz1 : (w.alloc (.cells #[.int .i64 0, .int .i64 0, .string ⟨#[]⟩, .int .i64 0] 31)).heap.size = w.heap.size + 1 := by simp
  have Q0 : Hid (TokBox ((w.alloc (.cells #[.int .i64 0, .int .i64 0, .string ⟨#[]⟩, .int .i64 0] 31)).alloc (.cells #[.int .i64 0, .int .i64 0, .string ⟨#[]⟩, .int .i64 0] 31)) (w.heap.size + 1) (.int .i64 0) (.int .i64 0) (.string ⟨#[]⟩) (.int .i64 0)) := Lib.hid (by rw [← hz1]; exact TokBox.new _ _ _ _ _ _)
  have hz0 : ((w.alloc (.cells #[.int .i64 0, .int .i64 0, .string ⟨#[]⟩, .int .i64 0] 31)).alloc (.cells #[.int .i64 0, .int .i64 0, .string ⟨#[]⟩, .int .i64 0] 31)).heap.size = w.heap.size + 1 + 1 := by simp
  have HB0 := Lib.hid hb0
  clear hb0
  go_enter Tryz.func11, Tryz.ntmps11
  have HT := Lib.hid (dr_token (t := 0) (zs := zs) D0 HL hn (by omega))
  rw [hz0] at HT
  go_wp2_with (go_at_call 70; refine HT.out.mono ?_; rintro e v1 ⟨k, b, v, s, t1, rfl, hs, ht1, d, bb⟩; have D1 := Lib.hid d; clear d bb; refine Hid.out ?_)
  refine Lib.hid ?_
  have HT2 := Lib.hid (dr_token (t := t1) (zs := zs) D1 HL hn (by omega))
  rw [hz0] at HT2
  clear HT
  go_wp2_with (go_at_call 70; refine HT2.out.mono ?_; rintro e v2 ⟨k2, b2, v2', s2, t2, rfl, hs2, ht2, d, bb⟩; have D2 := Lib.hid d; have R2 := Lib.hid (R0.out.keep (d.bel.block w.heap.size (by rw [hz0]; omega)) d.bel.size); have Q2 := Lib.hid (Q0.out.keep (d.bel.block (w.heap.size + 1) (by rw [hz0]; omega)) d.bel.size); clear d bb; obtain ⟨⟨y0, y1, y2, y3, _⟩, yf⟩ := R2.out; have h0 := yf 0; have h1 := yf 1; have h2 := yf 2; have h3 := yf 3; clear yf; obtain ⟨⟨z0, z1, z2, z3, _⟩, zf⟩ := Q2.out; have g0 := zf 0; have g1 := zf 1; have g2 := zf 2; have g3 := zf 3; clear zf)
  have R3 := R2.out.set4 (.int .i64 k) (.int .i64 b) (.string s) (.int .i64 v)
  have Q3 := (((Q2.out.other (b := w.heap.size) (by omega) 0 (.int .i64 k)).other (b := w.heap.size) (by omega) 1 (.int .i64 b)).other (b := w.heap.size) (by omega) 2 (.string s)).other (b := w.heap.size) (by omega) 3 (.int .i64 v)
  have R4 := (((R3.other (b := w.heap.size + 1) (by omega) 0 (.int .i64 k2)).other (b := w.heap.size + 1) (by omega) 1 (.int .i64 b2)).other (b := w.heap.size + 1) (by omega) 2 (.string s2)).other (b := w.heap.size + 1) (by omega) 3 (.int .i64 v2')
  have Q4 := Q3.set4 (.int .i64 k2) (.int .i64 b2) (.string s2) (.int .i64 v2')
  obtain ⟨⟨r0, r1, r2, r3, _⟩, _⟩ := R4
  obtain ⟨⟨q0, q1, q2, q3, _⟩, _⟩ := Q4
  exact bodyPost_ret (v := .tuple #[.agg #[.int .i64 k, .int .i64 b, .string s, .int .i64 v], .agg #[.int .i64 k2, .int .i64 b2, .string s2, .int .i64 v2']]) (by simp [results, Tryz.results11, go_sem, r0, r1, r2, r3, q0, q1, q2, q3]) rfl ⟨k, b, v, k2, b2, v2', s, s2, rfl, hs, hs2, set4 (set4 (HB0.out.trans (D2.out.bel.mono HB0.out.size)) _ (Nat.le_refl _) _ _ _ _) _ (Nat.le_succ _) _ _ _ _⟩
end Go.Proofs.YtmmofchfafnkcaaGreatDoor
