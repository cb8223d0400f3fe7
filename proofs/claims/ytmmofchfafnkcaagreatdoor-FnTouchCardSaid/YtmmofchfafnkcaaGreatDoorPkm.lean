import Derived.Test.YtmmofchfafnkcaaGreatDoorPkl
import Derived.Test.YtmmofchfafnkcaaGreatDoorPkf
/- What a law draws of its bytes: any numbers, any bytes of the draw's own. -/
namespace Go.Proofs.YtmmofchfafnkcaaGreatDoor
set_option maxRecDepth 100000
open Go.RowKit

theorem ints_seven (w : World) (x0 x1 x2 x3 x4 x5 x6 : Int) (ty : TypeId) : Ints (w.alloc (.cells #[.int .i64 x0, .int .i64 x1, .int .i64 x2, .int .i64 x3, .int .i64 x4, .int .i64 x5, .int .i64 x6] ty)) w.heap.size 7 := by
  intro i hi
  rw [World.cell?_alloc_at _ _ _ _ rfl]
  rcases (show i = 0 ∨ i = 1 ∨ i = 2 ∨ i = 3 ∨ i = 4 ∨ i = 5 ∨ i = 6 by omega) with rfl | rfl | rfl | rfl | rfl | rfl | rfl <;> exact ⟨_, rfl⟩
theorem ints_eight (w : World) (x0 x1 x2 x3 x4 x5 x6 x7 : Int) (ty : TypeId) : Ints (w.alloc (.cells #[.int .i64 x0, .int .i64 x1, .int .i64 x2, .int .i64 x3, .int .i64 x4, .int .i64 x5, .int .i64 x6, .int .i64 x7] ty)) w.heap.size 8 := by
  intro i hi
  rw [World.cell?_alloc_at _ _ _ _ rfl]
  rcases (show i = 0 ∨ i = 1 ∨ i = 2 ∨ i = 3 ∨ i = 4 ∨ i = 5 ∨ i = 6 ∨ i = 7 by omega) with rfl | rfl | rfl | rfl | rfl | rfl | rfl | rfl <;> exact ⟨_, rfl⟩
theorem ints_ten (w : World) (x0 x1 x2 x3 x4 x5 x6 x7 x8 x9 : Int) (ty : TypeId) : Ints (w.alloc (.cells #[.int .i64 x0, .int .i64 x1, .int .i64 x2, .int .i64 x3, .int .i64 x4, .int .i64 x5, .int .i64 x6, .int .i64 x7, .int .i64 x8, .int .i64 x9] ty)) w.heap.size 10 := by
  intro i hi
  rw [World.cell?_alloc_at _ _ _ _ rfl]
  rcases (show i = 0 ∨ i = 1 ∨ i = 2 ∨ i = 3 ∨ i = 4 ∨ i = 5 ∨ i = 6 ∨ i = 7 ∨ i = 8 ∨ i = 9 by omega) with rfl | rfl | rfl | rfl | rfl | rfl | rfl | rfl | rfl | rfl <;> exact ⟨_, rfl⟩
theorem cur_new (w : World) (a : Option Addr) (n cap : Nat) : CurAt (w.alloc (.cells #[.slice a n cap, .int .i64 0, .int .u64 0] 79)) w.heap.size a n cap 0 := ⟨0, by show (w.heap.push _)[w.heap.size]? = _; simp⟩

/-- drawing: the cursor is the call's first block -/
structure Dr (w wr : World) (a : Option Addr) (n cap : Nat) (zs : List Int) (t : Nat) : Prop where
  cur : CurAt wr w.heap.size a n cap t
  bel : Below w.heap.size w wr
  src : In wr a zs
  ahead : Ahead w.heap.size a zs
theorem Dr.new {w : World} {a : Option Addr} {n cap : Nat} {zs : List Int} (h : In w a zs) : Dr w (w.alloc (.cells #[.slice a n cap, .int .i64 0, .int .u64 0] 79)) a n cap zs 0 :=
  ⟨cur_new w a n cap, (Below.refl _ w).alloc (Nat.le_refl _) _, h.below ((Below.refl _ w).alloc (Nat.le_refl _) _), h.ahead⟩
theorem Dr.alloc {w wr : World} {a : Option Addr} {n cap t : Nat} {zs : List Int} (h : Dr w wr a n cap zs t) (o : Obj) : Dr w (wr.alloc o) a n cap zs t :=
  ⟨h.cur.alloc o, h.bel.alloc h.bel.size o, h.src.below ((Below.refl _ wr).alloc (Nat.le_refl _) o), h.ahead⟩
theorem Dr.bar {w wr w' : World} {a : Option Addr} {n cap t t' : Nat} {zs : List Int} (h : Dr w wr a n cap zs t) (hc : CurAt w' w.heap.size a n cap t') (hb : Bar w.heap.size wr.heap.size wr w') : Dr w w' a n cap zs t' :=
  ⟨hc, h.bel.trans (hb.below h.bel.size (Nat.le_refl _)), h.src.bar hb h.ahead (h.ahead.mono h.bel.size), h.ahead⟩
theorem Dr.only {w wr w' : World} {a : Option Addr} {n cap t t' : Nat} {zs : List Int} (h : Dr w wr a n cap zs t) (hc : CurAt w' w.heap.size a n cap t') (hb : OnlyBlock w.heap.size wr w') : Dr w w' a n cap zs t' :=
  h.bar hc (Bar.of_only hb _)
def DrInt (w wr : World) (a : Option Addr) (n cap : Nat) (zs : List Int) (t : Nat) (P : Int → Prop) (e : Ending) (w' : World) : Prop :=
  ∃ (r : Int) (t' : Nat), e = .returned (.int .i64 r) ∧ P r ∧ t' ≤ t + 2 ∧ Dr w w' a n cap zs t' ∧ OnlyBlock w.heap.size wr w'
theorem dr_pick {w wr : World} {a : Option Addr} {n cap t : Nat} {zs : List Int} (m : Int) (hm : 1 < m) (hm2 : m ≤ 1000000) (HD : Hid (Dr w wr a n cap zs t)) (HL : Hid (zs.length = n)) (hn : n ≤ 9223372036854775807) (ht : t ≤ 1000000) :
    Calls Tryz.prog 91 #[.pointer (some ⟨w.heap.size, 0, none⟩), .int .i64 m] wr (DrInt w wr a n cap zs t fun r => 0 ≤ r ∧ r < m) :=
  (pick_any wr _ n cap t a zs m hm hm2 HD.out.cur HD.out.ahead HL HD.out.src hn ht).mono fun _ _ ⟨r, t', he, h0, h1, h2, h3, h4⟩ => ⟨r, t', he, ⟨h0, h1⟩, h2, HD.out.only h3 h4, h4⟩
theorem dr_among {w wr : World} {a : Option Addr} {n cap t m cl : Nat} {zs : List Int} {o : Obj} (HX : Ints (wr.alloc o) wr.heap.size m) (hm : 1 < m) (hm2 : m ≤ 100) (HD : Hid (Dr w wr a n cap zs t)) (HL : Hid (zs.length = n)) (hn : n ≤ 9223372036854775807) (ht : t ≤ 1000000) :
    Calls Tryz.prog 101 #[.pointer (some ⟨w.heap.size, 0, none⟩), .slice (some ⟨wr.heap.size, 0, none⟩) m cl] (wr.alloc o) (DrInt w (wr.alloc o) a n cap zs t fun _ => True) :=
  (among_any (wr.alloc o) _ n cap t wr.heap.size m cl a zs HX (by have := HD.out.cur.lt; omega) (by omega) (by omega) (HD.out.alloc o).cur HD.out.ahead HL (HD.out.alloc o).src hn ht).mono fun _ _ ⟨r, t', he, h2, h3, h4⟩ => ⟨r, t', he, trivial, h2, (HD.out.alloc o).only h3 h4, h4⟩

/-- two numbers were drawn -/
def TwoInts (w : World) (e : Ending) (w' : World) : Prop := ∃ x y : Int, e = .returned (.tuple #[.int .i64 x, .int .i64 y]) ∧ Below w.heap.size w w'

theorem OwnV.shape {w : World} {B n : Nat} {v : Value} {zs : List Int} (h : OwnV w B v n zs) : ∃ a cap, v = .slice a n cap := by
  rcases h.2 with ⟨hv, h0⟩ | ⟨g, cap, cur, hv, _⟩
  · subst h0
    exact ⟨_, _, hv⟩
  · exact ⟨_, _, hv⟩
theorem OwnV.base {w : World} {B B' n : Nat} {v : Value} {zs : List Int} (h : OwnV w B v n zs) (hB : B' ≤ B) : OwnV w B' v n zs := by
  obtain ⟨h1, h2⟩ := h
  refine ⟨h1, ?_⟩
  rcases h2 with h2 | ⟨g1, cap', cur, a, b, c⟩
  · exact .inl h2
  · exact .inr ⟨g1, cap', cur, a, by omega, c⟩
def DrBytes (w : World) (a : Option Addr) (n cap : Nat) (zs : List Int) (t : Nat) (e : Ending) (w' : World) : Prop :=
  ∃ (da : Option Addr) (l dc t' : Nat) (ys : List Int), e = .returned (.slice da l dc) ∧ l ≤ 4001 ∧ OwnV w' (w.heap.size + 1) (.slice da l dc) l ys ∧ (∀ c ∈ ys, 0 ≤ c ∧ c ≤ 255) ∧ t' ≤ t + 100 ∧ Dr w w' a n cap zs t'
theorem OwnV.step {wr w' : World} {o : Obj} {B n : Nat} {v : Value} {zs : List Int} (h : OwnV wr (B + 1) v n zs) (ho : OnlyBlock B (wr.alloc o) w') : OwnV w' (B + 1) v n zs :=
  OwnV.only (World.ownsRow.alloc h o) ho (Nat.lt_succ_self B)
/-- bytes and two numbers were drawn -/
def BytesTwo (w : World) (e : Ending) (w' : World) : Prop :=
  ∃ (da : Option Addr) (l dc : Nat) (ys : List Int) (x y : Int), e = .returned (.tuple #[.slice da l dc, .int .i64 x, .int .i64 y]) ∧ l ≤ 4001 ∧ OwnV w' (w.heap.size + 1) (.slice da l dc) l ys ∧ (∀ c ∈ ys, 0 ≤ c ∧ c ≤ 255) ∧ Below w.heap.size w w'
def BytesOne (w : World) (e : Ending) (w' : World) : Prop :=
  ∃ (da : Option Addr) (l dc : Nat) (ys : List Int) (x : Int), e = .returned (.tuple #[.slice da l dc, .int .i64 x]) ∧ l ≤ 4001 ∧ OwnV w' (w.heap.size + 1) (.slice da l dc) l ys ∧ (∀ c ∈ ys, 0 ≤ c ∧ c ≤ 255) ∧ Below w.heap.size w w'

end Go.Proofs.YtmmofchfafnkcaaGreatDoor

/- What a law draws of its bytes for PadTo. -/
namespace Go.Proofs.YtmmofchfafnkcaaGreatDoor
set_option maxRecDepth 100000
open Go.RowKit

theorem dr_one {w wr : World} {a : Option Addr} {n cap t : Nat} {zs : List Int} (m : Int) (hm : 1 < m) (hm2 : m ≤ 1000000) (HD : Hid (Dr w wr a n cap zs t)) (HL : Hid (zs.length = n)) (hn : n ≤ 9223372036854775807) (ht : t ≤ 1000000) :
    Calls Tryz.prog 80 #[.pointer (some ⟨w.heap.size, 0, none⟩), .int .i64 m] wr fun e w' => ∃ (r : Bool) (t' : Nat), e = .returned (.bool r) ∧ t' ≤ t + 2 ∧ Dr w w' a n cap zs t' ∧ OnlyBlock w.heap.size wr w' :=
  (one_any wr _ n cap t a zs m hm hm2 HD.out.cur HD.out.ahead HL HD.out.src hn ht).mono fun _ _ ⟨r, t', he, h2, h3, h4⟩ => ⟨r, t', he, h2, HD.out.only h3 h4, h4⟩
theorem OwnV.step0 {wr w' : World} {B n : Nat} {v : Value} {zs : List Int} (h : OwnV wr (B + 1) v n zs) (ho : OnlyBlock B wr w') : OwnV w' (B + 1) v n zs := OwnV.only h ho (Nat.lt_succ_self B)

end Go.Proofs.YtmmofchfafnkcaaGreatDoor

/- What FnTokens draws of its bytes: texts of tokens. -/
namespace Go.Proofs.YtmmofchfafnkcaaGreatDoor
set_option maxRecDepth 100000
open Go.RowKit
set_option linter.unusedVariables false

/-- a list of strings in block gl, each of at most L bytes -/
def Strs (w : World) (gl m L : Nat) : Prop := ∀ i, i < m → ∃ x : ByteArray, x.size ≤ L ∧ w.cell? ⟨gl, i, none⟩ = some (.string x)
theorem Strs.only {w w' : World} {gl m L g : Nat} (h : Strs w gl m L) (ho : OnlyBlock g w w') (hg : gl ≠ g) : Strs w' gl m L := fun i hi => by
  obtain ⟨x, hl, hx⟩ := h i hi
  exact ⟨x, hl, by rw [← hx]; exact World.cell?_of_block (a := ⟨gl, i, none⟩) (ho.2.2 gl hg)⟩
def shortAt (L : Nat) : Option Value → Bool
  | some (.string x) => decide (x.size ≤ L)
  | _ => false
theorem strs_of (w : World) (cs : Array Value) (ty : TypeId) (m L : Nat) (h : (List.range m).all (fun i => shortAt L cs[i]?) = true) : Strs (w.alloc (.cells cs ty)) w.heap.size m L := fun i hi => by
  have hq := List.all_eq_true.1 h i (List.mem_range.2 hi)
  rw [World.cell?_alloc_at _ _ _ _ rfl]
  cases hc : cs[i]? with
  | none => rw [hc] at hq; simp [shortAt] at hq
  | some v =>
    rw [hc] at hq
    cases v with
    | string x => exact ⟨x, by simpa [shortAt] using hq, rfl⟩
    | _ => simp [shortAt] at hq
def DrStr (w wr : World) (a : Option Addr) (n cap : Nat) (zs : List Int) (t L K : Nat) (e : Ending) (w' : World) : Prop :=
  ∃ (s : ByteArray) (t' : Nat), e = .returned (.string s) ∧ s.size ≤ L ∧ t' ≤ t + K ∧ Dr w w' a n cap zs t'
theorem dr_of {w wr : World} {a : Option Addr} {n cap t m cl L : Nat} {zs : List Int} {o : Obj} (HX : Strs (wr.alloc o) wr.heap.size m L) (hm : 1 < m) (hm2 : m ≤ 100) (HD : Hid (Dr w wr a n cap zs t)) (HL : Hid (zs.length = n)) (hn : n ≤ 9223372036854775807) (ht : t ≤ 1000000) :
    Calls Tryz.prog 149 #[.pointer (some ⟨w.heap.size, 0, none⟩), .slice (some ⟨wr.heap.size, 0, none⟩) m cl] (wr.alloc o) (DrStr w (wr.alloc o) a n cap zs t L 2) := by
  have HX := Lib.hid HX
  have HD2 := Lib.hid (HD.out.alloc o)
  have hne : wr.heap.size ≠ w.heap.size := by have := HD.out.cur.lt; omega
  obtain ⟨wa, hwa⟩ : ∃ wa, wr.alloc o = wa := ⟨_, rfl⟩
  rw [hwa] at HX HD2 ⊢
  clear hwa HD
  go_enter Tryz.func149, Tryz.ntmps149
  go_wp2_with (go_at_call 91; refine (dr_pick (m : Int) (by omega) (by omega) HD2 HL hn ht).mono ?_; rintro e v1 ⟨r, t1, rfl, ⟨r0, r1⟩, ht1, d, o1⟩; obtain ⟨x, hxl, hx⟩ := (HX.out.only o1 hne) r.toNat (by omega); have D1 := Lib.hid d; clear d o1)
  go_ret
  exact ⟨x, t1, rfl, hxl, ht1, D1.out⟩
def sizeV : Value → Nat
  | .string u => u.size
  | _ => 0
def OnesRel (m : Int) (s : Value) : Prop := ∃ u : ByteArray, s = .string u ∧ (u.size : Int) ≤ m
theorem Dr.up {w wr w' : World} {a : Option Addr} {n cap t : Nat} {zs : List Int} (h : Dr w wr a n cap zs t) (hb : Below wr.heap.size wr w') : Dr w w' a n cap zs t := h.bar (h.cur.kept (hb.block _ h.cur.lt)) (Bar.of_below hb)
theorem strs_texts {w : World} {g L : Nat} {l : List ByteArray} (h : TextsAt w g l) (hL : ∀ x ∈ l, x.size ≤ L) : Strs w g l.length L := fun i hi =>
  ⟨l.getD i ⟨#[]⟩, hL _ (by rw [List.getD_eq_getElem?_getD, List.getElem?_eq_getElem hi]; exact List.getElem_mem hi), h i hi⟩
theorem dr_at {w wr : World} {a : Option Addr} {n cap t m cl L gl : Nat} {zs : List Int} (HX : Hid (Strs wr gl m L)) (hg : gl ≠ w.heap.size) (hm : 1 < m) (hm2 : m ≤ 100) (HD : Hid (Dr w wr a n cap zs t)) (HL : Hid (zs.length = n)) (hn : n ≤ 9223372036854775807) (ht : t ≤ 1000000) :
    Calls Tryz.prog 149 #[.pointer (some ⟨w.heap.size, 0, none⟩), .slice (some ⟨gl, 0, none⟩) m cl] wr (DrStr w wr a n cap zs t L 2) := by
  go_enter Tryz.func149, Tryz.ntmps149
  go_wp2_with (go_at_call 91; refine (dr_pick (m : Int) (by omega) (by omega) HD HL hn ht).mono ?_; rintro e v1 ⟨r, t1, rfl, ⟨r0, r1⟩, ht1, d, o1⟩; obtain ⟨x, hxl, hx⟩ := (HX.out.only o1 hg) r.toNat (by omega); have D1 := Lib.hid d; clear d o1)
  go_ret
  exact ⟨x, t1, rfl, hxl, ht1, D1.out⟩
theorem kw_short : ∀ x ∈ kwA, x.size ≤ 13 := by decide
theorem sg_short : ∀ x ∈ sgA, x.size ≤ 13 := by decide
theorem tt_keys {w wr w1 : World} {a : Option Addr} {n cap t : Nat} {zs : List Int} {l : List ByteArray} {e : Ending} (k : Nat) (hk : l.length = k) (hs : ∀ x ∈ l, x.size ≤ 13) (HD : Dr w wr a n cap zs t) (h : e = .returned (.slice (some ⟨wr.heap.size, 0, none⟩) k k) ∧ TextsAt w1 wr.heap.size l ∧ Below wr.heap.size wr w1) :
    e = .returned (.slice (some ⟨wr.heap.size, 0, none⟩) k k) ∧ Hid (Strs w1 wr.heap.size k 13) ∧ Hid (Dr w w1 a n cap zs t) ∧ wr.heap.size ≠ w.heap.size := by
  subst hk
  exact ⟨h.1, strs_texts h.2.1 hs, HD.up h.2.2, by have := HD.cur.lt; omega⟩
set_option maxHeartbeats 3200000 in
theorem dr_text {w wr : World} {a : Option Addr} {n cap t : Nat} {zs : List Int} (HD : Hid (Dr w wr a n cap zs t)) (HL : Hid (zs.length = n)) (hn : n ≤ 9223372036854775807) (ht : t ≤ 900000) :
    Calls Tryz.prog 77 #[.pointer (some ⟨w.heap.size, 0, none⟩)] wr (DrStr w wr a n cap zs t 13 6) := by
  go_enter Tryz.func77, Tryz.ntmps77
  go_wp2_with (go_at_call 91; refine (dr_pick 8 (by omega) (by omega) HD HL hn (by omega)).mono ?_; rintro e v1 ⟨r, t1, rfl, ⟨r0, r1⟩, ht1, d, o1⟩; have D1 := Lib.hid d; clear d o1; refine Hid.out ?_)
  refine Lib.hid ?_
  have SG : Hid (Calls Tryz.prog 146 #[] v1 fun e w1 => e = .returned (.slice (some ⟨v1.heap.size, 0, none⟩) 6 6) ∧ Hid (Strs w1 v1.heap.size 6 13) ∧ Hid (Dr w w1 a n cap zs t1) ∧ v1.heap.size ≠ w.heap.size) := Lib.hid ((tkSigns_any v1).mono fun _ _ h => tt_keys 6 rfl sg_short D1.out h)
  have KY : Hid (Calls Tryz.prog 84 #[] v1 fun e w1 => e = .returned (.slice (some ⟨v1.heap.size, 0, none⟩) 14 14) ∧ Hid (Strs w1 v1.heap.size 14 13) ∧ Hid (Dr w w1 a n cap zs t1) ∧ v1.heap.size ≠ w.heap.size) := Lib.hid ((tkKeys_any v1).mono fun _ _ h => tt_keys 14 rfl kw_short D1.out h)
  obtain rfl | rfl | rfl | rfl | rfl | rfl | hr : r = 0 ∨ r = 1 ∨ r = 2 ∨ r = 3 ∨ r = 4 ∨ r = 5 ∨ 6 ≤ r := by omega
  · go_wp2_with (first | (go_at_call 84; refine KY.out.mono ?_; rintro e v2 ⟨rfl, HS, D2, hg⟩) | (go_at_call 149; (with_reducible refine (dr_at (t := t1) (zs := zs) HS hg (by omega) (by omega) D2 HL hn (by omega)).mono ?_); rintro e v3 ⟨x, t2, rfl, hx, ht2, d⟩; have D3 := Lib.hid d; clear d))
    go_ret
    exact ⟨x, t2, rfl, hx, by omega, D3.out⟩
  · go_wp2_with (first | (go_at_call 84; refine KY.out.mono ?_; rintro e v2 ⟨rfl, HS, D2, hg⟩) | (go_at_call 149; (with_reducible refine (dr_at (t := t1) (zs := zs) HS hg (by omega) (by omega) D2 HL hn (by omega)).mono ?_); rintro e v3 ⟨x, t2, rfl, hx, ht2, d⟩; have D3 := Lib.hid d; clear d))
    go_ret
    exact ⟨x, t2, rfl, hx, by omega, D3.out⟩
  · go_wp2_with (go_at_call 149; (with_reducible refine (dr_of (m := 5) (L := 13) (t := t1) (zs := zs) (strs_of _ _ _ 5 13 (by decide)) (by omega) (by omega) D1 HL hn (by omega)).mono ?_); rintro e v2 ⟨x, t2, rfl, hx, ht2, d⟩; have D3 := Lib.hid d; clear d)
    go_ret
    exact ⟨x, t2, rfl, hx, by omega, D3.out⟩
  · go_wp2_with (go_at_call 149; (with_reducible refine (dr_of (m := 8) (L := 13) (t := t1) (zs := zs) (strs_of _ _ _ 8 13 (by decide)) (by omega) (by omega) D1 HL hn (by omega)).mono ?_); rintro e v2 ⟨x, t2, rfl, hx, ht2, d⟩; have D3 := Lib.hid d; clear d)
    go_ret
    exact ⟨x, t2, rfl, hx, by omega, D3.out⟩
  · go_wp2_with (go_at_call 149; (with_reducible refine (dr_of (m := 8) (L := 13) (t := t1) (zs := zs) (strs_of _ _ _ 8 13 (by decide)) (by omega) (by omega) D1 HL hn (by omega)).mono ?_); rintro e v2 ⟨x, t2, rfl, hx, ht2, d⟩; have D3 := Lib.hid d; clear d)
    go_ret
    exact ⟨x, t2, rfl, hx, by omega, D3.out⟩
  · go_wp2_with (go_at_call 80; refine (dr_one 3 (by omega) (by omega) D1 HL hn (by omega)).mono ?_; rintro e v2 ⟨x, t2, rfl, ht2, d, o⟩; have D2 := Lib.hid d; clear d o; refine Hid.out ?_)
    refine Lib.hid ?_
    cases x
    · have SG2 : Hid (Calls Tryz.prog 146 #[] v2 fun e w1 => e = .returned (.slice (some ⟨v2.heap.size, 0, none⟩) 6 6) ∧ Hid (Strs w1 v2.heap.size 6 13) ∧ Hid (Dr w w1 a n cap zs t2) ∧ v2.heap.size ≠ w.heap.size) := Lib.hid ((tkSigns_any v2).mono fun _ _ h => tt_keys 6 rfl sg_short D2.out h)
      go_wp2_with (first | (go_at_call 146; refine SG2.out.mono ?_; rintro e v3 ⟨rfl, HS, D3, hg⟩) | (go_at_call 149; (with_reducible refine (dr_at (t := t2) (zs := zs) HS hg (by omega) (by omega) D3 HL hn (by omega)).mono ?_); rintro e v4 ⟨y, t3, rfl, hy, ht3, d⟩; have D4 := Lib.hid d; clear d))
      go_ret
      exact ⟨y, t3, rfl, hy, by omega, D4.out⟩
    · go_wp2_with (go_at_call 149; (with_reducible refine (dr_of (m := 12) (L := 13) (t := t2) (zs := zs) (strs_of _ _ _ 12 13 (by decide)) (by omega) (by omega) D2 HL hn (by omega)).mono ?_); rintro e v3 ⟨y, t3, rfl, hy, ht3, d⟩; have D4 := Lib.hid d; clear d)
      go_ret
      exact ⟨y, t3, rfl, hy, by omega, D4.out⟩
  · have e0 : (r == 0) = false := by simp; omega
    have e1 : (r == 1) = false := by simp; omega
    have e2 : (r == 2) = false := by simp; omega
    have e3 : (r == 3) = false := by simp; omega
    have e4 : (r == 4) = false := by simp; omega
    have e5 : (r == 5) = false := by simp; omega
    go_wp2_with (first | (go_at_call 146; refine SG.out.mono ?_; rintro e v3 ⟨rfl, HS, D3, hg⟩) | (go_at_call 149; (with_reducible refine (dr_at (t := t1) (zs := zs) HS hg (by omega) (by omega) D3 HL hn (by omega)).mono ?_); rintro e v4 ⟨y, t3, rfl, hy, ht3, d⟩; have D4 := Lib.hid d; clear d))
    go_ret
    exact ⟨y, t3, rfl, hy, by omega, D4.out⟩
def TkzRel (w : World) (a : Option Addr) (n cap : Nat) (zs : List Int) (t : Nat) (s k : Value) (wr : World) : Prop :=
  ∃ (j t' : Nat) (u : ByteArray), j ≤ 11 ∧ k = .int .i64 j ∧ s = .string u ∧ u.size + 20 * j ≤ 220 ∧ t' + 8 * j ≤ t + 90 ∧ Dr w wr a n cap zs t'
def SemRel (M c : Nat) (s k : Value) : Prop := ∃ (j : Nat) (u : ByteArray), j ≤ 601 ∧ k = .int .i64 j ∧ s = .string u ∧ u.size + c * j ≤ M
set_option maxHeartbeats 3200000 in
theorem dr_tokenized {w wr : World} {a : Option Addr} {n cap t : Nat} {zs : List Int} (HD : Hid (Dr w wr a n cap zs t)) (HL : Hid (zs.length = n)) (hn : n ≤ 9223372036854775807) (ht : t ≤ 800000) :
    Calls Tryz.prog 78 #[.pointer (some ⟨w.heap.size, 0, none⟩)] wr (DrStr w wr a n cap zs t 4001 100) := by
  go_enter Tryz.func78, Tryz.ntmps78
  go_wp2_with (go_at_call 91; refine (dr_pick 12 (by omega) (by omega) HD HL hn (by omega)).mono ?_; rintro e v1 ⟨r, t1, rfl, ⟨r0, r1⟩, ht1, d, o1⟩; have D1 := Lib.hid d; clear d o1)
  go_loopw [3, 4] (fun s k wr => TkzRel w a n cap zs t s k wr) (fun _ k _ => (intOf k).toNat)
  case atStart => exact ⟨r.toNat, t1, ⟨#[]⟩, by omega, by go_num, rfl, by rw [show (⟨#[]⟩ : ByteArray).size = 0 from rfl]; omega, by omega, D1.out⟩
  case round =>
    obtain ⟨j, t', u, hj, rfl, rfl, hu, ht', hd⟩ := hrel
    have D2 := Lib.hid hd
    clear hd
    cases j with
    | zero =>
      have hu220 : u.size ≤ 220 := by omega
      go_wp2_with (go_at_call 91; refine (dr_pick 40 (by omega) (by omega) D2 HL hn (by omega)).mono ?_; rintro e v2 ⟨x, t2, rfl, ⟨x0, x1⟩, ht2, d, o1⟩; have D3 := Lib.hid d; clear d o1; refine Hid.out ?_)
      refine Lib.hid ?_
      obtain rfl | rfl | rfl | hx : x = 0 ∨ x = 1 ∨ x = 2 ∨ 3 ≤ x := by omega
      · go_wp2_with (go_at_call 91; refine (dr_pick 2 (by omega) (by omega) D3 HL hn (by omega)).mono ?_; rintro e v3 ⟨y, t3, rfl, ⟨y0, y1⟩, ht3, d, o1⟩; have D4 := Lib.hid d; clear d o1)
        go_loop [3, 5] (fun s k => SemRel 1422 2 s k) (fun _ k => (intOf k).toNat)
        case atStart => exact ⟨(600 + y).toNat, u, by omega, by go_num, rfl, by omega⟩
        case round =>
          obtain ⟨j, u', hj', rfl, rfl, hu'⟩ := hrel
          cases j with
          | zero =>
            go_wp2
            go_ret
            exact ⟨u', t3, rfl, by omega, by omega, D4.out⟩
          | succ j =>
            go_wp2
            go_round
            case rel => exact ⟨j, _, by omega, by go_num, rfl, by rw [ByteArray.size_append, show (⟨#[59, 32]⟩ : ByteArray).size = 2 from rfl]; omega⟩
            case measure => simp [intOf]
      · go_wp2_with (go_at_call 91; refine (dr_pick 2 (by omega) (by omega) D3 HL hn (by omega)).mono ?_; rintro e v3 ⟨y, t3, rfl, ⟨y0, y1⟩, ht3, d, o1⟩; have D4 := Lib.hid d; clear d o1)
        go_loop [3] (fun s => OnesRel 4001 s) (fun s => 4001 - sizeV s)
        case atStart => exact ⟨u, rfl, by omega⟩
        case round =>
          obtain ⟨u', rfl, hu'⟩ := hrel
          by_cases hlt : (u'.size : Int) < 4000 + y
          · have dl := is_lt hlt
            go_wp2
            go_round
            case rel => exact ⟨_, rfl, by rw [ByteArray.size_append, show (⟨#[32]⟩ : ByteArray).size = 1 from rfl]; omega⟩
            case measure => simp only [sizeV, ByteArray.size_append, show (⟨#[32]⟩ : ByteArray).size = 1 from rfl]; omega
          · have dl := not_lt (Int.not_lt.1 hlt)
            go_wp2
            go_ret
            exact ⟨u', t3, rfl, by omega, by omega, D4.out⟩
      · go_wp2_with (go_at_call 91; refine (dr_pick 2 (by omega) (by omega) D3 HL hn (by omega)).mono ?_; rintro e v3 ⟨y, t3, rfl, ⟨y0, y1⟩, ht3, d, o1⟩; have D4 := Lib.hid d; clear d o1)
        go_loop [3, 7] (fun s k => SemRel 601 1 s k) (fun _ k => (intOf k).toNat)
        case atStart => exact ⟨(600 + y).toNat, ⟨#[]⟩, by omega, by go_num, rfl, by rw [show (⟨#[]⟩ : ByteArray).size = 0 from rfl]; omega⟩
        case round =>
          obtain ⟨j, u', hj', rfl, rfl, hu'⟩ := hrel
          cases j with
          | zero =>
            go_wp2
            go_ret
            exact ⟨u', t3, rfl, by omega, by omega, D4.out⟩
          | succ j =>
            go_wp2
            go_round
            case rel => exact ⟨j, _, by omega, by go_num, rfl, by rw [ByteArray.size_append, show (⟨#[59]⟩ : ByteArray).size = 1 from rfl]; omega⟩
            case measure => simp [intOf]
      · have e0 : (x == 0) = false := by simp; omega
        have e1 : (x == 1) = false := by simp; omega
        have e2 : (x == 2) = false := by simp; omega
        go_wp2
        go_ret
        exact ⟨u, t2, rfl, by omega, by omega, D3.out⟩
    | succ j =>
      go_wp2_with (first | (go_at_call 77; refine (dr_text D2 HL hn (by omega)).mono ?_; rintro e v2 ⟨x, t2, rfl, hx, ht2, d⟩; have D3 := Lib.hid d; clear d) | (go_at_call 149; (with_reducible refine (dr_of (m := 8) (L := 7) (t := t2) (zs := zs) (strs_of _ _ _ 8 7 (by decide)) (by omega) (by omega) D3 HL hn (by omega)).mono ?_); rintro e v3 ⟨y, t3, rfl, hy, ht3, d⟩; have D4 := Lib.hid d; clear d; have hxy : (x ++ y).size ≤ 20 := by rw [ByteArray.size_append]; omega))
      go_roundw
      case rel => exact ⟨j, t3, u ++ (x ++ y), by omega, by go_num, rfl, by rw [ByteArray.size_append]; omega, by omega, D4.out⟩
      case measure => simp [intOf]
def OneText (w : World) (e : Ending) (w' : World) : Prop := ∃ s : ByteArray, e = .returned (.string s) ∧ s.size ≤ 4001 ∧ Below w.heap.size w w'
def TextInt (w : World) (e : Ending) (w' : World) : Prop := ∃ (s : ByteArray) (x : Int), e = .returned (.tuple #[.string s, .int .i64 x]) ∧ s.size ≤ 4001 ∧ -1 ≤ x ∧ x ≤ 4002 ∧ Below w.heap.size w w'
end Go.Proofs.YtmmofchfafnkcaaGreatDoor
