/- What a law draws of its bytes: any numbers, any bytes of the draw's own. -/
import Derived.Test.YtdmcgjohpnojkaaDoorCub
namespace Go.Proofs.YtdmcgjohpnojkaaDoor
set_option maxRecDepth 100000
open Go.RowKit

theorem ints_seven (w : World) (x0 x1 x2 x3 x4 x5 x6 : Int) (ty : TypeId) : Ints (w.alloc (.cells #[.int .i64 x0, .int .i64 x1, .int .i64 x2, .int .i64 x3, .int .i64 x4, .int .i64 x5, .int .i64 x6] ty)) w.heap.size 7 := by
  intro i hi
  rw [World.cell?_alloc_at _ _ _ _ rfl]
  rcases (show i = 0 ∨ i = 1 ∨ i = 2 ∨ i = 3 ∨ i = 4 ∨ i = 5 ∨ i = 6 by omega) with rfl | rfl | rfl | rfl | rfl | rfl | rfl <;> exact ⟨_, rfl⟩
theorem ints_eight (w : World) (x0 x1 x2 x3 x4 x5 x6 x7 : Int) (ty : TypeId) : Ints (w.alloc (.cells #[.int .i64 x0, .int .i64 x1, .int .i64 x2, .int .i64 x3, .int .i64 x4, .int .i64 x5, .int .i64 x6, .int .i64 x7] ty)) w.heap.size 8 := by
  intro i hi
  rw [World.cell?_alloc_at _ _ _ _ rfl]
  rcases (show i = 0 ∨ i = 1 ∨ i = 2 ∨ i = 3 ∨ i = 4 ∨ i = 5 ∨ i = 6 ∨ i = 7 by omega) with rfl | rfl | rfl | rfl | rfl | rfl | rfl | rfl <;> exact ⟨_, rfl⟩
theorem ints_ten (w : World) (x0 x1 x2 x3 x4 x5 x6 x7 x8 x9 : Int) (ty : TypeId) : Ints (w.alloc (.cells #[.int .i64 x0, .int .i64 x1, .int .i64 x2, .int .i64 x3, .int .i64 x4, .int .i64 x5, .int .i64 x6, .int .i64 x7, .int .i64 x8, .int .i64 x9] ty)) w.heap.size 10 := by
  intro i hi
  rw [World.cell?_alloc_at _ _ _ _ rfl]
  rcases (show i = 0 ∨ i = 1 ∨ i = 2 ∨ i = 3 ∨ i = 4 ∨ i = 5 ∨ i = 6 ∨ i = 7 ∨ i = 8 ∨ i = 9 by omega) with rfl | rfl | rfl | rfl | rfl | rfl | rfl | rfl | rfl | rfl <;> exact ⟨_, rfl⟩
theorem cur_new (w : World) (a : Option Addr) (n cap : Nat) : CurAt (w.alloc (.cells #[.slice a n cap, .int .i64 0, .int .u64 0] 66)) w.heap.size a n cap 0 := ⟨0, by show (w.heap.push _)[w.heap.size]? = _; simp⟩

/-- drawing: the cursor is the call's first block -/
structure Dr (w wr : World) (a : Option Addr) (n cap : Nat) (zs : List Int) (t : Nat) : Prop where
  cur : CurAt wr w.heap.size a n cap t
  bel : Below w.heap.size w wr
  src : In wr a zs
  ahead : Ahead w.heap.size a zs
theorem Dr.new {w : World} {a : Option Addr} {n cap : Nat} {zs : List Int} (h : In w a zs) : Dr w (w.alloc (.cells #[.slice a n cap, .int .i64 0, .int .u64 0] 66)) a n cap zs 0 :=
  ⟨cur_new w a n cap, (Below.refl _ w).alloc (Nat.le_refl _) _, h.below ((Below.refl _ w).alloc (Nat.le_refl _) _), h.ahead⟩
theorem Dr.alloc {w wr : World} {a : Option Addr} {n cap t : Nat} {zs : List Int} (h : Dr w wr a n cap zs t) (o : Obj) : Dr w (wr.alloc o) a n cap zs t :=
  ⟨h.cur.alloc o, h.bel.alloc h.bel.size o, h.src.below ((Below.refl _ wr).alloc (Nat.le_refl _) o), h.ahead⟩
theorem Dr.bar {w wr w' : World} {a : Option Addr} {n cap t t' : Nat} {zs : List Int} (h : Dr w wr a n cap zs t) (hc : CurAt w' w.heap.size a n cap t') (hb : Bar w.heap.size wr.heap.size wr w') : Dr w w' a n cap zs t' :=
  ⟨hc, h.bel.trans (hb.below h.bel.size (Nat.le_refl _)), h.src.bar hb h.ahead (h.ahead.mono h.bel.size), h.ahead⟩
theorem Dr.only {w wr w' : World} {a : Option Addr} {n cap t t' : Nat} {zs : List Int} (h : Dr w wr a n cap zs t) (hc : CurAt w' w.heap.size a n cap t') (hb : OnlyBlock w.heap.size wr w') : Dr w w' a n cap zs t' :=
  h.bar hc (Bar.of_only hb _)
def DrInt (w wr : World) (a : Option Addr) (n cap : Nat) (zs : List Int) (t : Nat) (P : Int → Prop) (e : Ending) (w' : World) : Prop :=
  ∃ (r : Int) (t' : Nat), e = .returned (.int .i64 r) ∧ P r ∧ t' ≤ t + 2 ∧ Dr w w' a n cap zs t' ∧ OnlyBlock w.heap.size wr w'
theorem dr_pick {w wr : World} {a : Option Addr} {n cap t : Nat} {zs : List Int} (m : Int) (hm : 1 < m) (hm2 : m ≤ 1000000) (HD : Hid (Dr w wr a n cap zs t)) (HL : Hid (zs.length = n)) (hn : n ≤ 9223372036854775807) (ht : t ≤ 1000000) :
    Calls Tryd.prog 69 #[.pointer (some ⟨w.heap.size, 0, none⟩), .int .i64 m] wr (DrInt w wr a n cap zs t fun r => 0 ≤ r ∧ r < m) :=
  (pick_any wr _ n cap t a zs m hm hm2 HD.out.cur HD.out.ahead HL HD.out.src hn ht).mono fun _ _ ⟨r, t', he, h0, h1, h2, h3, h4⟩ => ⟨r, t', he, ⟨h0, h1⟩, h2, HD.out.only h3 h4, h4⟩
theorem dr_among {w wr : World} {a : Option Addr} {n cap t m cl : Nat} {zs : List Int} {o : Obj} (HX : Ints (wr.alloc o) wr.heap.size m) (hm : 1 < m) (hm2 : m ≤ 100) (HD : Hid (Dr w wr a n cap zs t)) (HL : Hid (zs.length = n)) (hn : n ≤ 9223372036854775807) (ht : t ≤ 1000000) :
    Calls Tryd.prog 105 #[.pointer (some ⟨w.heap.size, 0, none⟩), .slice (some ⟨wr.heap.size, 0, none⟩) m cl] (wr.alloc o) (DrInt w (wr.alloc o) a n cap zs t fun _ => True) :=
  (among_any (wr.alloc o) _ n cap t wr.heap.size m cl a zs HX (by have := HD.out.cur.lt; omega) (by omega) (by omega) (HD.out.alloc o).cur HD.out.ahead HL (HD.out.alloc o).src hn ht).mono fun _ _ ⟨r, t', he, h2, h3, h4⟩ => ⟨r, t', he, trivial, h2, (HD.out.alloc o).only h3 h4, h4⟩

/-- two numbers were drawn -/
def TwoInts (w : World) (e : Ending) (w' : World) : Prop := ∃ x y : Int, e = .returned (.tuple #[.int .i64 x, .int .i64 y]) ∧ Below w.heap.size w w'

theorem OwnV.shape {w : World} {B n : Nat} {v : Value} {zs : List Int} (h : OwnV w B v n zs) : ∃ a cap, v = .slice a n cap := by
  rcases h.2 with ⟨hv, h0⟩ | ⟨g, cap, cur, hv, _⟩
  · subst h0
    exact ⟨_, _, hv⟩
  · exact ⟨_, _, hv⟩
theorem OwnV.base {w : World} {B B' n : Nat} {v : Value} {zs : List Int} (h : OwnV w B v n zs) (hB : B' ≤ B) : OwnV w B' v n zs := by
  obtain ⟨h1, h2⟩ := h
  refine ⟨h1, ?_⟩
  rcases h2 with h2 | ⟨g1, cap', cur, a, b, c⟩
  · exact .inl h2
  · exact .inr ⟨g1, cap', cur, a, by omega, c⟩
def DrBytes (w : World) (a : Option Addr) (n cap : Nat) (zs : List Int) (t : Nat) (e : Ending) (w' : World) : Prop :=
  ∃ (da : Option Addr) (l dc t' : Nat) (ys : List Int), e = .returned (.slice da l dc) ∧ l ≤ 4001 ∧ OwnV w' (w.heap.size + 1) (.slice da l dc) l ys ∧ (∀ c ∈ ys, 0 ≤ c ∧ c ≤ 255) ∧ t' ≤ t + 100 ∧ Dr w w' a n cap zs t'
theorem OwnV.step {wr w' : World} {o : Obj} {B n : Nat} {v : Value} {zs : List Int} (h : OwnV wr (B + 1) v n zs) (ho : OnlyBlock B (wr.alloc o) w') : OwnV w' (B + 1) v n zs :=
  OwnV.only (World.ownsRow.alloc h o) ho (Nat.lt_succ_self B)
/-- bytes and two numbers were drawn -/
def BytesTwo (w : World) (e : Ending) (w' : World) : Prop :=
  ∃ (da : Option Addr) (l dc : Nat) (ys : List Int) (x y : Int), e = .returned (.tuple #[.slice da l dc, .int .i64 x, .int .i64 y]) ∧ l ≤ 4001 ∧ OwnV w' (w.heap.size + 1) (.slice da l dc) l ys ∧ (∀ c ∈ ys, 0 ≤ c ∧ c ≤ 255) ∧ Below w.heap.size w w'
def BytesOne (w : World) (e : Ending) (w' : World) : Prop :=
  ∃ (da : Option Addr) (l dc : Nat) (ys : List Int) (x : Int), e = .returned (.tuple #[.slice da l dc, .int .i64 x]) ∧ l ≤ 4001 ∧ OwnV w' (w.heap.size + 1) (.slice da l dc) l ys ∧ (∀ c ∈ ys, 0 ≤ c ∧ c ≤ 255) ∧ Below w.heap.size w w'

end Go.Proofs.YtdmcgjohpnojkaaDoor
