import Derived.Test.YthgbhnedfdnfpaaDoorPkc
/- The cursor's bytes: contracts of one, among, bytes. -/
namespace Go.Proofs.YthgbhnedfdnfpaaDoor
set_option maxRecDepth 100000
open Go.RowKit

/-- below block B nothing but block g was written -/
structure Bar (g B : Nat) (w w' : World) : Prop where
  os : w'.os = w.os
  tape : w'.tape = w.tape
  output : w'.output = w.output
  size : w.heap.size ≤ w'.heap.size
  block : ∀ k, k < B → k ≠ g → w'.heap[k]? = w.heap[k]?
theorem Bar.refl (g B : Nat) (w : World) : Bar g B w w := ⟨rfl, rfl, rfl, Nat.le_refl _, fun _ _ _ => rfl⟩
theorem Bar.trans {g B : Nat} {a b c : World} (h : Bar g B a b) (k : Bar g B b c) : Bar g B a c :=
  ⟨k.os.trans h.os, k.tape.trans h.tape, k.output.trans h.output, Nat.le_trans h.size k.size, fun i hi hg => (k.block i hi hg).trans (h.block i hi hg)⟩
theorem Bar.of_only {g : Nat} {w w' : World} (h : OnlyBlock g w w') (B : Nat) : Bar g B w w' := ⟨h.1.os, h.1.tape, h.1.output, h.1.size, fun k _ hg => h.2.2 k hg⟩
theorem Bar.of_below {g B : Nat} {w w' : World} (h : Below B w w') : Bar g B w w' := ⟨h.os, h.tape, h.output, h.size, fun k hk _ => h.block k hk⟩
theorem Bar.below {g B : Nat} {w w' : World} (h : Bar g B w w') {B' : Nat} (h1 : B' ≤ B) (h2 : B' ≤ g) : Below B' w w' := ⟨h.os, h.tape, h.output, h.size, fun k hk => h.block k (by omega) (by omega)⟩
theorem Bar.mono {g B B' : Nat} {w w' : World} (h : Bar g B w w') (hB : B' ≤ B) : Bar g B' w w' := ⟨h.os, h.tape, h.output, h.size, fun k hk => h.block k (by omega)⟩
theorem CurAt.lt {w : World} {bc n cap t : Nat} {a : Option Addr} (h : CurAt w bc a n cap t) : bc < w.heap.size := by
  obtain ⟨s, hs⟩ := h
  exact (Array.getElem?_eq_some_iff.1 hs).1
theorem CurAt.kept {w w' : World} {bc n cap t : Nat} {a : Option Addr} (h : CurAt w bc a n cap t) (hb : w'.heap[bc]? = w.heap[bc]?) : CurAt w' bc a n cap t := by
  obtain ⟨s, hs⟩ := h
  exact ⟨s, by rw [hb]; exact hs⟩
theorem CurAt.alloc {w : World} {bc n cap t : Nat} {a : Option Addr} (h : CurAt w bc a n cap t) (o : Obj) : CurAt (w.alloc o) bc a n cap t := h.kept (Below.heap_alloc _ _ _ h.lt)
theorem OwnV.only {w w' : World} {B g n : Nat} {v : Value} {zs : List Int} (h : OwnV w B v n zs) (ho : OnlyBlock g w w') (hg : g < B) : OwnV w' B v n zs := by
  obtain ⟨h1, h2⟩ := h
  refine ⟨h1, ?_⟩
  rcases h2 with h2 | ⟨g1, cap', cur, a, b, c, d⟩
  · exact .inl h2
  · exact .inr ⟨g1, cap', cur, a, b, by rw [ho.2.2 g1 (by omega)]; exact c, d⟩
theorem In.bar {w w' : World} {g B : Nat} {a : Option Addr} {zs : List Int} (h : In w a zs) (hb : Bar g B w w') (hA : Ahead g a zs) (hB : Ahead B a zs) : In w' a zs := by
  by_cases e : zs = []
  · exact .inl e
  · rcases h with h | ⟨b, off, rfl, hr⟩
    · exact .inl h
    · have h1 := hA e b off rfl
      refine .inr ⟨b, off, rfl, hr.below (hb.below (B' := b + 1) (hB e b off rfl) h1) (Nat.lt_succ_self b)⟩

def Ones (w : World) (bc : Nat) (a : Option Addr) (n cap t : Nat) (e : Ending) (w' : World) : Prop :=
  ∃ (r : Bool) (t' : Nat), e = .returned (.bool r) ∧ t' ≤ t + 2 ∧ CurAt w' bc a n cap t' ∧ OnlyBlock bc w w'
theorem one_any (w : World) (bc n cap t : Nat) (a : Option Addr) (zs : List Int) (m : Int) (hm : 1 < m) (hm2 : m ≤ 1000000) (HC : Hid (CurAt w bc a n cap t)) (hA : Hid (Ahead bc a zs)) (HL : Hid (zs.length = n)) (HI : Hid (In w a zs)) (hn : n ≤ 9223372036854775807) (ht2 : t ≤ 1000000) :
    Calls Tryd.prog 60 #[.pointer (some ⟨bc, 0, none⟩), .int .i64 m] w (Ones w bc a n cap t) := by
  go_enter Tryd.func60, Tryd.ntmps60
  go_wp2_with (go_at_call 57; refine (pick_any _ _ _ _ t _ zs m hm hm2 HC hA HL HI hn ht2).mono ?_; rintro e v1 ⟨r, t1, rfl, r0, r1, ht, c, o⟩; have C1 := Lib.hid c; have O1 := Lib.hid o; clear c o)
  go_ret
  exact ⟨_, t1, rfl, ht, C1.out, O1.out⟩

/-- a list of integers in block gl -/
def Ints (w : World) (gl m : Nat) : Prop := ∀ i, i < m → ∃ x : Int, w.cell? ⟨gl, i, none⟩ = some (.int .i64 x)
theorem Ints.only {w w' : World} {gl m g : Nat} (h : Ints w gl m) (ho : OnlyBlock g w w') (hg : gl ≠ g) : Ints w' gl m := fun i hi => by
  obtain ⟨x, hx⟩ := h i hi
  exact ⟨x, by rw [← hx]; exact World.cell?_of_block (a := ⟨gl, i, none⟩) (ho.2.2 gl hg)⟩
def Amongs (w : World) (bc : Nat) (a : Option Addr) (n cap t : Nat) (e : Ending) (w' : World) : Prop :=
  ∃ (r : Int) (t' : Nat), e = .returned (.int .i64 r) ∧ t' ≤ t + 2 ∧ CurAt w' bc a n cap t' ∧ OnlyBlock bc w w'
theorem among_any (w : World) (bc n cap t gl m cl : Nat) (a : Option Addr) (zs : List Int) (HX : Hid (Ints w gl m)) (hgl : gl ≠ bc) (hm : 1 < m) (hm2 : m ≤ 100) (HC : Hid (CurAt w bc a n cap t)) (hA : Hid (Ahead bc a zs)) (HL : Hid (zs.length = n)) (HI : Hid (In w a zs)) (hn : n ≤ 9223372036854775807) (ht2 : t ≤ 1000000) :
    Calls Tryd.prog 59 #[.pointer (some ⟨bc, 0, none⟩), .slice (some ⟨gl, 0, none⟩) m cl] w (Amongs w bc a n cap t) := by
  go_enter Tryd.func59, Tryd.ntmps59
  go_wp2_with (go_at_call 57; refine (pick_any _ _ _ _ t _ zs (m : Int) (by omega) (by omega) HC hA HL HI hn ht2).mono ?_; rintro e v1 ⟨r, t1, rfl, r0, r1, ht, c, o⟩; obtain ⟨x, hx⟩ := (HX.out.only o hgl) r.toNat (by omega); have C1 := Lib.hid c; have O1 := Lib.hid o; clear c o)
  go_ret
  exact ⟨x, t1, rfl, ht, C1.out, O1.out⟩

theorem OwnV.snocB {w wr w1 : World} {B n bc nc cap t : Nat} {v v' : Value} {zs : List Int} {c : Int} {o : Obj} {a : Option Addr} (h : OwnV wr B v n zs) (hB : B ≤ wr.heap.size) (hb : Bar bc B w wr) (hbc : bc < B) (hC : CurAt wr bc a nc cap t)
    (h' : w1.ownsRow B 5 1 v' (n + 1) (bv zs ++ [.int .u8 c])) (hg : (wr.alloc o).grownBy w1 v.ownBlock) : OwnV w1 B v' (n + 1) (zs ++ [c]) ∧ Bar bc B w w1 ∧ CurAt w1 bc a nc cap t := by
  have hrow : ∀ k, k < B → Option.some k ≠ v.ownBlock := fun k hk e => by
    have := (World.ownsRow.lt h k e.symm).1
    omega
  refine ⟨by unfold OwnV; simpa [bv] using h', ?_, ?_⟩
  · exact hb.trans (Bar.of_below (((Below.refl B wr).alloc hB o).grown hg (by simp; omega) (fun j hj => (World.ownsRow.lt h j hj).1)))
  · exact (hC.alloc o).kept (hg.block bc (by have := hC.lt; simp; omega) (hrow bc hbc))
def BytesRel (w : World) (bc : Nat) (a : Option Addr) (n cap t : Nat) (v k : Value) (wr : World) : Prop :=
  ∃ (j l t' : Nat) (zs : List Int), k = .int .i64 j ∧ j + l ≤ 14 ∧ OwnV wr w.heap.size v l zs ∧ (∀ c ∈ zs, 0 ≤ c ∧ c ≤ 255) ∧ t' ≤ t + 4 + 4 * l ∧ CurAt wr bc a n cap t' ∧ Bar bc w.heap.size w wr
def BytesGot (w : World) (bc : Nat) (a : Option Addr) (n cap t : Nat) (e : Ending) (w' : World) : Prop :=
  ∃ (v : Value) (l t' : Nat) (zs : List Int), e = .returned v ∧ l ≤ 4001 ∧ OwnV w' w.heap.size v l zs ∧ (∀ c ∈ zs, 0 ≤ c ∧ c ≤ 255) ∧ t' ≤ t + 100 ∧ CurAt w' bc a n cap t' ∧ Bar bc w.heap.size w w'
theorem ints_six (w : World) (x0 x1 x2 x3 x4 x5 : Int) (ty : TypeId) : Ints (w.alloc (.cells #[.int .i64 x0, .int .i64 x1, .int .i64 x2, .int .i64 x3, .int .i64 x4, .int .i64 x5] ty)) w.heap.size 6 := by
  intro i hi
  rw [World.cell?_alloc_at _ _ _ _ rfl]
  rcases (show i = 0 ∨ i = 1 ∨ i = 2 ∨ i = 3 ∨ i = 4 ∨ i = 5 by omega) with rfl | rfl | rfl | rfl | rfl | rfl <;> exact ⟨_, rfl⟩

end Go.Proofs.YthgbhnedfdnfpaaDoor

/- What a law draws of its bytes: any numbers, any bytes of the draw's own. -/
namespace Go.Proofs.YthgbhnedfdnfpaaDoor
set_option maxRecDepth 100000
open Go.RowKit

theorem ints_seven (w : World) (x0 x1 x2 x3 x4 x5 x6 : Int) (ty : TypeId) : Ints (w.alloc (.cells #[.int .i64 x0, .int .i64 x1, .int .i64 x2, .int .i64 x3, .int .i64 x4, .int .i64 x5, .int .i64 x6] ty)) w.heap.size 7 := by
  intro i hi
  rw [World.cell?_alloc_at _ _ _ _ rfl]
  rcases (show i = 0 ∨ i = 1 ∨ i = 2 ∨ i = 3 ∨ i = 4 ∨ i = 5 ∨ i = 6 by omega) with rfl | rfl | rfl | rfl | rfl | rfl | rfl <;> exact ⟨_, rfl⟩
theorem ints_eight (w : World) (x0 x1 x2 x3 x4 x5 x6 x7 : Int) (ty : TypeId) : Ints (w.alloc (.cells #[.int .i64 x0, .int .i64 x1, .int .i64 x2, .int .i64 x3, .int .i64 x4, .int .i64 x5, .int .i64 x6, .int .i64 x7] ty)) w.heap.size 8 := by
  intro i hi
  rw [World.cell?_alloc_at _ _ _ _ rfl]
  rcases (show i = 0 ∨ i = 1 ∨ i = 2 ∨ i = 3 ∨ i = 4 ∨ i = 5 ∨ i = 6 ∨ i = 7 by omega) with rfl | rfl | rfl | rfl | rfl | rfl | rfl | rfl <;> exact ⟨_, rfl⟩
theorem ints_ten (w : World) (x0 x1 x2 x3 x4 x5 x6 x7 x8 x9 : Int) (ty : TypeId) : Ints (w.alloc (.cells #[.int .i64 x0, .int .i64 x1, .int .i64 x2, .int .i64 x3, .int .i64 x4, .int .i64 x5, .int .i64 x6, .int .i64 x7, .int .i64 x8, .int .i64 x9] ty)) w.heap.size 10 := by
  intro i hi
  rw [World.cell?_alloc_at _ _ _ _ rfl]
  rcases (show i = 0 ∨ i = 1 ∨ i = 2 ∨ i = 3 ∨ i = 4 ∨ i = 5 ∨ i = 6 ∨ i = 7 ∨ i = 8 ∨ i = 9 by omega) with rfl | rfl | rfl | rfl | rfl | rfl | rfl | rfl | rfl | rfl <;> exact ⟨_, rfl⟩
theorem cur_new (w : World) (a : Option Addr) (n cap : Nat) : CurAt (w.alloc (.cells #[.slice a n cap, .int .i64 0, .int .u64 0] 60)) w.heap.size a n cap 0 := ⟨0, by show (w.heap.push _)[w.heap.size]? = _; simp⟩

/-- drawing: the cursor is the call's first block -/
structure Dr (w wr : World) (a : Option Addr) (n cap : Nat) (zs : List Int) (t : Nat) : Prop where
  cur : CurAt wr w.heap.size a n cap t
  bel : Below w.heap.size w wr
  src : In wr a zs
  ahead : Ahead w.heap.size a zs
theorem Dr.new {w : World} {a : Option Addr} {n cap : Nat} {zs : List Int} (h : In w a zs) : Dr w (w.alloc (.cells #[.slice a n cap, .int .i64 0, .int .u64 0] 60)) a n cap zs 0 :=
  ⟨cur_new w a n cap, (Below.refl _ w).alloc (Nat.le_refl _) _, h.below ((Below.refl _ w).alloc (Nat.le_refl _) _), h.ahead⟩
theorem Dr.alloc {w wr : World} {a : Option Addr} {n cap t : Nat} {zs : List Int} (h : Dr w wr a n cap zs t) (o : Obj) : Dr w (wr.alloc o) a n cap zs t :=
  ⟨h.cur.alloc o, h.bel.alloc h.bel.size o, h.src.below ((Below.refl _ wr).alloc (Nat.le_refl _) o), h.ahead⟩
theorem Dr.bar {w wr w' : World} {a : Option Addr} {n cap t t' : Nat} {zs : List Int} (h : Dr w wr a n cap zs t) (hc : CurAt w' w.heap.size a n cap t') (hb : Bar w.heap.size wr.heap.size wr w') : Dr w w' a n cap zs t' :=
  ⟨hc, h.bel.trans (hb.below h.bel.size (Nat.le_refl _)), h.src.bar hb h.ahead (h.ahead.mono h.bel.size), h.ahead⟩
theorem Dr.only {w wr w' : World} {a : Option Addr} {n cap t t' : Nat} {zs : List Int} (h : Dr w wr a n cap zs t) (hc : CurAt w' w.heap.size a n cap t') (hb : OnlyBlock w.heap.size wr w') : Dr w w' a n cap zs t' :=
  h.bar hc (Bar.of_only hb _)
def DrInt (w wr : World) (a : Option Addr) (n cap : Nat) (zs : List Int) (t : Nat) (P : Int → Prop) (e : Ending) (w' : World) : Prop :=
  ∃ (r : Int) (t' : Nat), e = .returned (.int .i64 r) ∧ P r ∧ t' ≤ t + 2 ∧ Dr w w' a n cap zs t' ∧ OnlyBlock w.heap.size wr w'
theorem dr_pick {w wr : World} {a : Option Addr} {n cap t : Nat} {zs : List Int} (m : Int) (hm : 1 < m) (hm2 : m ≤ 1000000) (HD : Hid (Dr w wr a n cap zs t)) (HL : Hid (zs.length = n)) (hn : n ≤ 9223372036854775807) (ht : t ≤ 1000000) :
    Calls Tryd.prog 57 #[.pointer (some ⟨w.heap.size, 0, none⟩), .int .i64 m] wr (DrInt w wr a n cap zs t fun r => 0 ≤ r ∧ r < m) :=
  (pick_any wr _ n cap t a zs m hm hm2 HD.out.cur HD.out.ahead HL HD.out.src hn ht).mono fun _ _ ⟨r, t', he, h0, h1, h2, h3, h4⟩ => ⟨r, t', he, ⟨h0, h1⟩, h2, HD.out.only h3 h4, h4⟩
theorem dr_among {w wr : World} {a : Option Addr} {n cap t m cl : Nat} {zs : List Int} {o : Obj} (HX : Ints (wr.alloc o) wr.heap.size m) (hm : 1 < m) (hm2 : m ≤ 100) (HD : Hid (Dr w wr a n cap zs t)) (HL : Hid (zs.length = n)) (hn : n ≤ 9223372036854775807) (ht : t ≤ 1000000) :
    Calls Tryd.prog 59 #[.pointer (some ⟨w.heap.size, 0, none⟩), .slice (some ⟨wr.heap.size, 0, none⟩) m cl] (wr.alloc o) (DrInt w (wr.alloc o) a n cap zs t fun _ => True) :=
  (among_any (wr.alloc o) _ n cap t wr.heap.size m cl a zs HX (by have := HD.out.cur.lt; omega) (by omega) (by omega) (HD.out.alloc o).cur HD.out.ahead HL (HD.out.alloc o).src hn ht).mono fun _ _ ⟨r, t', he, h2, h3, h4⟩ => ⟨r, t', he, trivial, h2, (HD.out.alloc o).only h3 h4, h4⟩

/-- two numbers were drawn -/
def TwoInts (w : World) (e : Ending) (w' : World) : Prop := ∃ x y : Int, e = .returned (.tuple #[.int .i64 x, .int .i64 y]) ∧ Below w.heap.size w w'

theorem OwnV.shape {w : World} {B n : Nat} {v : Value} {zs : List Int} (h : OwnV w B v n zs) : ∃ a cap, v = .slice a n cap := by
  rcases h.2 with ⟨hv, h0⟩ | ⟨g, cap, cur, hv, _⟩
  · subst h0
    exact ⟨_, _, hv⟩
  · exact ⟨_, _, hv⟩
theorem OwnV.base {w : World} {B B' n : Nat} {v : Value} {zs : List Int} (h : OwnV w B v n zs) (hB : B' ≤ B) : OwnV w B' v n zs := by
  obtain ⟨h1, h2⟩ := h
  refine ⟨h1, ?_⟩
  rcases h2 with h2 | ⟨g1, cap', cur, a, b, c⟩
  · exact .inl h2
  · exact .inr ⟨g1, cap', cur, a, by omega, c⟩
def DrBytes (w : World) (a : Option Addr) (n cap : Nat) (zs : List Int) (t : Nat) (e : Ending) (w' : World) : Prop :=
  ∃ (da : Option Addr) (l dc t' : Nat) (ys : List Int), e = .returned (.slice da l dc) ∧ l ≤ 4001 ∧ OwnV w' (w.heap.size + 1) (.slice da l dc) l ys ∧ (∀ c ∈ ys, 0 ≤ c ∧ c ≤ 255) ∧ t' ≤ t + 100 ∧ Dr w w' a n cap zs t'
theorem OwnV.step {wr w' : World} {o : Obj} {B n : Nat} {v : Value} {zs : List Int} (h : OwnV wr (B + 1) v n zs) (ho : OnlyBlock B (wr.alloc o) w') : OwnV w' (B + 1) v n zs :=
  OwnV.only (World.ownsRow.alloc h o) ho (Nat.lt_succ_self B)
/-- bytes and two numbers were drawn -/
def BytesTwo (w : World) (e : Ending) (w' : World) : Prop :=
  ∃ (da : Option Addr) (l dc : Nat) (ys : List Int) (x y : Int), e = .returned (.tuple #[.slice da l dc, .int .i64 x, .int .i64 y]) ∧ l ≤ 4001 ∧ OwnV w' (w.heap.size + 1) (.slice da l dc) l ys ∧ (∀ c ∈ ys, 0 ≤ c ∧ c ≤ 255) ∧ Below w.heap.size w w'
def BytesOne (w : World) (e : Ending) (w' : World) : Prop :=
  ∃ (da : Option Addr) (l dc : Nat) (ys : List Int) (x : Int), e = .returned (.tuple #[.slice da l dc, .int .i64 x]) ∧ l ≤ 4001 ∧ OwnV w' (w.heap.size + 1) (.slice da l dc) l ys ∧ (∀ c ∈ ys, 0 ≤ c ∧ c ≤ 255) ∧ Below w.heap.size w w'

end Go.Proofs.YthgbhnedfdnfpaaDoor

/- What a law draws of its bytes for PadTo. -/
namespace Go.Proofs.YthgbhnedfdnfpaaDoor
set_option maxRecDepth 100000
open Go.RowKit

theorem dr_one {w wr : World} {a : Option Addr} {n cap t : Nat} {zs : List Int} (m : Int) (hm : 1 < m) (hm2 : m ≤ 1000000) (HD : Hid (Dr w wr a n cap zs t)) (HL : Hid (zs.length = n)) (hn : n ≤ 9223372036854775807) (ht : t ≤ 1000000) :
    Calls Tryd.prog 60 #[.pointer (some ⟨w.heap.size, 0, none⟩), .int .i64 m] wr fun e w' => ∃ (r : Bool) (t' : Nat), e = .returned (.bool r) ∧ t' ≤ t + 2 ∧ Dr w w' a n cap zs t' ∧ OnlyBlock w.heap.size wr w' :=
  (one_any wr _ n cap t a zs m hm hm2 HD.out.cur HD.out.ahead HL HD.out.src hn ht).mono fun _ _ ⟨r, t', he, h2, h3, h4⟩ => ⟨r, t', he, h2, HD.out.only h3 h4, h4⟩
theorem OwnV.step0 {wr w' : World} {B n : Nat} {v : Value} {zs : List Int} (h : OwnV wr (B + 1) v n zs) (ho : OnlyBlock B wr w') : OwnV w' (B + 1) v n zs := OwnV.only h ho (Nat.lt_succ_self B)

end Go.Proofs.YthgbhnedfdnfpaaDoor

/- Slices of integers: what reads as a list of integers, what the call made itself, and the contracts of the copying and comparing functions of the laws. -/
namespace Go.Proofs.YthgbhnedfdnfpaaDoor
set_option maxRecDepth 100000
open Go.RowKit

theorem infoI : (Tryd.prog.info? 3).map (fun i => (i.zero, i.size, i.bytes)) = some (some (.int .i64 0), 1, 8) := by kernel_rfl

/-- the cells of a list of bytes -/
def iv (zs : List Int) : List Value := zs.map (Value.int .i64)
theorem iv_length (zs : List Int) : (iv zs).length = zs.length := by simp [iv]
theorem iv_get (zs : List Int) (i : Nat) (h : i < zs.length) : (iv zs)[i]? = some (.int .i64 (zs.getD i 0)) := by
  simp [iv, h]

/-- in world w, the bytes zs lie from cell off of block b on -/
def RowI (w : World) (b off : Nat) (zs : List Int) : Prop :=
  (∀ i, i < zs.length → w.cell? ⟨b, off + i, none⟩ = some (.int .i64 (zs.getD i 0))) ∧ ∀ n ∈ zs, -9223372036854775808 ≤ n ∧ n ≤ 9223372036854775807

/-- a slice of n bytes of the call's own: block g, the bytes zs -/
def OwnI (w : World) (B g n cap : Nat) (zs : List Int) : Prop :=
  w.ownsRow B 3 1 (.slice (some ⟨g, 0, none⟩) n cap) n (iv zs)

theorem OwnI.len {w : World} {B g n cap : Nat} {zs : List Int} (h : OwnI w B g n cap zs) : zs.length = n := by
  have := h.1; rw [iv_length] at this; omega
theorem OwnI.lt {w : World} {B g n cap : Nat} {zs : List Int} (h : OwnI w B g n cap zs) : B ≤ g ∧ g < w.heap.size := World.ownsRow.lt h g rfl
theorem OwnI.row {w : World} {B g n cap : Nat} {zs : List Int} (h : OwnI w B g n cap zs) (hr : ∀ n ∈ zs, -9223372036854775808 ≤ n ∧ n ≤ 9223372036854775807) : RowI w g 0 zs := by
  refine ⟨fun i hi => ?_, hr⟩
  have hl := h.len
  have := World.ownsRow.cellAt h i (by omega)
  rw [Nat.zero_add, this, iv_get _ _ hi]
theorem OwnI.below {w w' : World} {B B' g n cap : Nat} {zs : List Int} (h : OwnI w B g n cap zs) (hb : Below B' w w') (hg : g < B') : OwnI w' B g n cap zs := by
  obtain ⟨h1, h2⟩ := h
  refine ⟨h1, ?_⟩
  rcases h2 with h2 | ⟨g', cap', cur, a, b, c, d⟩
  · exact .inl h2
  · cases a
    exact .inr ⟨g, cap, cur, rfl, b, by rw [hb.block g hg]; exact c, d⟩
theorem OwnI.base {w : World} {B B' g n cap : Nat} {zs : List Int} (h : OwnI w B g n cap zs) (hB : B' ≤ B) : OwnI w B' g n cap zs := by
  obtain ⟨h1, h2⟩ := h
  refine ⟨h1, ?_⟩
  rcases h2 with h2 | ⟨g', cap', cur, a, b, c, d⟩
  · exact .inl h2
  · exact .inr ⟨g', cap', cur, a, Nat.le_trans hB b, c, d⟩
theorem RowI.below {w w' : World} {b off B : Nat} {zs : List Int} (h : RowI w b off zs) (hb : Below B w w') (hB : b < B) : RowI w' b off zs :=
  ⟨fun i hi => (hb.cell (p := ⟨b, off + i, none⟩) hB).trans (h.1 i hi), h.2⟩
theorem RowI.drewN {w : World} {b off : Nat} {zs : List Int} (h : RowI w b off zs) (q : Nat) : RowI (w.drewN q) b off zs := h
theorem RowI.at {w : World} {b off : Nat} {zs : List Int} (h : RowI w b off zs) (k : Nat) (hk : k < zs.length) :
    ∃ c, Hid (c = zs.getD k 0) ∧ -9223372036854775808 ≤ c ∧ c ≤ 9223372036854775807 ∧ w.cell? ⟨b, off + k, none⟩ = some (.int .i64 c) := by
  refine ⟨zs.getD k 0, rfl, ?_, ?_, h.1 k hk⟩
  · exact (h.2 _ (by rw [List.getD_eq_getElem?_getD, List.getElem?_eq_getElem hk]; exact List.getElem_mem hk)).1
  · exact (h.2 _ (by rw [List.getD_eq_getElem?_getD, List.getElem?_eq_getElem hk]; exact List.getElem_mem hk)).2

/-- what a slice that came in reads as: nothing, or a row of bytes -/
def InI (w : World) (a : Option Addr) (zs : List Int) : Prop :=
  zs = [] ∨ ∃ b off, a = some ⟨b, off, none⟩ ∧ RowI w b off zs

/-- a copy was made: a new block that holds the bytes -/
def MadeI (w : World) (n : Nat) (zs : List Int) (e : Ending) (w' : World) : Prop :=
  e = .returned (.slice (some ⟨w.heap.size, 0, none⟩) n n) ∧ OwnI w' w.heap.size w.heap.size n n zs ∧ Below w.heap.size w w'

theorem iv_set (zs : List Int) (k : Nat) (c : Int) : (iv zs).set k (.int .i64 c) = iv (zs.set k c) := by simp [iv, List.map_set]
theorem OwnI.store {w : World} {B g n cap : Nat} {zs : List Int} (h : OwnI w B g n cap zs) (k : Nat) (c : Int) : OwnI (w.setCell ⟨g, k, none⟩ (.int .i64 c)) B g n cap (zs.set k c) := by
  have := (World.ownsRow.stored h k (.int .i64 c)).1
  rw [iv_set] at this
  exact this
theorem OwnI.cell {w : World} {B g n cap : Nat} {zs : List Int} (h : OwnI w B g n cap zs) (k : Nat) (hk : k < n) : w.cell? ⟨g, k, none⟩ = some (.int .i64 (zs.getD k 0)) := by
  have hl := h.len
  rw [World.ownsRow.cellAt h k (by omega), iv_get _ _ (by omega)]

theorem madeI {w : World} {B g n : Nat} (h : w.ownsRow B 3 1 (.slice (some ⟨g, 0, none⟩) n n) n (madeCells (Value.int .i64 0).cells (n * 1)).toList) : OwnI w B g n n (List.replicate n 0) := by
  have e : (madeCells (Value.int .i64 0).cells (n * 1)).toList = iv (List.replicate n 0) := by
    rw [Nat.mul_one, iv, List.map_replicate]
    exact toList_madeCells_one _ n
  rw [e] at h
  exact h

/-- at each round's head of the copying loop -/
def CopyRelI (w : World) (n : Nat) (zs : List Int) (i : Value) (wr : World) : Prop :=
  ∃ k : Nat, k ≤ n ∧ i = .int .i64 k ∧ OwnI wr w.heap.size w.heap.size n n (fillTo zs k) ∧ Below w.heap.size w wr

def EqRelI (w : World) (n : Nat) (i : Value) (wr : World) : Prop := ∃ k q : Nat, k ≤ n ∧ i = .int .i64 k ∧ wr = w.drewN q

theorem wf_i64 {n : Int} (h : (Lit.int .i64 n).wf = true) : -9223372036854775808 ≤ n ∧ n ≤ 9223372036854775807 := by
  have h' : (decide (IntKind.i64.min ≤ n) && decide (n ≤ IntKind.i64.max)) = true := h
  have e1 : IntKind.i64.min = -9223372036854775808 := by decide
  have e2 : IntKind.i64.max = 9223372036854775807 := by decide
  rw [e1, e2] at h'
  simp at h'
  exact h'
theorem IsRow.viewI {w : World} {a : Option Addr} {len cap : Nat} {zs : List Int} (h : IsRow .i64 w a len cap zs) : len ≤ maxLen ∧ ∃ ys, Hid (ys.length = len) ∧ Hid (InI w a ys) := by
  rcases h with ⟨rfl, rfl, rfl, rfl⟩ | ⟨x, rfl, hl, hm, hz, hcell, hwf⟩
  · exact ⟨Nat.zero_le _, [], rfl, .inl rfl⟩
  · refine ⟨Nat.le_trans hl hm, zs.take len, by unfold Hid; simp; omega, ?_⟩
    rcases Nat.eq_zero_or_pos len with rfl | hp
    · exact .inl (by simp)
    · obtain ⟨b, off, spot⟩ := x
      have hspot : spot = none := by simpa [Addr.add] using World.cell?_spot (hcell 0 (by omega))
      subst hspot
      refine .inr ⟨b, off, rfl, fun i hi => ?_, fun n hn => wf_i64 (hwf n (List.mem_of_mem_take hn))⟩
      simp at hi
      have := hcell i (by omega)
      rw [show (⟨b, off, none⟩ : Addr).add i = ⟨b, off + i, none⟩ by unfold Addr.add; split <;> simp_all] at this
      rw [this]
      simp [List.getD_eq_getElem?_getD]
      rw [List.getElem?_take, if_pos (by omega)]
theorem InI.below {w w' : World} {a : Option Addr} {zs : List Int} (h : InI w a zs) (hb : Below w.heap.size w w') : InI w' a zs := by
  by_cases e : zs = []
  · exact .inl e
  · rcases h with h | ⟨b, off, rfl, hr⟩
    · exact absurd h e
    · have hp : 0 < zs.length := List.length_pos_iff.2 e
      exact .inr ⟨b, off, rfl, hr.below hb (World.block_lt_of_cell? w _ (hr.1 0 hp))⟩
theorem InI.range {w : World} {a : Option Addr} {zs : List Int} (h : InI w a zs) : ∀ n ∈ zs, -9223372036854775808 ≤ n ∧ n ≤ 9223372036854775807 := by
  rcases h with rfl | ⟨b, off, rfl, hr⟩
  · intro n hn; cases hn
  · exact hr.2
end Go.Proofs.YthgbhnedfdnfpaaDoor
