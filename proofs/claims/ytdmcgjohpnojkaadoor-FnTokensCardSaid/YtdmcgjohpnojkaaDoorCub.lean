/- The cursor's bytes: contracts of one, among, bytes. -/
import Derived.Test.YtdmcgjohpnojkaaDoorCur
namespace Go.Proofs.YtdmcgjohpnojkaaDoor
set_option maxRecDepth 100000
open Go.RowKit

/-- below block B nothing but block g was written -/
structure Bar (g B : Nat) (w w' : World) : Prop where
  os : w'.os = w.os
  tape : w'.tape = w.tape
  output : w'.output = w.output
  size : w.heap.size ≤ w'.heap.size
  block : ∀ k, k < B → k ≠ g → w'.heap[k]? = w.heap[k]?
theorem Bar.refl (g B : Nat) (w : World) : Bar g B w w := ⟨rfl, rfl, rfl, Nat.le_refl _, fun _ _ _ => rfl⟩
theorem Bar.trans {g B : Nat} {a b c : World} (h : Bar g B a b) (k : Bar g B b c) : Bar g B a c :=
  ⟨k.os.trans h.os, k.tape.trans h.tape, k.output.trans h.output, Nat.le_trans h.size k.size, fun i hi hg => (k.block i hi hg).trans (h.block i hi hg)⟩
theorem Bar.of_only {g : Nat} {w w' : World} (h : OnlyBlock g w w') (B : Nat) : Bar g B w w' := ⟨h.1.os, h.1.tape, h.1.output, h.1.size, fun k _ hg => h.2.2 k hg⟩
theorem Bar.of_below {g B : Nat} {w w' : World} (h : Below B w w') : Bar g B w w' := ⟨h.os, h.tape, h.output, h.size, fun k hk _ => h.block k hk⟩
theorem Bar.below {g B : Nat} {w w' : World} (h : Bar g B w w') {B' : Nat} (h1 : B' ≤ B) (h2 : B' ≤ g) : Below B' w w' := ⟨h.os, h.tape, h.output, h.size, fun k hk => h.block k (by omega) (by omega)⟩
theorem Bar.mono {g B B' : Nat} {w w' : World} (h : Bar g B w w') (hB : B' ≤ B) : Bar g B' w w' := ⟨h.os, h.tape, h.output, h.size, fun k hk => h.block k (by omega)⟩
theorem CurAt.lt {w : World} {bc n cap t : Nat} {a : Option Addr} (h : CurAt w bc a n cap t) : bc < w.heap.size := by
  obtain ⟨s, hs⟩ := h
  exact (Array.getElem?_eq_some_iff.1 hs).1
theorem CurAt.kept {w w' : World} {bc n cap t : Nat} {a : Option Addr} (h : CurAt w bc a n cap t) (hb : w'.heap[bc]? = w.heap[bc]?) : CurAt w' bc a n cap t := by
  obtain ⟨s, hs⟩ := h
  exact ⟨s, by rw [hb]; exact hs⟩
theorem CurAt.alloc {w : World} {bc n cap t : Nat} {a : Option Addr} (h : CurAt w bc a n cap t) (o : Obj) : CurAt (w.alloc o) bc a n cap t := h.kept (Below.heap_alloc _ _ _ h.lt)
theorem OwnV.only {w w' : World} {B g n : Nat} {v : Value} {zs : List Int} (h : OwnV w B v n zs) (ho : OnlyBlock g w w') (hg : g < B) : OwnV w' B v n zs := by
  obtain ⟨h1, h2⟩ := h
  refine ⟨h1, ?_⟩
  rcases h2 with h2 | ⟨g1, cap', cur, a, b, c, d⟩
  · exact .inl h2
  · exact .inr ⟨g1, cap', cur, a, b, by rw [ho.2.2 g1 (by omega)]; exact c, d⟩
theorem In.bar {w w' : World} {g B : Nat} {a : Option Addr} {zs : List Int} (h : In w a zs) (hb : Bar g B w w') (hA : Ahead g a zs) (hB : Ahead B a zs) : In w' a zs := by
  by_cases e : zs = []
  · exact .inl e
  · rcases h with h | ⟨b, off, rfl, hr⟩
    · exact .inl h
    · have h1 := hA e b off rfl
      refine .inr ⟨b, off, rfl, hr.below (hb.below (B' := b + 1) (hB e b off rfl) h1) (Nat.lt_succ_self b)⟩

def Ones (w : World) (bc : Nat) (a : Option Addr) (n cap t : Nat) (e : Ending) (w' : World) : Prop :=
  ∃ (r : Bool) (t' : Nat), e = .returned (.bool r) ∧ t' ≤ t + 2 ∧ CurAt w' bc a n cap t' ∧ OnlyBlock bc w w'
theorem one_any (w : World) (bc n cap t : Nat) (a : Option Addr) (zs : List Int) (m : Int) (hm : 1 < m) (hm2 : m ≤ 1000000) (HC : Hid (CurAt w bc a n cap t)) (hA : Hid (Ahead bc a zs)) (HL : Hid (zs.length = n)) (HI : Hid (In w a zs)) (hn : n ≤ 9223372036854775807) (ht2 : t ≤ 1000000) :
    Calls Tryd.prog 106 #[.pointer (some ⟨bc, 0, none⟩), .int .i64 m] w (Ones w bc a n cap t) := by
  go_enter Tryd.func106, Tryd.ntmps106
  go_wp2_with (go_at_call 69; refine (pick_any _ _ _ _ t _ zs m hm hm2 HC hA HL HI hn ht2).mono ?_; rintro e v1 ⟨r, t1, rfl, r0, r1, ht, c, o⟩; have C1 := Lib.hid c; have O1 := Lib.hid o; clear c o)
  go_ret
  exact ⟨_, t1, rfl, ht, C1.out, O1.out⟩

/-- a list of integers in block gl -/
def Ints (w : World) (gl m : Nat) : Prop := ∀ i, i < m → ∃ x : Int, w.cell? ⟨gl, i, none⟩ = some (.int .i64 x)
theorem Ints.only {w w' : World} {gl m g : Nat} (h : Ints w gl m) (ho : OnlyBlock g w w') (hg : gl ≠ g) : Ints w' gl m := fun i hi => by
  obtain ⟨x, hx⟩ := h i hi
  exact ⟨x, by rw [← hx]; exact World.cell?_of_block (a := ⟨gl, i, none⟩) (ho.2.2 gl hg)⟩
def Amongs (w : World) (bc : Nat) (a : Option Addr) (n cap t : Nat) (e : Ending) (w' : World) : Prop :=
  ∃ (r : Int) (t' : Nat), e = .returned (.int .i64 r) ∧ t' ≤ t + 2 ∧ CurAt w' bc a n cap t' ∧ OnlyBlock bc w w'
theorem among_any (w : World) (bc n cap t gl m cl : Nat) (a : Option Addr) (zs : List Int) (HX : Hid (Ints w gl m)) (hgl : gl ≠ bc) (hm : 1 < m) (hm2 : m ≤ 100) (HC : Hid (CurAt w bc a n cap t)) (hA : Hid (Ahead bc a zs)) (HL : Hid (zs.length = n)) (HI : Hid (In w a zs)) (hn : n ≤ 9223372036854775807) (ht2 : t ≤ 1000000) :
    Calls Tryd.prog 105 #[.pointer (some ⟨bc, 0, none⟩), .slice (some ⟨gl, 0, none⟩) m cl] w (Amongs w bc a n cap t) := by
  go_enter Tryd.func105, Tryd.ntmps105
  go_wp2_with (go_at_call 69; refine (pick_any _ _ _ _ t _ zs (m : Int) (by omega) (by omega) HC hA HL HI hn ht2).mono ?_; rintro e v1 ⟨r, t1, rfl, r0, r1, ht, c, o⟩; obtain ⟨x, hx⟩ := (HX.out.only o hgl) r.toNat (by omega); have C1 := Lib.hid c; have O1 := Lib.hid o; clear c o)
  go_ret
  exact ⟨x, t1, rfl, ht, C1.out, O1.out⟩

theorem OwnV.snocB {w wr w1 : World} {B n bc nc cap t : Nat} {v v' : Value} {zs : List Int} {c : Int} {o : Obj} {a : Option Addr} (h : OwnV wr B v n zs) (hB : B ≤ wr.heap.size) (hb : Bar bc B w wr) (hbc : bc < B) (hC : CurAt wr bc a nc cap t)
    (h' : w1.ownsRow B 5 1 v' (n + 1) (bv zs ++ [.int .u8 c])) (hg : (wr.alloc o).grownBy w1 v.ownBlock) : OwnV w1 B v' (n + 1) (zs ++ [c]) ∧ Bar bc B w w1 ∧ CurAt w1 bc a nc cap t := by
  have hrow : ∀ k, k < B → Option.some k ≠ v.ownBlock := fun k hk e => by
    have := (World.ownsRow.lt h k e.symm).1
    omega
  refine ⟨by unfold OwnV; simpa [bv] using h', ?_, ?_⟩
  · exact hb.trans (Bar.of_below (((Below.refl B wr).alloc hB o).grown hg (by simp; omega) (fun j hj => (World.ownsRow.lt h j hj).1)))
  · exact (hC.alloc o).kept (hg.block bc (by have := hC.lt; simp; omega) (hrow bc hbc))
def BytesRel (w : World) (bc : Nat) (a : Option Addr) (n cap t : Nat) (v k : Value) (wr : World) : Prop :=
  ∃ (j l t' : Nat) (zs : List Int), k = .int .i64 j ∧ j + l ≤ 14 ∧ OwnV wr w.heap.size v l zs ∧ (∀ c ∈ zs, 0 ≤ c ∧ c ≤ 255) ∧ t' ≤ t + 4 + 4 * l ∧ CurAt wr bc a n cap t' ∧ Bar bc w.heap.size w wr
def BytesGot (w : World) (bc : Nat) (a : Option Addr) (n cap t : Nat) (e : Ending) (w' : World) : Prop :=
  ∃ (v : Value) (l t' : Nat) (zs : List Int), e = .returned v ∧ l ≤ 4001 ∧ OwnV w' w.heap.size v l zs ∧ (∀ c ∈ zs, 0 ≤ c ∧ c ≤ 255) ∧ t' ≤ t + 100 ∧ CurAt w' bc a n cap t' ∧ Bar bc w.heap.size w w'
theorem ints_six (w : World) (x0 x1 x2 x3 x4 x5 : Int) (ty : TypeId) : Ints (w.alloc (.cells #[.int .i64 x0, .int .i64 x1, .int .i64 x2, .int .i64 x3, .int .i64 x4, .int .i64 x5] ty)) w.heap.size 6 := by
  intro i hi
  rw [World.cell?_alloc_at _ _ _ _ rfl]
  rcases (show i = 0 ∨ i = 1 ∨ i = 2 ∨ i = 3 ∨ i = 4 ∨ i = 5 by omega) with rfl | rfl | rfl | rfl | rfl | rfl <;> exact ⟨_, rfl⟩

end Go.Proofs.YtdmcgjohpnojkaaDoor
