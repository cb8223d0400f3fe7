import Derived.Test.YthgbhnedfdnfpaaGreatDoorPkc
import Derived.Test.YthgbhnedfdnfpaaGreatDoorPkm
import Derived.ProofKit
import Derived.OpenShut
import Derived.ChangeVars
import Derived.Test.YthgbhnedfdnfpaaGreatDoorPkd
import Derived.Laws.Bits64b
import Derived.Test.YthgbhnedfdnfpaaGreatDoorPki
import Derived.Lib.SmallJoins
import Derived.Deep.Slices
import Derived.Deep.OwnRows
/- The table of the fields' names out of the rows' conditions. -/
namespace Go.Proofs.YthgbhnedfdnfpaaGreatDoor
set_option maxRecDepth 100000
open Go.RowKit Go.ChangeShapes Go.WideShapes Go.ChangeAt
set_option linter.unusedVariables false

theorem gFww : Tryz.prog.globalNamed "loop.example/g00838/impl.fieldWords" = some 1 := by kernel_rfl
theorem tFww : (Tryz.prog.globals[1]?).map (·.type) = some 121 := by kernel_rfl
theorem fww_of_head {W : World} {r : List (String × DataW Unit)} (h : laidMet Tryz.prog (("loop.example/g00838/impl.fieldWords", Rows.laid_loop_example_g00838_impl_fieldWords) :: r) W) : FwW W := by
  obtain ⟨ps, ⟨g', t', cs, fuel, p, q, hg', ht', hvar, hd, _, _⟩, _⟩ := h
  obtain rfl := Option.some.inj (gFww.symm.trans hg')
  obtain rfl := Option.some.inj (tFww.symm.trans ht')
  have hcs := cells_of_texts (zs := fldA.map fun s => s.data.toList) Tryz.underlying121 Tryz.underlying9 (by kernel_rfl) (by kernel_rfl) (show DataW.trod _ Tryz.prog W _ _ _ fuel 121 cs.toList = some (.agg ((fldA.map fun s => s.data.toList).map fun z => .lit (.string z)), p) from hd)
  obtain ⟨t, fr, hb⟩ := block_of_var gFww hvar
  have hb2 : W.heap[1]? = some (.cells (fldA.map Value.string).toArray t fr) := by
    rw [hb, show cs = (fldA.map Value.string).toArray from Array.toList_inj.1 (by rw [hcs]; rfl)]
  intro f hf
  rcases (show f = 0 ∨ f = 1 ∨ f = 2 ∨ f = 3 by omega) with rfl | rfl | rfl | rfl <;> simp [World.cell?, hb2, fldA]
theorem trodVars_four {H : Type} {enc : TypeId × Value → H} {P : Program} {w : World} {spare : Nat → Bool} {n0 n1 n2 n3 : String} {gs : List (DataW H)} {ps : List MemPlace} (h : DataW.TrodVars enc P w spare [n0, n1, n2, n3] gs ps) :
    ∃ d0 d1 d2 d3, gs = [d0, d1, d2, d3] := by
  cases gs with
  | nil => simp [DataW.TrodVars] at h
  | cons d ds =>
    obtain ⟨g0, t0, cs0, f0, p0, q0, h1, h2, h3, h4, hs, e⟩ := h
    cases ds with
    | nil => simp [DataW.TrodVars] at hs
    | cons d1 ds =>
      obtain ⟨g1, t1, cs1, f1, p1, q1, _, _, _, _, hs, _⟩ := hs
      obtain ⟨g2, t2, cs2, f2, d2, p2, g3, t3, cs3, f3, d3, p3, rfl, _⟩ := trodVars_two hs
      exact ⟨d, d1, d2, d3, rfl⟩
end Go.Proofs.YthgbhnedfdnfpaaGreatDoor

/- The cursor from which a law's arguments are drawn: contracts of next, pick, one, among. -/
namespace Go.Proofs.YthgbhnedfdnfpaaGreatDoor
set_option maxRecDepth 100000
open Go.RowKit

def CurAt (w : World) (bc : Nat) (a : Option Addr) (n cap t : Nat) : Prop :=
  ∃ s : Int, w.heap[bc]? = some (.cells #[.slice a n cap, .int .i64 t, .int .u64 s] 70 (0, 0))
def Ahead (bc : Nat) (a : Option Addr) (zs : List Int) : Prop := zs ≠ [] → ∀ b off, a = some ⟨b, off, none⟩ → b < bc
theorem In.ahead {w : World} {a : Option Addr} {zs : List Int} (h : In w a zs) : Ahead w.heap.size a zs := fun e b off ha => by
  rcases h with h | ⟨b1, off1, rfl, hr⟩
  · exact absurd h e
  · cases ha
    exact World.block_lt_of_cell? w _ (hr.1 0 (List.length_pos_iff.2 e))
theorem Ahead.mono {B B' : Nat} {a : Option Addr} {zs : List Int} (h : Ahead B a zs) (hB : B ≤ B') : Ahead B' a zs := fun e b off ha => Nat.lt_of_lt_of_le (h e b off ha) hB
def Nexts (w : World) (bc : Nat) (a : Option Addr) (n cap t : Nat) (e : Ending) (w' : World) : Prop :=
  ∃ r : Int, e = .returned (.int .i64 r) ∧ 0 ≤ r ∧ r ≤ 255 ∧ CurAt w' bc a n cap (t + 1) ∧ OnlyBlock bc w w'
theorem OnlyBlock.drewN {g : Nat} {w w' : World} (h : OnlyBlock g w w') (q : Nat) : OnlyBlock g w (w'.drewN q) := ⟨below_drewN h.1 q, h.2.1, h.2.2⟩
theorem OnlyBlock.trans {g : Nat} {w w' w'' : World} (h : OnlyBlock g w w') (k : OnlyBlock g w' w'') : OnlyBlock g w w'' := ⟨h.1.trans k.1, k.2.1.trans h.2.1, fun j hj => (k.2.2 j hj).trans (h.2.2 j hj)⟩
theorem In.only {w w' : World} {g : Nat} {a : Option Addr} {zs : List Int} (h : In w a zs) (hb : OnlyBlock g w w') (hA : Ahead g a zs) : In w' a zs := by
  by_cases e : zs = []
  · exact .inl e
  · rcases h with h | ⟨b, off, rfl, hr⟩
    · exact .inl h
    · exact .inr ⟨b, off, rfl, hr.below hb.1 (hA e b off rfl)⟩
theorem bits_255 (X : Int) : 0 ≤ bits .and .u64 X 255 ∧ bits .and .u64 X 255 ≤ 255 := by
  have h255 : (BitVec.ofInt 64 255).toNat = 2 ^ 8 - 1 := by decide
  have key : (BitVec.ofInt 64 X &&& BitVec.ofInt 64 255).toNat = (X % ((2 ^ 64 : Nat) : Int)).toNat % 2 ^ 8 := by
    rw [BitVec.toNat_and, BitVec.toNat_ofInt, h255, Nat.and_two_pow_sub_one_eq_mod]
  have e : bits .and .u64 X 255 = IntKind.u64.wrap ((BitVec.ofInt 64 X &&& BitVec.ofInt 64 255).toNat : Nat) := rfl
  rw [e, key, IntKind.wrap_u64]
  omega

theorem cur_two {w : World} {bc n cap t : Nat} {a : Option Addr} {s : Int} (hs : w.heap[bc]? = some (.cells #[.slice a n cap, .int .i64 t, .int .u64 s] 70 (0, 0))) (s' : Int) :
    CurAt ((w.setCell ⟨bc, 1, none⟩ (.int .i64 ((t : Int) + 1))).setCell ⟨bc, 2, none⟩ (.int .u64 s')) bc a n cap (t + 1) ∧ OnlyBlock bc w ((w.setCell ⟨bc, 1, none⟩ (.int .i64 ((t : Int) + 1))).setCell ⟨bc, 2, none⟩ (.int .u64 s')) :=
  ⟨⟨s', heap_setCell_same _ bc 2 _ _ _ (heap_setCell_same w bc 1 _ _ _ hs)⟩, ((OnlyBlock.refl bc w).store 1 _).store 2 _⟩

set_option maxHeartbeats 1600000 in
theorem next_in (w : World) (bc b off n cap t : Nat) (zs : List Int) (HC : Hid (CurAt w bc (some ⟨b, off, none⟩) n cap t)) (hb : b < bc) (HL : Hid (zs.length = n)) (HR : Hid (Row w b off zs)) (ht : t < n) (hn : n ≤ 9223372036854775807) :
    Calls Tryz.prog 106 #[.pointer (some ⟨bc, 0, none⟩)] w (Nexts w bc (some ⟨b, off, none⟩) n cap t) := by
  obtain ⟨s, hs⟩ := HC.out
  have HH := Lib.hid hs
  have c0 : w.cell? ⟨bc, 0, none⟩ = some (.slice (some ⟨b, off, none⟩) n cap) := by rw [cell_of_row w bc 0 _ _ (0, 0) hs]; rfl
  have c1 : w.cell? ⟨bc, 1, none⟩ = some (.int .i64 t) := by rw [cell_of_row w bc 1 _ _ (0, 0) hs]; rfl
  have c2 : w.cell? ⟨bc, 2, none⟩ = some (.int .u64 s) := by rw [cell_of_row w bc 2 _ _ (0, 0) hs]; rfl
  have f1 : w.frozen? ⟨bc, 1, none⟩ = false := frozen_of_row w bc 1 _ _ hs
  have f2 : w.frozen? ⟨bc, 2, none⟩ = false := frozen_of_row w bc 2 _ _ hs
  clear hs
  obtain ⟨c, HV, h0, h1, hcell⟩ := HR.out.at t (by have := HL.out; omega)
  have hne : bc ≠ b := by omega
  have ht' : (t : Int) < n := by omega
  have e1 : IntKind.i64.wrap (t : Int) = t := IntWalk.i64_in _ (by omega)
  go_enter Tryz.func106, Tryz.ntmps106
  go_wp2_with fail
  go_quiet (fail)
  go_wp2_with fail
  go_quiet (fail)
  go_wp2_with fail
  go_quiet (fail)
  go_wp2
  go_ret
  exact ⟨c, rfl, h0, h1, (cur_two HH.out _).1, ((((OnlyBlock.refl bc w).drewN _).store 1 _).store 2 _).drewN _⟩

set_option maxHeartbeats 1600000 in
theorem next_out (w : World) (bc n cap t : Nat) (a : Option Addr) (HC : Hid (CurAt w bc a n cap t)) (ht : n ≤ t) (ht2 : t ≤ 1048576) :
    Calls Tryz.prog 106 #[.pointer (some ⟨bc, 0, none⟩)] w (Nexts w bc a n cap t) := by
  obtain ⟨s, hs⟩ := HC.out
  have HH := Lib.hid hs
  have c0 : w.cell? ⟨bc, 0, none⟩ = some (.slice a n cap) := by rw [cell_of_row w bc 0 _ _ (0, 0) hs]; rfl
  have c1 : w.cell? ⟨bc, 1, none⟩ = some (.int .i64 t) := by rw [cell_of_row w bc 1 _ _ (0, 0) hs]; rfl
  have c2 : w.cell? ⟨bc, 2, none⟩ = some (.int .u64 s) := by rw [cell_of_row w bc 2 _ _ (0, 0) hs]; rfl
  have f1 : w.frozen? ⟨bc, 1, none⟩ = false := frozen_of_row w bc 1 _ _ hs
  have f2 : w.frozen? ⟨bc, 2, none⟩ = false := frozen_of_row w bc 2 _ _ hs
  clear hs
  have d1 : decide (t < n) = false := by simp; omega
  have d2 : decide ((t : Int) + 1 ≤ n) = false := by simp; omega
  have d3 : (n : Int) < (t : Int) + 1 := by omega
  go_enter Tryz.func106, Tryz.ntmps106
  go_wp2_with fail
  go_quiet (fail)
  go_wp2_with fail
  go_quiet (fail)
  go_wp2
  go_ret
  exact ⟨_, ret_int (IntWalk.wrap64_in _ (by have := bits_255 (IntKind.u64.wrap (IntKind.u64.wrap (IntKind.u64.wrap (s * 6364136223846793005)) + 1442695040888963407) / 1099511627776); omega)), (bits_255 _).1, (bits_255 _).2, (cur_two HH.out _).1, ((((OnlyBlock.refl bc w).drewN _).store 1 _).store 2 _).drewN _⟩

theorem next_any (w : World) (bc n cap t : Nat) (a : Option Addr) (zs : List Int) (HC : Hid (CurAt w bc a n cap t)) (hA : Ahead bc a zs) (HL : Hid (zs.length = n)) (HI : Hid (In w a zs)) (hn : n ≤ 9223372036854775807) (ht2 : t ≤ 1048576) :
    Calls Tryz.prog 106 #[.pointer (some ⟨bc, 0, none⟩)] w (Nexts w bc a n cap t) := by
  by_cases h : t < n
  · rcases HI.out with h0 | ⟨b, off, rfl, hr⟩
    · have := HL.out; rw [h0] at this; simp at this; omega
    · exact next_in w bc b off n cap t zs HC (hA (fun e => by have := HL.out; rw [e] at this; simp at this; omega) b off rfl) HL hr h hn
  · exact next_out w bc n cap t a HC (by omega) ht2

def Picks (w : World) (bc : Nat) (a : Option Addr) (n cap t : Nat) (m : Int) (e : Ending) (w' : World) : Prop :=
  ∃ (r : Int) (t' : Nat), e = .returned (.int .i64 r) ∧ 0 ≤ r ∧ r < m ∧ t' ≤ t + 2 ∧ CurAt w' bc a n cap t' ∧ OnlyBlock bc w w'

set_option maxHeartbeats 1600000 in
theorem pick_any (w : World) (bc n cap t : Nat) (a : Option Addr) (zs : List Int) (m : Int) (hm : 1 < m) (hm2 : m ≤ 1000000) (HC : Hid (CurAt w bc a n cap t)) (hA : Hid (Ahead bc a zs)) (HL : Hid (zs.length = n)) (HI : Hid (In w a zs)) (hn : n ≤ 9223372036854775807) (ht2 : t ≤ 1000000) :
    Calls Tryz.prog 73 #[.pointer (some ⟨bc, 0, none⟩), .int .i64 m] w (Picks w bc a n cap t m) := by
  have d1 := not_le hm
  rcases Int.lt_or_le 200 m with hg | hg
  · have d2 := is_lt hg
    go_enter Tryz.func73, Tryz.ntmps73
    go_wp2_with (go_at_call 106; refine (next_any _ _ _ _ t _ zs HC hA.out HL HI hn (by omega)).mono ?_; rintro e v1 ⟨r1, rfl, r10, r11, c, o⟩; have C1 := Lib.hid c; have O1 := Lib.hid o; clear c o)
    go_wp2_with (go_at_call 106; refine (next_any _ _ _ _ (t + 1) _ zs C1 hA.out HL (Lib.hid (HI.out.only O1.out hA.out)) hn (by omega)).mono ?_; rintro e v2 ⟨r2, rfl, r20, r21, c, o⟩; have C2 := Lib.hid c; have O2 := Lib.hid o; clear c o)
    go_ret
    exact ⟨_, _, rfl, Int.emod_nonneg _ (by omega), Int.emod_lt_of_pos _ (by omega), by omega, C2.out, O1.out.trans O2.out⟩
  · have d2 := not_lt hg
    go_enter Tryz.func73, Tryz.ntmps73
    go_wp2_with (go_at_call 106; refine (next_any _ _ _ _ t _ zs HC hA.out HL HI hn (by omega)).mono ?_; rintro e v1 ⟨r1, rfl, r10, r11, c, o⟩; have C1 := Lib.hid c; have O1 := Lib.hid o; clear c o)
    go_ret
    exact ⟨_, _, rfl, Int.emod_nonneg _ (by omega), Int.emod_lt_of_pos _ (by omega), by omega, C1.out, O1.out⟩
end Go.Proofs.YthgbhnedfdnfpaaGreatDoor

/- The cursor's bytes: contracts of one, among, bytes. -/
namespace Go.Proofs.YthgbhnedfdnfpaaGreatDoor
set_option maxRecDepth 100000
open Go.RowKit

structure Bar (g B : Nat) (w w' : World) : Prop where
  os : w'.os = w.os
  tape : w'.tape = w.tape
  output : w'.output = w.output
  size : w.heap.size ≤ w'.heap.size
  block : ∀ k, k < B → k ≠ g → w'.heap[k]? = w.heap[k]?
theorem Bar.refl (g B : Nat) (w : World) : Bar g B w w := ⟨rfl, rfl, rfl, Nat.le_refl _, fun _ _ _ => rfl⟩
theorem Bar.trans {g B : Nat} {a b c : World} (h : Bar g B a b) (k : Bar g B b c) : Bar g B a c :=
  ⟨k.os.trans h.os, k.tape.trans h.tape, k.output.trans h.output, Nat.le_trans h.size k.size, fun i hi hg => (k.block i hi hg).trans (h.block i hi hg)⟩
theorem Bar.of_only {g : Nat} {w w' : World} (h : OnlyBlock g w w') (B : Nat) : Bar g B w w' := ⟨h.1.os, h.1.tape, h.1.output, h.1.size, fun k _ hg => h.2.2 k hg⟩
theorem Bar.of_below {g B : Nat} {w w' : World} (h : Below B w w') : Bar g B w w' := ⟨h.os, h.tape, h.output, h.size, fun k hk _ => h.block k hk⟩
theorem Bar.below {g B : Nat} {w w' : World} (h : Bar g B w w') {B' : Nat} (h1 : B' ≤ B) (h2 : B' ≤ g) : Below B' w w' := ⟨h.os, h.tape, h.output, h.size, fun k hk => h.block k (by omega) (by omega)⟩
theorem Bar.mono {g B B' : Nat} {w w' : World} (h : Bar g B w w') (hB : B' ≤ B) : Bar g B' w w' := ⟨h.os, h.tape, h.output, h.size, fun k hk => h.block k (by omega)⟩
theorem CurAt.lt {w : World} {bc n cap t : Nat} {a : Option Addr} (h : CurAt w bc a n cap t) : bc < w.heap.size := by
  obtain ⟨s, hs⟩ := h
  exact (Array.getElem?_eq_some_iff.1 hs).1
theorem CurAt.kept {w w' : World} {bc n cap t : Nat} {a : Option Addr} (h : CurAt w bc a n cap t) (hb : w'.heap[bc]? = w.heap[bc]?) : CurAt w' bc a n cap t := by
  obtain ⟨s, hs⟩ := h
  exact ⟨s, by rw [hb]; exact hs⟩
theorem CurAt.alloc {w : World} {bc n cap t : Nat} {a : Option Addr} (h : CurAt w bc a n cap t) (o : Obj) : CurAt (w.alloc o) bc a n cap t := h.kept (Below.heap_alloc _ _ _ h.lt)
theorem OwnV.only {w w' : World} {B g n : Nat} {v : Value} {zs : List Int} (h : OwnV w B v n zs) (ho : OnlyBlock g w w') (hg : g < B) : OwnV w' B v n zs := by
  obtain ⟨h1, h2⟩ := h
  refine ⟨h1, ?_⟩
  rcases h2 with h2 | ⟨g1, cap', cur, a, b, c, d⟩
  · exact .inl h2
  · exact .inr ⟨g1, cap', cur, a, b, by rw [ho.2.2 g1 (by omega)]; exact c, d⟩
theorem In.bar {w w' : World} {g B : Nat} {a : Option Addr} {zs : List Int} (h : In w a zs) (hb : Bar g B w w') (hA : Ahead g a zs) (hB : Ahead B a zs) : In w' a zs := by
  by_cases e : zs = []
  · exact .inl e
  · rcases h with h | ⟨b, off, rfl, hr⟩
    · exact .inl h
    · have h1 := hA e b off rfl
      refine .inr ⟨b, off, rfl, hr.below (hb.below (B' := b + 1) (hB e b off rfl) h1) (Nat.lt_succ_self b)⟩

def Ones (w : World) (bc : Nat) (a : Option Addr) (n cap t : Nat) (e : Ending) (w' : World) : Prop :=
  ∃ (r : Bool) (t' : Nat), e = .returned (.bool r) ∧ t' ≤ t + 2 ∧ CurAt w' bc a n cap t' ∧ OnlyBlock bc w w'
theorem one_any (w : World) (bc n cap t : Nat) (a : Option Addr) (zs : List Int) (m : Int) (hm : 1 < m) (hm2 : m ≤ 1000000) (HC : Hid (CurAt w bc a n cap t)) (hA : Hid (Ahead bc a zs)) (HL : Hid (zs.length = n)) (HI : Hid (In w a zs)) (hn : n ≤ 9223372036854775807) (ht2 : t ≤ 1000000) :
    Calls Tryz.prog 77 #[.pointer (some ⟨bc, 0, none⟩), .int .i64 m] w (Ones w bc a n cap t) := by
  go_enter Tryz.func77, Tryz.ntmps77
  go_wp2_with (go_at_call 73; refine (pick_any _ _ _ _ t _ zs m hm hm2 HC hA HL HI hn ht2).mono ?_; rintro e v1 ⟨r, t1, rfl, r0, r1, ht, c, o⟩; have C1 := Lib.hid c; have O1 := Lib.hid o; clear c o)
  go_ret
  exact ⟨_, t1, rfl, ht, C1.out, O1.out⟩

def Ints (w : World) (gl m : Nat) : Prop := ∀ i, i < m → ∃ x : Int, w.cell? ⟨gl, i, none⟩ = some (.int .i64 x)
theorem Ints.only {w w' : World} {gl m g : Nat} (h : Ints w gl m) (ho : OnlyBlock g w w') (hg : gl ≠ g) : Ints w' gl m := fun i hi => by
  obtain ⟨x, hx⟩ := h i hi
  exact ⟨x, by rw [← hx]; exact World.cell?_of_block (a := ⟨gl, i, none⟩) (ho.2.2 gl hg)⟩
def Amongs (w : World) (bc : Nat) (a : Option Addr) (n cap t : Nat) (e : Ending) (w' : World) : Prop :=
  ∃ (r : Int) (t' : Nat), e = .returned (.int .i64 r) ∧ t' ≤ t + 2 ∧ CurAt w' bc a n cap t' ∧ OnlyBlock bc w w'
theorem among_any (w : World) (bc n cap t gl m cl : Nat) (a : Option Addr) (zs : List Int) (HX : Hid (Ints w gl m)) (hgl : gl ≠ bc) (hm : 1 < m) (hm2 : m ≤ 100) (HC : Hid (CurAt w bc a n cap t)) (hA : Hid (Ahead bc a zs)) (HL : Hid (zs.length = n)) (HI : Hid (In w a zs)) (hn : n ≤ 9223372036854775807) (ht2 : t ≤ 1000000) :
    Calls Tryz.prog 75 #[.pointer (some ⟨bc, 0, none⟩), .slice (some ⟨gl, 0, none⟩) m cl] w (Amongs w bc a n cap t) := by
  go_enter Tryz.func75, Tryz.ntmps75
  go_wp2_with (go_at_call 73; refine (pick_any _ _ _ _ t _ zs (m : Int) (by omega) (by omega) HC hA HL HI hn ht2).mono ?_; rintro e v1 ⟨r, t1, rfl, r0, r1, ht, c, o⟩; obtain ⟨x, hx⟩ := (HX.out.only o hgl) r.toNat (by omega); have C1 := Lib.hid c; have O1 := Lib.hid o; clear c o)
  go_ret
  exact ⟨x, t1, rfl, ht, C1.out, O1.out⟩

end Go.Proofs.YthgbhnedfdnfpaaGreatDoor

/- What a law draws of its bytes: any numbers, any bytes of the draw's own. -/
namespace Go.Proofs.YthgbhnedfdnfpaaGreatDoor
set_option maxRecDepth 100000
open Go.RowKit

theorem cur_new (w : World) (a : Option Addr) (n cap : Nat) : CurAt (w.alloc (.cells #[.slice a n cap, .int .i64 0, .int .u64 0] 70)) w.heap.size a n cap 0 := ⟨0, by show (w.heap.push _)[w.heap.size]? = _; simp⟩

structure Dr (w wr : World) (a : Option Addr) (n cap : Nat) (zs : List Int) (t : Nat) : Prop where
  cur : CurAt wr w.heap.size a n cap t
  bel : Below w.heap.size w wr
  src : In wr a zs
  ahead : Ahead w.heap.size a zs
theorem Dr.new {w : World} {a : Option Addr} {n cap : Nat} {zs : List Int} (h : In w a zs) : Dr w (w.alloc (.cells #[.slice a n cap, .int .i64 0, .int .u64 0] 70)) a n cap zs 0 :=
  ⟨cur_new w a n cap, (Below.refl _ w).alloc (Nat.le_refl _) _, h.below ((Below.refl _ w).alloc (Nat.le_refl _) _), h.ahead⟩
theorem Dr.alloc {w wr : World} {a : Option Addr} {n cap t : Nat} {zs : List Int} (h : Dr w wr a n cap zs t) (o : Obj) : Dr w (wr.alloc o) a n cap zs t :=
  ⟨h.cur.alloc o, h.bel.alloc h.bel.size o, h.src.below ((Below.refl _ wr).alloc (Nat.le_refl _) o), h.ahead⟩
theorem Dr.bar {w wr w' : World} {a : Option Addr} {n cap t t' : Nat} {zs : List Int} (h : Dr w wr a n cap zs t) (hc : CurAt w' w.heap.size a n cap t') (hb : Bar w.heap.size wr.heap.size wr w') : Dr w w' a n cap zs t' :=
  ⟨hc, h.bel.trans (hb.below h.bel.size (Nat.le_refl _)), h.src.bar hb h.ahead (h.ahead.mono h.bel.size), h.ahead⟩
theorem Dr.only {w wr w' : World} {a : Option Addr} {n cap t t' : Nat} {zs : List Int} (h : Dr w wr a n cap zs t) (hc : CurAt w' w.heap.size a n cap t') (hb : OnlyBlock w.heap.size wr w') : Dr w w' a n cap zs t' :=
  h.bar hc (Bar.of_only hb _)
def DrInt (w wr : World) (a : Option Addr) (n cap : Nat) (zs : List Int) (t : Nat) (P : Int → Prop) (e : Ending) (w' : World) : Prop :=
  ∃ (r : Int) (t' : Nat), e = .returned (.int .i64 r) ∧ P r ∧ t' ≤ t + 2 ∧ Dr w w' a n cap zs t' ∧ OnlyBlock w.heap.size wr w'
theorem dr_pick {w wr : World} {a : Option Addr} {n cap t : Nat} {zs : List Int} (m : Int) (hm : 1 < m) (hm2 : m ≤ 1000000) (HD : Hid (Dr w wr a n cap zs t)) (HL : Hid (zs.length = n)) (hn : n ≤ 9223372036854775807) (ht : t ≤ 1000000) :
    Calls Tryz.prog 73 #[.pointer (some ⟨w.heap.size, 0, none⟩), .int .i64 m] wr (DrInt w wr a n cap zs t fun r => 0 ≤ r ∧ r < m) :=
  (pick_any wr _ n cap t a zs m hm hm2 HD.out.cur HD.out.ahead HL HD.out.src hn ht).mono fun _ _ ⟨r, t', he, h0, h1, h2, h3, h4⟩ => ⟨r, t', he, ⟨h0, h1⟩, h2, HD.out.only h3 h4, h4⟩
theorem dr_among {w wr : World} {a : Option Addr} {n cap t m cl : Nat} {zs : List Int} {o : Obj} (HX : Ints (wr.alloc o) wr.heap.size m) (hm : 1 < m) (hm2 : m ≤ 100) (HD : Hid (Dr w wr a n cap zs t)) (HL : Hid (zs.length = n)) (hn : n ≤ 9223372036854775807) (ht : t ≤ 1000000) :
    Calls Tryz.prog 75 #[.pointer (some ⟨w.heap.size, 0, none⟩), .slice (some ⟨wr.heap.size, 0, none⟩) m cl] (wr.alloc o) (DrInt w (wr.alloc o) a n cap zs t fun _ => True) :=
  (among_any (wr.alloc o) _ n cap t wr.heap.size m cl a zs HX (by have := HD.out.cur.lt; omega) (by omega) (by omega) (HD.out.alloc o).cur HD.out.ahead HL (HD.out.alloc o).src hn ht).mono fun _ _ ⟨r, t', he, h2, h3, h4⟩ => ⟨r, t', he, trivial, h2, (HD.out.alloc o).only h3 h4, h4⟩

theorem OwnV.base {w : World} {B B' n : Nat} {v : Value} {zs : List Int} (h : OwnV w B v n zs) (hB : B' ≤ B) : OwnV w B' v n zs := by
  obtain ⟨h1, h2⟩ := h
  refine ⟨h1, ?_⟩
  rcases h2 with h2 | ⟨g1, cap', cur, a, b, c⟩
  · exact .inl h2
  · exact .inr ⟨g1, cap', cur, a, by omega, c⟩
theorem OwnV.step {wr w' : World} {o : Obj} {B n : Nat} {v : Value} {zs : List Int} (h : OwnV wr (B + 1) v n zs) (ho : OnlyBlock B (wr.alloc o) w') : OwnV w' (B + 1) v n zs :=
  OwnV.only (World.ownsRow.alloc h o) ho (Nat.lt_succ_self B)
end Go.Proofs.YthgbhnedfdnfpaaGreatDoor

/- What a law draws of its bytes for PadTo. -/
namespace Go.Proofs.YthgbhnedfdnfpaaGreatDoor
set_option maxRecDepth 100000
open Go.RowKit

theorem dr_one {w wr : World} {a : Option Addr} {n cap t : Nat} {zs : List Int} (m : Int) (hm : 1 < m) (hm2 : m ≤ 1000000) (HD : Hid (Dr w wr a n cap zs t)) (HL : Hid (zs.length = n)) (hn : n ≤ 9223372036854775807) (ht : t ≤ 1000000) :
    Calls Tryz.prog 77 #[.pointer (some ⟨w.heap.size, 0, none⟩), .int .i64 m] wr fun e w' => ∃ (r : Bool) (t' : Nat), e = .returned (.bool r) ∧ t' ≤ t + 2 ∧ Dr w w' a n cap zs t' ∧ OnlyBlock w.heap.size wr w' :=
  (one_any wr _ n cap t a zs m hm hm2 HD.out.cur HD.out.ahead HL HD.out.src hn ht).mono fun _ _ ⟨r, t', he, h2, h3, h4⟩ => ⟨r, t', he, h2, HD.out.only h3 h4, h4⟩
end Go.Proofs.YthgbhnedfdnfpaaGreatDoor

/- Arguments that are configurations or classes: opened. -/
namespace Go.Proofs.YthgbhnedfdnfpaaGreatDoor
set_option maxRecDepth 100000
open Go.RowKit Go.Joins Go.ChangeShapes Go.WideShapes Go.Deep
set_option linter.unusedVariables false

def EightO (w : World) (b off k : Nat) (x : Cls) : Prop := w.cell? ⟨b, off + k * 8, none⟩ = some (.int .i64 x.i) ∧ w.cell? ⟨b, off + k * 8 + 1, none⟩ = some (.int .i64 x.p) ∧ w.cell? ⟨b, off + k * 8 + 2, none⟩ = some (.int .i64 x.r) ∧ w.cell? ⟨b, off + k * 8 + 3, none⟩ = some (.int .i64 x.e) ∧
  w.cell? ⟨b, off + k * 8 + 4, none⟩ = some (.int .i64 x.b) ∧ w.cell? ⟨b, off + k * 8 + 5, none⟩ = some (.int .i64 x.u) ∧ w.cell? ⟨b, off + k * 8 + 6, none⟩ = some (.int .i64 x.o) ∧ w.cell? ⟨b, off + k * 8 + 7, none⟩ = some (.int .i64 x.l)
theorem OffC.cls {w : World} {b off : Nat} {l : List Cls} (h : OffC w b off (clsCs l)) (k : Nat) (hk : k < l.length) (x : Cls) (hx : l.getD k cls0 = x) : EightO w b off k x := by
  subst hx
  have q := fun j (hj : j < 8) => clsCs_get l k j hj hk
  exact ⟨h.at _ ((q 0 (by decide)).trans rfl), h.at _ ((q 1 (by decide)).trans rfl), h.at _ ((q 2 (by decide)).trans rfl), h.at _ ((q 3 (by decide)).trans rfl), h.at _ ((q 4 (by decide)).trans rfl), h.at _ ((q 5 (by decide)).trans rfl), h.at _ ((q 6 (by decide)).trans rfl), h.at _ ((q 7 (by decide)).trans rfl)⟩
def FiveO (w : World) (b off k : Nat) (x : Flt) : Prop := w.cell? ⟨b, off + k * 5, none⟩ = some (.int .i64 x.o) ∧ w.cell? ⟨b, off + k * 5 + 1, none⟩ = some (.int .i64 x.f) ∧ w.cell? ⟨b, off + k * 5 + 2, none⟩ = some (.int .i64 x.m) ∧ w.cell? ⟨b, off + k * 5 + 3, none⟩ = some (.int .i64 x.v) ∧ w.cell? ⟨b, off + k * 5 + 4, none⟩ = some (.int .i64 x.t)
theorem OffC.flt {w : World} {b off : Nat} {l : List Flt} (h : OffC w b off (fltCs l)) (k : Nat) (hk : k < l.length) (x : Flt) (hx : l.getD k flt0 = x) : FiveO w b off k x := by
  subst hx
  have q := fun j (hj : j < 5) => fltCs_get l k j hj hk
  exact ⟨h.at _ ((q 0 (by decide)).trans rfl), h.at _ ((q 1 (by decide)).trans rfl), h.at _ ((q 2 (by decide)).trans rfl), h.at _ ((q 3 (by decide)).trans rfl), h.at _ ((q 4 (by decide)).trans rfl)⟩
section
variable {H : Type} {enc : TypeId × Value → H} {w : World} {base : Nat} {spare : Nat → Bool} {held : Bool}
def ArgCfg (w : World) (v : Value) (c : Cfg) : Prop :=
  ∃ ac cc af cf, v = .agg #[.string c.s, .slice ac c.cs.length cc, .slice af c.fs.length cf, .int .i64 c.d] ∧ c.s.size ≤ maxLen ∧ c.cs.length ≤ maxLen ∧ c.fs.length ≤ maxLen ∧ ArgX w ac c.cs.length (clsCs c.cs) ∧ ArgX w af c.fs.length (fltCs c.fs)
theorem ArgCfg.below {w w' : World} {v : Value} {c : Cfg} (h : ArgCfg w v c) (hb : Below w.heap.size w w') : ArgCfg w' v c := by
  obtain ⟨ac, cc, af, cf, hv, m0, m1, m2, hc, hf⟩ := h
  exact ⟨ac, cc, af, cf, hv, m0, m1, m2, hc.below hb, hf.below hb⟩
end
end Go.Proofs.YthgbhnedfdnfpaaGreatDoor

/- What the laws do with configurations: measured, made of arguments, compared. -/
namespace Go.Proofs.YthgbhnedfdnfpaaGreatDoor
set_option maxRecDepth 100000
open Go.RowKit
set_option linter.unusedVariables false

def CfgM (c : Cfg) : Prop := c.s.size ≤ 1048576 ∧ c.cs.length ≤ 1048576 ∧ c.fs.length ≤ 1048576
end Go.Proofs.YthgbhnedfdnfpaaGreatDoor

/- Lists of classes and of filters made of arguments; configurations made. -/
namespace Go.Proofs.YthgbhnedfdnfpaaGreatDoor
set_option maxRecDepth 100000
open Go.RowKit
set_option linter.unusedVariables false

theorem infoCls : (Tryz.prog.info? 41).map (fun i => (i.zero, i.size, i.bytes)) = some (some (.agg #[.int .i64 0, .int .i64 0, .int .i64 0, .int .i64 0, .int .i64 0, .int .i64 0, .int .i64 0, .int .i64 0]), 8, 64) := by kernel_rfl
theorem infoFlt : (Tryz.prog.info? 82).map (fun i => (i.zero, i.size, i.bytes)) = some (some (.agg #[.int .i64 0, .int .i64 0, .int .i64 0, .int .i64 0, .int .i64 0]), 5, 40) := by kernel_rfl
theorem set_cls {n : Nat} {w w1 : World} (h : Below n w w1) (b : Nat) (hb : n ≤ b) (j0 j1 j2 j3 j4 j5 j6 j7 : Nat) (v0 v1 v2 v3 v4 v5 v6 v7 : Value) : Below n w ((((((((w1.setCell ⟨b, j0, none⟩ v0).setCell ⟨b, j1, none⟩ v1).setCell ⟨b, j2, none⟩ v2).setCell ⟨b, j3, none⟩ v3).setCell ⟨b, j4, none⟩ v4).setCell ⟨b, j5, none⟩ v5).setCell ⟨b, j6, none⟩ v6).setCell ⟨b, j7, none⟩ v7) := (((((((h.setCell hb _).setCell hb _).setCell hb _).setCell hb _).setCell hb _).setCell hb _).setCell hb _).setCell hb _
def OwnCfg (w : World) (B : Nat) (v : Value) (c : Cfg) : Prop :=
  ∃ vc vf, v = .agg #[.string c.s, vc, vf, .int .i64 c.d] ∧ w.ownsRow B 41 8 vc c.cs.length (clsCs c.cs) ∧ w.ownsRow B 82 5 vf c.fs.length (fltCs c.fs) ∧ ∀ g, vc.ownBlock = some g → vf.ownBlock ≠ some g
theorem OwnCfg.cfg {w : World} {B : Nat} {v : Value} {c : Cfg} (h : OwnCfg w B v c) : CfgV w v c := by
  obtain ⟨vc, vf, hv, h1, h2, _⟩ := h
  obtain ⟨ac, cc, e1, i1⟩ := own_in h1
  obtain ⟨af, cf, e2, i2⟩ := own_in h2
  exact ⟨ac, cc, af, cf, by rw [hv, e1, e2], i1, i2⟩
theorem OwnCfg.low {w w' : World} {B B' : Nat} {v : Value} {c : Cfg} (h : OwnCfg w B v c) (hb : Below B' w w') (hB : w.heap.size ≤ B') : OwnCfg w' B v c := by
  obtain ⟨vc, vf, hv, h1, h2, h3⟩ := h
  exact ⟨vc, vf, hv, own_low h1 hb hB, own_low h2 hb hB, h3⟩
end Go.Proofs.YthgbhnedfdnfpaaGreatDoor
