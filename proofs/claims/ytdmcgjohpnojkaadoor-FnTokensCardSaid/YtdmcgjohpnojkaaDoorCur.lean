/- The cursor from which a law's arguments are drawn: contracts of next, pick, one, among. -/
import Derived.Test.YtdmcgjohpnojkaaDoorMark
import Derived.Laws.Bits64b
namespace Go.Proofs.YtdmcgjohpnojkaaDoor
set_option maxRecDepth 100000
open Go.RowKit

/-- the cursor in block bc: the bytes that it reads, where it is, its seed -/
def CurAt (w : World) (bc : Nat) (a : Option Addr) (n cap t : Nat) : Prop :=
  ∃ s : Int, w.heap[bc]? = some (.cells #[.slice a n cap, .int .i64 t, .int .u64 s] 66 (0, 0))
/-- what it reads lies ahead of it -/
def Ahead (bc : Nat) (a : Option Addr) (zs : List Int) : Prop := zs ≠ [] → ∀ b off, a = some ⟨b, off, none⟩ → b < bc
theorem In.ahead {w : World} {a : Option Addr} {zs : List Int} (h : In w a zs) : Ahead w.heap.size a zs := fun e b off ha => by
  rcases h with h | ⟨b1, off1, rfl, hr⟩
  · exact absurd h e
  · cases ha
    exact World.block_lt_of_cell? w _ (hr.1 0 (List.length_pos_iff.2 e))
theorem Ahead.mono {B B' : Nat} {a : Option Addr} {zs : List Int} (h : Ahead B a zs) (hB : B ≤ B') : Ahead B' a zs := fun e b off ha => Nat.lt_of_lt_of_le (h e b off ha) hB
def Nexts (w : World) (bc : Nat) (a : Option Addr) (n cap t : Nat) (e : Ending) (w' : World) : Prop :=
  ∃ r : Int, e = .returned (.int .i64 r) ∧ 0 ≤ r ∧ r ≤ 255 ∧ CurAt w' bc a n cap (t + 1) ∧ OnlyBlock bc w w'
theorem OnlyBlock.drewN {g : Nat} {w w' : World} (h : OnlyBlock g w w') (q : Nat) : OnlyBlock g w (w'.drewN q) := ⟨below_drewN h.1 q, h.2.1, h.2.2⟩
theorem OnlyBlock.trans {g : Nat} {w w' w'' : World} (h : OnlyBlock g w w') (k : OnlyBlock g w' w'') : OnlyBlock g w w'' := ⟨h.1.trans k.1, k.2.1.trans h.2.1, fun j hj => (k.2.2 j hj).trans (h.2.2 j hj)⟩
theorem In.only {w w' : World} {g : Nat} {a : Option Addr} {zs : List Int} (h : In w a zs) (hb : OnlyBlock g w w') (hA : Ahead g a zs) : In w' a zs := by
  by_cases e : zs = []
  · exact .inl e
  · rcases h with h | ⟨b, off, rfl, hr⟩
    · exact .inl h
    · exact .inr ⟨b, off, rfl, hr.below hb.1 (hA e b off rfl)⟩
theorem bits_255 (X : Int) : 0 ≤ bits .and .u64 X 255 ∧ bits .and .u64 X 255 ≤ 255 := by
  have h255 : (BitVec.ofInt 64 255).toNat = 2 ^ 8 - 1 := by decide
  have key : (BitVec.ofInt 64 X &&& BitVec.ofInt 64 255).toNat = (X % ((2 ^ 64 : Nat) : Int)).toNat % 2 ^ 8 := by
    rw [BitVec.toNat_and, BitVec.toNat_ofInt, h255, Nat.and_two_pow_sub_one_eq_mod]
  have e : bits .and .u64 X 255 = IntKind.u64.wrap ((BitVec.ofInt 64 X &&& BitVec.ofInt 64 255).toNat : Nat) := rfl
  rw [e, key, IntKind.wrap_u64]
  omega

theorem cur_two {w : World} {bc n cap t : Nat} {a : Option Addr} {s : Int} (hs : w.heap[bc]? = some (.cells #[.slice a n cap, .int .i64 t, .int .u64 s] 66 (0, 0))) (s' : Int) :
    CurAt ((w.setCell ⟨bc, 1, none⟩ (.int .i64 ((t : Int) + 1))).setCell ⟨bc, 2, none⟩ (.int .u64 s')) bc a n cap (t + 1) ∧ OnlyBlock bc w ((w.setCell ⟨bc, 1, none⟩ (.int .i64 ((t : Int) + 1))).setCell ⟨bc, 2, none⟩ (.int .u64 s')) :=
  ⟨⟨s', heap_setCell_same _ bc 2 _ _ _ (heap_setCell_same w bc 1 _ _ _ hs)⟩, ((OnlyBlock.refl bc w).store 1 _).store 2 _⟩

set_option maxHeartbeats 1600000 in
theorem next_in (w : World) (bc b off n cap t : Nat) (zs : List Int) (HC : Hid (CurAt w bc (some ⟨b, off, none⟩) n cap t)) (hb : b < bc) (HL : Hid (zs.length = n)) (HR : Hid (Row w b off zs)) (ht : t < n) (hn : n ≤ 9223372036854775807) :
    Calls Tryd.prog 107 #[.pointer (some ⟨bc, 0, none⟩)] w (Nexts w bc (some ⟨b, off, none⟩) n cap t) := by
  obtain ⟨s, hs⟩ := HC.out
  have HH := Lib.hid hs
  have c0 : w.cell? ⟨bc, 0, none⟩ = some (.slice (some ⟨b, off, none⟩) n cap) := by rw [cell_of_row w bc 0 _ _ (0, 0) hs]; rfl
  have c1 : w.cell? ⟨bc, 1, none⟩ = some (.int .i64 t) := by rw [cell_of_row w bc 1 _ _ (0, 0) hs]; rfl
  have c2 : w.cell? ⟨bc, 2, none⟩ = some (.int .u64 s) := by rw [cell_of_row w bc 2 _ _ (0, 0) hs]; rfl
  have f1 : w.frozen? ⟨bc, 1, none⟩ = false := frozen_of_row w bc 1 _ _ hs
  have f2 : w.frozen? ⟨bc, 2, none⟩ = false := frozen_of_row w bc 2 _ _ hs
  clear hs
  obtain ⟨c, HV, h0, h1, hcell⟩ := HR.out.at t (by have := HL.out; omega)
  have hne : bc ≠ b := by omega
  have ht' : (t : Int) < n := by omega
  have e1 : IntKind.i64.wrap (t : Int) = t := IntWalk.i64_in _ (by omega)
  go_enter Tryd.func107, Tryd.ntmps107
  go_wp2_with fail
  go_quiet (fail)
  go_wp2_with fail
  go_quiet (fail)
  go_wp2_with fail
  go_quiet (fail)
  go_wp2
  go_ret
  exact ⟨c, rfl, h0, h1, (cur_two HH.out _).1, ((((OnlyBlock.refl bc w).drewN _).store 1 _).store 2 _).drewN _⟩

set_option maxHeartbeats 1600000 in
theorem next_out (w : World) (bc n cap t : Nat) (a : Option Addr) (HC : Hid (CurAt w bc a n cap t)) (ht : n ≤ t) (ht2 : t ≤ 1048576) :
    Calls Tryd.prog 107 #[.pointer (some ⟨bc, 0, none⟩)] w (Nexts w bc a n cap t) := by
  obtain ⟨s, hs⟩ := HC.out
  have HH := Lib.hid hs
  have c0 : w.cell? ⟨bc, 0, none⟩ = some (.slice a n cap) := by rw [cell_of_row w bc 0 _ _ (0, 0) hs]; rfl
  have c1 : w.cell? ⟨bc, 1, none⟩ = some (.int .i64 t) := by rw [cell_of_row w bc 1 _ _ (0, 0) hs]; rfl
  have c2 : w.cell? ⟨bc, 2, none⟩ = some (.int .u64 s) := by rw [cell_of_row w bc 2 _ _ (0, 0) hs]; rfl
  have f1 : w.frozen? ⟨bc, 1, none⟩ = false := frozen_of_row w bc 1 _ _ hs
  have f2 : w.frozen? ⟨bc, 2, none⟩ = false := frozen_of_row w bc 2 _ _ hs
  clear hs
  have d1 : decide (t < n) = false := by simp; omega
  have d2 : decide ((t : Int) + 1 ≤ n) = false := by simp; omega
  have d3 : (n : Int) < (t : Int) + 1 := by omega
  go_enter Tryd.func107, Tryd.ntmps107
  go_wp2_with fail
  go_quiet (fail)
  go_wp2_with fail
  go_quiet (fail)
  go_wp2
  go_ret
  exact ⟨_, ret_int (IntWalk.wrap64_in _ (by have := bits_255 (IntKind.u64.wrap (IntKind.u64.wrap (IntKind.u64.wrap (s * 6364136223846793005)) + 1442695040888963407) / 1099511627776); omega)), (bits_255 _).1, (bits_255 _).2, (cur_two HH.out _).1, ((((OnlyBlock.refl bc w).drewN _).store 1 _).store 2 _).drewN _⟩

/-- the next byte, or a number of the seed's: whatever lies there -/
theorem next_any (w : World) (bc n cap t : Nat) (a : Option Addr) (zs : List Int) (HC : Hid (CurAt w bc a n cap t)) (hA : Ahead bc a zs) (HL : Hid (zs.length = n)) (HI : Hid (In w a zs)) (hn : n ≤ 9223372036854775807) (ht2 : t ≤ 1048576) :
    Calls Tryd.prog 107 #[.pointer (some ⟨bc, 0, none⟩)] w (Nexts w bc a n cap t) := by
  by_cases h : t < n
  · rcases HI.out with h0 | ⟨b, off, rfl, hr⟩
    · have := HL.out; rw [h0] at this; simp at this; omega
    · exact next_in w bc b off n cap t zs HC (hA (fun e => by have := HL.out; rw [e] at this; simp at this; omega) b off rfl) HL hr h hn
  · exact next_out w bc n cap t a HC (by omega) ht2

/-- the cursor has moved on by some places: a number below m was picked -/
def Picks (w : World) (bc : Nat) (a : Option Addr) (n cap t : Nat) (m : Int) (e : Ending) (w' : World) : Prop :=
  ∃ (r : Int) (t' : Nat), e = .returned (.int .i64 r) ∧ 0 ≤ r ∧ r < m ∧ t' ≤ t + 2 ∧ CurAt w' bc a n cap t' ∧ OnlyBlock bc w w'

set_option maxHeartbeats 1600000 in
theorem pick_any (w : World) (bc n cap t : Nat) (a : Option Addr) (zs : List Int) (m : Int) (hm : 1 < m) (hm2 : m ≤ 1000000) (HC : Hid (CurAt w bc a n cap t)) (hA : Hid (Ahead bc a zs)) (HL : Hid (zs.length = n)) (HI : Hid (In w a zs)) (hn : n ≤ 9223372036854775807) (ht2 : t ≤ 1000000) :
    Calls Tryd.prog 69 #[.pointer (some ⟨bc, 0, none⟩), .int .i64 m] w (Picks w bc a n cap t m) := by
  have d1 := not_le hm
  rcases Int.lt_or_le 200 m with hg | hg
  · have d2 := is_lt hg
    go_enter Tryd.func69, Tryd.ntmps69
    go_wp2_with (go_at_call 107; refine (next_any _ _ _ _ t _ zs HC hA.out HL HI hn (by omega)).mono ?_; rintro e v1 ⟨r1, rfl, r10, r11, c, o⟩; have C1 := Lib.hid c; have O1 := Lib.hid o; clear c o)
    go_wp2_with (go_at_call 107; refine (next_any _ _ _ _ (t + 1) _ zs C1 hA.out HL (Lib.hid (HI.out.only O1.out hA.out)) hn (by omega)).mono ?_; rintro e v2 ⟨r2, rfl, r20, r21, c, o⟩; have C2 := Lib.hid c; have O2 := Lib.hid o; clear c o)
    go_ret
    exact ⟨_, _, rfl, Int.emod_nonneg _ (by omega), Int.emod_lt_of_pos _ (by omega), by omega, C2.out, O1.out.trans O2.out⟩
  · have d2 := not_lt hg
    go_enter Tryd.func69, Tryd.ntmps69
    go_wp2_with (go_at_call 107; refine (next_any _ _ _ _ t _ zs HC hA.out HL HI hn (by omega)).mono ?_; rintro e v1 ⟨r1, rfl, r10, r11, c, o⟩; have C1 := Lib.hid c; have O1 := Lib.hid o; clear c o)
    go_ret
    exact ⟨_, _, rfl, Int.emod_nonneg _ (by omega), Int.emod_lt_of_pos _ (by omega), by omega, C1.out, O1.out⟩
end Go.Proofs.YtdmcgjohpnojkaaDoor
