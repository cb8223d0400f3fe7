/- What FnWritten draws of its bytes: texts, numbers, bytes. -/
import Derived.Test.YtniggnjnpapkeabDoorDrs
import Derived.Test.YtniggnjnpapkeabDoorSrc
namespace Go.Proofs.YtniggnjnpapkeabDoor
set_option maxRecDepth 100000
open Go.RowKit

/-- a string was drawn, a string and a number, a number, bytes -/
def OneStr (w : World) (e : Ending) (w' : World) : Prop := ∃ s : ByteArray, e = .returned (.string s) ∧ s.size ≤ 9000 ∧ Below w.heap.size w w'
def StrInt (w : World) (e : Ending) (w' : World) : Prop := ∃ (s : ByteArray) (x : Int), e = .returned (.tuple #[.string s, .int .i64 x]) ∧ s.size ≤ 9000 ∧ Below w.heap.size w w'
def OneInt (w : World) (e : Ending) (w' : World) : Prop := ∃ x : Int, e = .returned (.int .i64 x) ∧ Below w.heap.size w w'
def OneBytes (w : World) (e : Ending) (w' : World) : Prop :=
  ∃ (da : Option Addr) (l dc : Nat) (ys : List Int), e = .returned (.slice da l dc) ∧ l ≤ 4001 ∧ OwnV w' (w.heap.size + 1) (.slice da l dc) l ys ∧ (∀ c ∈ ys, 0 ≤ c ∧ c ≤ 255) ∧ Below w.heap.size w w'
theorem ints_nine (w : World) (x0 x1 x2 x3 x4 x5 x6 x7 x8 : Int) (ty : TypeId) : Ints (w.alloc (.cells #[.int .i64 x0, .int .i64 x1, .int .i64 x2, .int .i64 x3, .int .i64 x4, .int .i64 x5, .int .i64 x6, .int .i64 x7, .int .i64 x8] ty)) w.heap.size 9 := by
  intro i hi
  rw [World.cell?_alloc_at _ _ _ _ rfl]
  rcases (show i = 0 ∨ i = 1 ∨ i = 2 ∨ i = 3 ∨ i = 4 ∨ i = 5 ∨ i = 6 ∨ i = 7 ∨ i = 8 by omega) with rfl | rfl | rfl | rfl | rfl | rfl | rfl | rfl | rfl <;> exact ⟨_, rfl⟩
theorem scBytesText_nil (w : World) : Calls Tryd.prog 27 #[.slice none 0 0] w fun e w' => e = .returned (.string ⟨#[]⟩) ∧ w = w' := by
  go_enter Tryd.func27, Tryd.ntmps27
  go_wp2
  refine wp_loop_rounds 1 ?_
  rw [rounds_succ]
  go_wp2
  go_ret
  exact ⟨rfl, rfl⟩
/-- the model's text of drawn bytes -/
theorem btext_src (da : Option Addr) (l dc : Nat) (ys : List Int) (w : World) (HL : Hid (ys.length = l)) (hl : l ≤ 4001) (hs : Hid (SrcAt w da l dc ys)) :
    Calls Tryd.prog 27 #[.slice da l dc] w fun e w' => ∃ (s : ByteArray) (q : Nat), e = .returned (.string s) ∧ s.size ≤ 8002 ∧ w' = w.drewN q := by
  rcases hs.out with ⟨rfl, rfl, rfl, rfl⟩ | ⟨g, rfl, hg, hr⟩
  · exact (scBytesText_nil w).mono fun _ _ ⟨he, hw⟩ => ⟨⟨#[]⟩, 0, he, by rw [show (⟨#[]⟩ : ByteArray).size = 0 from rfl]; omega, hw.symm⟩
  · exact (scBytesText_some g 0 l dc ys w HL hr (by omega)).mono fun _ _ ⟨he, q, hw⟩ => ⟨_, q, he, by rw [strOfNums_size, bt_length]; have := HL.out; omega, hw⟩
set_option maxHeartbeats 1600000 in
theorem drawParse_any (w : World) (n cap : Nat) (a : Option Addr) (zs : List Int) (HL : Hid (zs.length = n)) (HI : Hid (In w a zs)) (hn : n ≤ 9223372036854775807) :
    Calls Tryd.prog 4 #[.slice a n cap] w (OneStr w) := by
  have D0 := Lib.hid (Dr.new (n := n) (cap := cap) HI.out)
  go_enter Tryd.func4, Tryd.ntmps4
  go_wp2_with (first
    | (go_at_call 28; (with_reducible refine (dr_bytes (t := 0) (zs := zs) D0 HL hn (by omega)).mono ?_); rintro e v1 ⟨da, l, dc, t1, ys, rfl, hl, ho, hr, ht1, d⟩; obtain ⟨hyl, hsrc⟩ := ho.src hr; have HYL := Lib.hid hyl; have HS := Lib.hid hsrc; have D1 := Lib.hid d; clear d ho hr hyl hsrc)
    | (go_at_call 27; (with_reducible refine (btext_src da l dc ys _ HYL hl HS).mono ?_); rintro e v2 ⟨s, q, rfl, hs, hw⟩; have D2 : Hid (Dr w v2 a n cap zs t1) := Lib.hid (by rw [hw]; exact D1.out.drewN q); clear hw)
    | (go_at_call 29; (with_reducible refine (dr_one (t := t1) (zs := zs) 3 (by omega) (by omega) D2 HL hn (by omega)).mono ?_); rintro e v3 ⟨x, t2, rfl, ht2, d, o⟩; have D3 := Lib.hid d; clear d o; cases x)
    | (go_at_call 30; (with_reducible refine (dr_spoilt (t := t2) (zs := zs) s _ (by omega) (by decide) (by decide) D3 HL hn (by omega)).mono ?_); rintro e v4 ⟨s', t3, rfl, hs', ht3, d⟩; have D4 := Lib.hid d; clear d))
  · go_ret
    exact ⟨s, rfl, by omega, D3.out.bel⟩
  · go_ret
    exact ⟨s', rfl, by omega, D4.out.bel⟩
set_option maxHeartbeats 1600000 in
theorem drawDec_any (w : World) (n cap : Nat) (a : Option Addr) (zs : List Int) (HL : Hid (zs.length = n)) (HI : Hid (In w a zs)) (hn : n ≤ 9223372036854775807) :
    Calls Tryd.prog 7 #[.slice a n cap] w (StrInt w) := by
  have D0 := Lib.hid (Dr.new (n := n) (cap := cap) HI.out)
  go_enter Tryd.func7, Tryd.ntmps7
  go_wp2_with (first
    | (go_at_call 34; (with_reducible refine (dr_words (t := 0) (zs := zs) D0 HL hn (by omega)).mono ?_); rintro e v1 ⟨s, t1, rfl, hs, ht1, d⟩; have D1 := Lib.hid d; clear d)
    | (go_at_call 35; (with_reducible refine (dr_of (m := 9) (L := 20) (t := t1) (zs := zs) (strs_of _ _ _ 9 20 (by decide)) (by omega) (by omega) D1 HL hn (by omega)).mono ?_); rintro e v2 ⟨x, t2, rfl, hx, ht2, d⟩; have D2 := Lib.hid d; clear d)
    | (go_at_call 36; (with_reducible refine (dr_among (m := 8) (t := t2) (zs := zs) (ints_eight v2 _ _ _ _ _ _ _ _ _) (by omega) (by omega) D2 HL hn (by omega)).mono ?_); rintro e v3 ⟨y, t3, rfl, _, ht3, d, o⟩; have D3 := Lib.hid d; clear d o))
  go_ret2
  exact ⟨_, y, rfl, by rw [ByteArray.size_append]; omega, D3.out.bel⟩
set_option maxHeartbeats 1600000 in
theorem drawHex_any (w : World) (n cap : Nat) (a : Option Addr) (zs : List Int) (HL : Hid (zs.length = n)) (HI : Hid (In w a zs)) (hn : n ≤ 9223372036854775807) :
    Calls Tryd.prog 10 #[.slice a n cap] w (StrInt w) := by
  have D0 := Lib.hid (Dr.new (n := n) (cap := cap) HI.out)
  go_enter Tryd.func10, Tryd.ntmps10
  go_wp2_with (first
    | (go_at_call 35; (with_reducible refine (dr_of2 (m := 8) (L := 11) (t := 0) (zs := zs) (by simp) (strs_of _ _ _ 8 11 (by decide)) (by omega) (by omega) D0 HL hn (by omega)).mono ?_); rintro e v1 ⟨x, t1, rfl, hx, ht1, d⟩; have D1 := Lib.hid d; clear d)
    | (go_at_call 34; (with_reducible refine (dr_words (t := t1) (zs := zs) D1 HL hn (by omega)).mono ?_); rintro e v2 ⟨s, t2, rfl, hs, ht2, d⟩; have D2 := Lib.hid d; clear d)
    | (go_at_call 36; (with_reducible refine (dr_among (m := 7) (t := t2) (zs := zs) (ints_seven v2 _ _ _ _ _ _ _ _) (by omega) (by omega) D2 HL hn (by omega)).mono ?_); rintro e v3 ⟨y, t3, rfl, _, ht3, d, o⟩; have D3 := Lib.hid d; clear d o))
  go_ret2
  exact ⟨_, y, rfl, by rw [ByteArray.size_append]; omega, D3.out.bel⟩
set_option maxHeartbeats 1600000 in
theorem drawBad_any (w : World) (n cap : Nat) (a : Option Addr) (zs : List Int) (HL : Hid (zs.length = n)) (HI : Hid (In w a zs)) (hn : n ≤ 9223372036854775807) :
    Calls Tryd.prog 13 #[.slice a n cap] w (OneStr w) := by
  have D0 := Lib.hid (Dr.new (n := n) (cap := cap) HI.out)
  go_enter Tryd.func13, Tryd.ntmps13
  go_wp2_with (first
    | (go_at_call 34; (with_reducible refine (dr_words (t := 0) (zs := zs) D0 HL hn (by omega)).mono ?_); rintro e v2 ⟨s, t1, rfl, hs, ht1, d⟩; have D2 := Lib.hid d; clear d)
    | (go_at_call 29; (with_reducible refine (dr_one (t := t1) (zs := zs) 2 (by omega) (by omega) D2 HL hn (by omega)).mono ?_); rintro e v3 ⟨x, t2, rfl, ht2, d, o⟩; have D3 := Lib.hid d; clear d o; cases x)
    | (go_at_call 30; (with_reducible refine (dr_spoilt (t := t2) (zs := zs) s _ (by omega) (by decide) (by decide) D3 HL hn (by omega)).mono ?_); rintro e v4 ⟨s', t3, rfl, hs', ht3, d⟩; have D4 := Lib.hid d; clear d))
  · go_ret
    exact ⟨s, rfl, by omega, D3.out.bel⟩
  · go_ret
    exact ⟨s', rfl, by omega, D4.out.bel⟩
set_option maxHeartbeats 1600000 in
theorem drawHexOf_any (w : World) (n cap : Nat) (a : Option Addr) (zs : List Int) (HL : Hid (zs.length = n)) (HI : Hid (In w a zs)) (hn : n ≤ 9223372036854775807) :
    Calls Tryd.prog 16 #[.slice a n cap] w (OneInt w) := by
  have D0 := Lib.hid (Dr.new (n := n) (cap := cap) HI.out)
  go_enter Tryd.func16, Tryd.ntmps16
  go_wp2_with (first
    | (go_at_call 45; (with_reducible refine (dr_pick (t := 0) (zs := zs) 60000 (by omega) (by omega) D0 HL hn (by omega)).mono ?_); rintro e v1 ⟨r1, t1, rfl, _, ht1, d, _⟩; have D1 := Lib.hid d; clear d)
    | (go_at_call 36; (with_reducible refine (dr_among (m := 9) (t := t1) (zs := zs) (ints_nine v1 _ _ _ _ _ _ _ _ _ _) (by omega) (by omega) D1 HL hn (by omega)).mono ?_); rintro e v3 ⟨y, t3, rfl, _, ht3, d, o⟩; have D3 := Lib.hid d; clear d o))
  go_ret
  exact ⟨y, rfl, D3.out.bel⟩
set_option maxHeartbeats 1600000 in
theorem drawIsP_any (w : World) (n cap : Nat) (a : Option Addr) (zs : List Int) (HL : Hid (zs.length = n)) (HI : Hid (In w a zs)) (hn : n ≤ 9223372036854775807) :
    Calls Tryd.prog 19 #[.slice a n cap] w (BytesTwo w) := by
  have D0 := Lib.hid (Dr.new (n := n) (cap := cap) HI.out)
  go_enter Tryd.func19, Tryd.ntmps19
  go_wp2_with (go_at_call 28; (with_reducible refine (dr_bytes (t := 0) (zs := zs) D0 HL hn (by omega)).mono ?_); rintro e v1 ⟨da, l, dc, t1, ys, rfl, hl, ho, hr, ht1, d⟩; have D1 := Lib.hid d; have OW1 := Lib.hid ho; have HR := Lib.hid hr; clear d ho hr)
  go_wp2_with (first
    | (go_at_call 45; (with_reducible refine (dr_pick (t := t1) (zs := zs) ((l : Int) + 2) (by omega) (by omega) D1 HL hn (by omega)).mono ?_); rintro e v2 ⟨r2, t2, rfl, _, ht2, d, o⟩; have D2 := Lib.hid d; have OW2 := Lib.hid (OW1.out.step0 o); clear d o)
    | (go_at_call 45; (with_reducible refine (dr_pick (t := t2) (zs := zs) 20 (by omega) (by omega) D2 HL hn (by omega)).mono ?_); rintro e v3 ⟨r3, t3, rfl, _, ht3, d, o⟩; have D3 := Lib.hid d; have OW3 := Lib.hid (OW2.out.step0 o); clear d o)
    | (go_at_call 45; (with_reducible refine (dr_pick (t := t3) (zs := zs) 4 (by omega) (by omega) D3 HL hn (by omega)).mono ?_); rintro e v4 ⟨r4, t4, rfl, _, ht4, d, o⟩; have D4 := Lib.hid d; have OW4 := Lib.hid (OW3.out.step0 o); clear d o)
    | (go_at_call 45; (with_reducible refine (dr_pick (t := t4) (zs := zs) 20 (by omega) (by omega) D4 HL hn (by omega)).mono ?_); rintro e v5 ⟨r5, t5, rfl, _, ht5, d, o⟩; have D5 := Lib.hid d; have OW5 := Lib.hid (OW4.out.step0 o); clear d o))
  go_ret3
  exact ⟨da, l, dc, ys, _, _, rfl, hl, OW5.out, HR.out, D5.out.bel⟩
set_option maxHeartbeats 1600000 in
theorem drawSum_any (w : World) (n cap : Nat) (a : Option Addr) (zs : List Int) (HL : Hid (zs.length = n)) (HI : Hid (In w a zs)) (hn : n ≤ 9223372036854775807) :
    Calls Tryd.prog 24 #[.slice a n cap] w (OneBytes w) := by
  have D0 := Lib.hid (Dr.new (n := n) (cap := cap) HI.out)
  go_enter Tryd.func24, Tryd.ntmps24
  go_wp2_with (go_at_call 28; (with_reducible refine (dr_bytes (t := 0) (zs := zs) D0 HL hn (by omega)).mono ?_); rintro e v1 ⟨da, l, dc, t1, ys, rfl, hl, ho, hr, ht1, d⟩; have D1 := Lib.hid d; have OW1 := Lib.hid ho; have HR := Lib.hid hr; clear d ho hr)
  go_ret
  exact ⟨da, l, dc, ys, rfl, hl, OW1.out, HR.out, D1.out.bel⟩
end Go.Proofs.YtniggnjnpapkeabDoor
