/- What a law draws of its bytes: strings. -/
import Derived.Test.YtniggnjnpapkeabDoorDrp
import Derived.Test.YtniggnjnpapkeabDoorBtxT
import Derived.Deep.QuietTactic
import Derived.BigQuiet
namespace Go.Proofs.YtniggnjnpapkeabDoor
set_option maxRecDepth 100000
open Go.RowKit

/-- a list of strings in block gl, each of at most L bytes -/
def Strs (w : World) (gl m L : Nat) : Prop := ∀ i, i < m → ∃ x : ByteArray, x.size ≤ L ∧ w.cell? ⟨gl, i, none⟩ = some (.string x)
theorem Strs.only {w w' : World} {gl m L g : Nat} (h : Strs w gl m L) (ho : OnlyBlock g w w') (hg : gl ≠ g) : Strs w' gl m L := fun i hi => by
  obtain ⟨x, hl, hx⟩ := h i hi
  exact ⟨x, hl, by rw [← hx]; exact World.cell?_of_block (a := ⟨gl, i, none⟩) (ho.2.2 gl hg)⟩
def shortAt (L : Nat) : Option Value → Bool
  | some (.string x) => decide (x.size ≤ L)
  | _ => false
theorem strs_of (w : World) (cs : Array Value) (ty : TypeId) (m L : Nat) (h : (List.range m).all (fun i => shortAt L cs[i]?) = true) : Strs (w.alloc (.cells cs ty)) w.heap.size m L := fun i hi => by
  have hq := List.all_eq_true.1 h i (List.mem_range.2 hi)
  rw [World.cell?_alloc_at _ _ _ _ rfl]
  cases hc : cs[i]? with
  | none => rw [hc] at hq; simp [shortAt] at hq
  | some v =>
    rw [hc] at hq
    cases v with
    | string x => exact ⟨x, by simpa [shortAt] using hq, rfl⟩
    | _ => simp [shortAt] at hq
def DrStr (w wr : World) (a : Option Addr) (n cap : Nat) (zs : List Int) (t L K : Nat) (e : Ending) (w' : World) : Prop :=
  ∃ (s : ByteArray) (t' : Nat), e = .returned (.string s) ∧ s.size ≤ L ∧ t' ≤ t + K ∧ Dr w w' a n cap zs t'
theorem dr_of {w wr : World} {a : Option Addr} {n cap t m cl L : Nat} {zs : List Int} {o : Obj} (HX : Strs (wr.alloc o) wr.heap.size m L) (hm : 1 < m) (hm2 : m ≤ 100) (HD : Hid (Dr w wr a n cap zs t)) (HL : Hid (zs.length = n)) (hn : n ≤ 9223372036854775807) (ht : t ≤ 1000000) :
    Calls Tryd.prog 35 #[.pointer (some ⟨w.heap.size, 0, none⟩), .slice (some ⟨wr.heap.size, 0, none⟩) m cl] (wr.alloc o) (DrStr w (wr.alloc o) a n cap zs t L 2) := by
  have HX := Lib.hid HX
  have HD2 := Lib.hid (HD.out.alloc o)
  have hne : wr.heap.size ≠ w.heap.size := by have := HD.out.cur.lt; omega
  obtain ⟨wa, hwa⟩ : ∃ wa, wr.alloc o = wa := ⟨_, rfl⟩
  rw [hwa] at HX HD2 ⊢
  clear hwa HD
  go_enter Tryd.func35, Tryd.ntmps35
  go_wp2_with (go_at_call 45; refine (dr_pick (m : Int) (by omega) (by omega) HD2 HL hn ht).mono ?_; rintro e v1 ⟨r, t1, rfl, ⟨r0, r1⟩, ht1, d, o1⟩; obtain ⟨x, hxl, hx⟩ := (HX.out.only o1 hne) r.toNat (by omega); have D1 := Lib.hid d; clear d o1)
  go_ret
  exact ⟨x, t1, rfl, hxl, ht1, D1.out⟩
theorem dr_of2 {w wr : World} {a : Option Addr} {n cap t m cl L g : Nat} {zs : List Int} {o : Obj} (hg : g = wr.heap.size) (HX : Strs (wr.alloc o) wr.heap.size m L) (hm : 1 < m) (hm2 : m ≤ 100) (HD : Hid (Dr w wr a n cap zs t)) (HL : Hid (zs.length = n)) (hn : n ≤ 9223372036854775807) (ht : t ≤ 1000000) :
    Calls Tryd.prog 35 #[.pointer (some ⟨w.heap.size, 0, none⟩), .slice (some ⟨g, 0, none⟩) m cl] (wr.alloc o) (DrStr w (wr.alloc o) a n cap zs t L 2) := by
  subst hg
  exact dr_of HX hm hm2 HD HL hn ht
theorem dr_pick1 {w wr : World} {a : Option Addr} {n cap t : Nat} {zs : List Int} (m : Int) (hm : 1 ≤ m) (hm2 : m ≤ 1000000) (HD : Hid (Dr w wr a n cap zs t)) (HL : Hid (zs.length = n)) (hn : n ≤ 9223372036854775807) (ht : t ≤ 1000000) :
    Calls Tryd.prog 45 #[.pointer (some ⟨w.heap.size, 0, none⟩), .int .i64 m] wr (DrInt w wr a n cap zs t fun r => 0 ≤ r ∧ r < m) := by
  rcases Int.lt_or_eq_of_le hm with h | h
  · exact dr_pick m h hm2 HD HL hn ht
  · subst h
    go_enter Tryd.func45, Tryd.ntmps45
    go_wp2
    go_ret
    exact ⟨0, t, rfl, ⟨Int.le_refl _, by omega⟩, by omega, HD.out, OnlyBlock.refl _ _⟩
theorem lit_le (l : List UInt8) (L : Nat) (h : l.length ≤ L) : (⟨l.toArray⟩ : ByteArray).size ≤ L := by simpa [ByteArray.size] using h

def WordsRel (w : World) (a : Option Addr) (n cap : Nat) (zs : List Int) (t : Nat) (s k : Value) (wr : World) : Prop :=
  ∃ (j t' : Nat) (u : ByteArray), j ≤ 7 ∧ k = .int .i64 j ∧ s = .string u ∧ u.size + 4 * j ≤ 28 ∧ t' + 2 * j ≤ t + 16 ∧ Dr w wr a n cap zs t'
def sizeV : Value → Nat
  | .string u => u.size
  | _ => 0
def OnesRel (m : Int) (s : Value) : Prop := ∃ u : ByteArray, s = .string u ∧ (u.size : Int) ≤ m
set_option maxHeartbeats 3200000 in
theorem dr_words {w wr : World} {a : Option Addr} {n cap t : Nat} {zs : List Int} (HD : Hid (Dr w wr a n cap zs t)) (HL : Hid (zs.length = n)) (hn : n ≤ 9223372036854775807) (ht : t ≤ 900000) :
    Calls Tryd.prog 34 #[.pointer (some ⟨w.heap.size, 0, none⟩)] wr (DrStr w wr a n cap zs t 4001 30) := by
  go_enter Tryd.func34, Tryd.ntmps34
  go_wp2_with (go_at_call 45; refine (dr_pick 8 (by omega) (by omega) HD HL hn (by omega)).mono ?_; rintro e v1 ⟨r, t1, rfl, ⟨r0, r1⟩, ht1, d, o1⟩; have D1 := Lib.hid d; clear d o1)
  go_loopw [3, 4] (fun s k wr => WordsRel w a n cap zs t s k wr) (fun _ k _ => (intOf k).toNat)
  case atStart => exact ⟨r.toNat, t1, ⟨#[]⟩, by omega, by go_num, rfl, by rw [show (⟨#[]⟩ : ByteArray).size = 0 from rfl]; omega, by omega, D1.out⟩
  case round =>
    obtain ⟨j, t', u, hj, rfl, rfl, hu, ht', hd⟩ := hrel
    have D2 := Lib.hid hd
    clear hd
    cases j with
    | zero =>
      have hu28 : u.size ≤ 28 := by omega
      go_wp2_with (go_at_call 29; refine (dr_one 40 (by omega) (by omega) D2 HL hn (by omega)).mono ?_; rintro e v2 ⟨x, t2, rfl, ht2, d, o⟩; have D3 := Lib.hid d; clear d o; cases x)
      · go_ret
        exact ⟨u, t2, rfl, by omega, by omega, D3.out⟩
      · go_wp2_with (go_at_call 45; refine (dr_pick 2 (by omega) (by omega) D3 HL hn (by omega)).mono ?_; rintro e v3 ⟨r2, t3, rfl, ⟨r20, r21⟩, ht3, d, o1⟩; have D4 := Lib.hid d; clear d o1)
        go_loop [3] (fun s => OnesRel 4001 s) (fun s => 4001 - sizeV s)
        case atStart => exact ⟨u, rfl, by omega⟩
        case round =>
          obtain ⟨u', rfl, hu'⟩ := hrel
          by_cases hlt : (u'.size : Int) < 4000 + r2
          · have dl := is_lt hlt
            go_wp2
            go_round
            case rel => exact ⟨_, rfl, by rw [ByteArray.size_append, show (⟨#[49]⟩ : ByteArray).size = 1 from rfl]; omega⟩
            case measure => simp only [sizeV, ByteArray.size_append, show (⟨#[49]⟩ : ByteArray).size = 1 from rfl]; omega
          · have dl := not_lt (Int.not_lt.1 hlt)
            go_wp2
            go_ret
            exact ⟨u', t3, rfl, by omega, by omega, D4.out⟩
    | succ j =>
      go_wp2_with (go_at_call 35; (with_reducible refine (dr_of (m := 8) (L := 4) (t := t') (zs := zs) (strs_of _ _ _ 8 4 (by decide)) (by omega) (by omega) D2 HL hn (by omega)).mono ?_); rintro e v2 ⟨x, t2, rfl, hx, ht2, d⟩; have D3 := Lib.hid d; clear d)
      go_roundw
      case rel => exact ⟨j, t2, u ++ x, by omega, by go_num, rfl, by rw [ByteArray.size_append]; omega, by omega, D3.out⟩
      case measure => simp [intOf]
/-- a string cut at an index -/
theorem cut_run (u : ByteArray) (i : Int) (h0 : 0 ≤ i) (h1 : i < u.size) : ∃ x y z : ByteArray, (x.size : Int) = i ∧ (y.size : Int) = u.size - i ∧ (z.size : Int) = u.size - i - 1 ∧
    (∀ w, (Instr.slice 9 (.string u) none (some (.int .i64 i)) none).run Tryd.prog w = .ok (.string x) w) ∧
    (∀ w, (Instr.slice 9 (.string u) (some (.int .i64 i)) none none).run Tryd.prog w = .ok (.string y) w) ∧
    (∀ w, (Instr.slice 9 (.string u) (some (.int .i64 (i + 1))) none none).run Tryd.prog w = .ok (.string z) w) := by
  refine ⟨u.extract 0 i.toNat, u.extract i.toNat u.size, u.extract (i + 1).toNat u.size, ?_, ?_, ?_, fun w => ?_, fun w => ?_, fun w => ?_⟩
  · simp; omega
  · simp; omega
  · simp; omega
  · exact run_slice_string_h w 9 u Tryd.underlying9 .i64 i (by omega) (by omega)
  · exact run_slice_string_l w 9 u Tryd.underlying9 .i64 i (by omega) (by omega)
  · exact run_slice_string_l w 9 u Tryd.underlying9 .i64 (i + 1) (by omega) (by omega)
theorem byte_run (u : ByteArray) (i : Int) (h0 : 0 ≤ i) (h1 : i < u.size) : ∃ b : Int, ∀ w, (Instr.index 9 (.string u) (.int .i64 i)).run Tryd.prog w = .ok (.int .u8 b) w :=
  ⟨_, fun w => by rw [run_index_string w 9 u .i64 i Tryd.underlying9, dif_pos ⟨h0, h1⟩]⟩
theorem conv_lit (w : World) (z : Int) : (convert 22 9 (.slice (some ⟨w.heap.size, 0, none⟩) 1 1)).run Tryd.prog (w.alloc (.cells #[.int .u8 z] 5)) = .ok (.string (strOfNums [z])) (w.alloc (.cells #[.int .u8 z] 5)) :=
  run_convert_bytes_arg (w.alloc (.cells #[.int .u8 z] 5)) 22 5 Tryd.underlying22 Tryd.underlying5 w.heap.size 0 1 1 [z] rfl
    (fun i hi => by
      obtain rfl : i = 0 := by omega
      rw [World.cell?_alloc_at _ _ _ _ rfl]
      rfl) 9 Tryd.underlying9
theorem Dr.drewN {w wr : World} {a : Option Addr} {n cap t : Nat} {zs : List Int} (h : Dr w wr a n cap zs t) (q : Nat) : Dr w (wr.drewN q) a n cap zs t := ⟨h.cur, below_drewN h.bel q, h.src, h.ahead⟩
def SpoilRel (w : World) (a : Option Addr) (n cap : Nat) (zs : List Int) (t m : Nat) (s k : Value) (wr : World) : Prop :=
  ∃ (j t' : Nat) (u : ByteArray), j ≤ 2 ∧ k = .int .i64 j ∧ s = .string u ∧ u.size + j ≤ m + 2 ∧ t' + 6 * j ≤ t + 14 ∧ Dr w wr a n cap zs t'
set_option maxHeartbeats 3200000 in
theorem dr_spoilt {w wr : World} {a : Option Addr} {n cap t : Nat} {zs : List Int} (s x : ByteArray) (hs : s.size ≤ 9000) (hx1 : 1 < x.size) (hx2 : x.size ≤ 100) (HD : Hid (Dr w wr a n cap zs t)) (HL : Hid (zs.length = n)) (hn : n ≤ 9223372036854775807) (ht : t ≤ 900000) :
    Calls Tryd.prog 30 #[.pointer (some ⟨w.heap.size, 0, none⟩), .string s, .string x] wr (DrStr w wr a n cap zs t (s.size + 2) 30) := by
  go_enter Tryd.func30, Tryd.ntmps30
  go_wp2_with (go_at_call 45; refine (dr_pick 2 (by omega) (by omega) HD HL hn (by omega)).mono ?_; rintro e v1 ⟨r, t1, rfl, ⟨r0, r1⟩, ht1, d, o1⟩; have D1 := Lib.hid d; clear d o1)
  go_loopw [1, 7] (fun s' k wr => SpoilRel w a n cap zs t s.size s' k wr) (fun _ k _ => (intOf k).toNat)
  case atStart => exact ⟨(1 + r).toNat, t1, s, by omega, by go_num, rfl, by omega, by omega, D1.out⟩
  case round =>
    obtain ⟨j, t', u, hj, rfl, rfl, hu, ht', hd⟩ := hrel
    have D2 := Lib.hid hd
    clear hd
    cases j with
    | zero =>
      go_wp2
      go_ret
      exact ⟨u, t', rfl, by omega, by omega, D2.out⟩
    | succ j =>
      by_cases hp : (0 : Int) < u.size
      · have dp := is_lt hp
        have hu9 : u.size ≤ 9002 := by omega
        have hj2 : (j : Int) ≤ 2 := by omega
        go_wp2_with (first
          | (go_at_call 45; (with_reducible refine (dr_pick1 (t := t') (zs := zs) (u.size : Int) (by omega) (by omega) D2 HL hn (by omega)).mono ?_); rintro e v2 ⟨i, t2, rfl, ⟨i0, i1⟩, ht2, d, o1⟩; have D3 := Lib.hid d; clear d o1; obtain ⟨x1, x2, x3, n1, n2, n3, r1, r2, r3⟩ := cut_run u i i0 i1)
          | (go_at_call 45; (with_reducible refine (dr_pick (t := t2) (zs := zs) (x.size : Int) (by omega) (by omega) D3 HL hn (by omega)).mono ?_); rintro e v3 ⟨p, t3, rfl, ⟨p0, p1⟩, ht3, d, o1⟩; have D4 := Lib.hid d; clear d o1; obtain ⟨b, rb⟩ := byte_run x p p0 p1; have cv := conv_lit; have D5 := Lib.hid (D4.out.alloc (.cells #[.int .u8 b] 5)))
          | (go_at_call 45; (with_reducible refine (dr_pick (t := t3) (zs := zs) 3 (by omega) (by omega) D5 HL hn (by omega)).mono ?_); rintro e v4 ⟨q, t4, rfl, ⟨q0, q1⟩, ht4, d, o1⟩; have D6 := Lib.hid d; clear d o1; obtain rfl | rfl | rfl : q = 0 ∨ q = 1 ∨ q = 2 := by omega))
        · have hz1 : (strOfNums [b]).size = 1 := by rw [strOfNums_size]; rfl
          have hz2 : (x1 ++ strOfNums [b]).size ≤ 9003 := by rw [ByteArray.size_append]; omega
          go_quiet (fail)
          go_wp2
          go_roundw
          case rel => exact ⟨j, t4, _, by omega, by go_num, rfl, by rw [ByteArray.size_append, ByteArray.size_append, hz1]; omega, by omega, D6.out.drewN _⟩
          case measure => simp [intOf]
        · have hz1 : (strOfNums [b]).size = 1 := by rw [strOfNums_size]; rfl
          have hz2 : (x1 ++ strOfNums [b]).size ≤ 9003 := by rw [ByteArray.size_append]; omega
          go_quiet (fail)
          go_wp2
          go_roundw
          case rel => exact ⟨j, t4, _, by omega, by go_num, rfl, by rw [ByteArray.size_append, ByteArray.size_append, hz1]; omega, by omega, D6.out.drewN _⟩
          case measure => simp [intOf]
        · go_quiet (fail)
          go_wp2
          go_roundw
          case rel => exact ⟨j, t4, _, by omega, by go_num, rfl, by rw [ByteArray.size_append]; omega, by omega, D6.out.drewN _⟩
          case measure => simp [intOf]
      · have dp := not_lt (Int.not_lt.1 hp)
        go_wp2
        go_ret
        exact ⟨u, t', rfl, by omega, by omega, D2.out⟩
end Go.Proofs.YtniggnjnpapkeabDoor
