/- What FnTokens draws of its bytes: texts of tokens. -/
import Derived.Test.YtdmcgjohpnojkaaDoorDrp
import Derived.Test.YtdmcgjohpnojkaaDoorTkw
namespace Go.Proofs.YtdmcgjohpnojkaaDoor
set_option maxRecDepth 100000
open Go.RowKit
set_option linter.unusedVariables false

/-- a list of strings in block gl, each of at most L bytes -/
def Strs (w : World) (gl m L : Nat) : Prop := ∀ i, i < m → ∃ x : ByteArray, x.size ≤ L ∧ w.cell? ⟨gl, i, none⟩ = some (.string x)
theorem Strs.only {w w' : World} {gl m L g : Nat} (h : Strs w gl m L) (ho : OnlyBlock g w w') (hg : gl ≠ g) : Strs w' gl m L := fun i hi => by
  obtain ⟨x, hl, hx⟩ := h i hi
  exact ⟨x, hl, by rw [← hx]; exact World.cell?_of_block (a := ⟨gl, i, none⟩) (ho.2.2 gl hg)⟩
def shortAt (L : Nat) : Option Value → Bool
  | some (.string x) => decide (x.size ≤ L)
  | _ => false
theorem strs_of (w : World) (cs : Array Value) (ty : TypeId) (m L : Nat) (h : (List.range m).all (fun i => shortAt L cs[i]?) = true) : Strs (w.alloc (.cells cs ty)) w.heap.size m L := fun i hi => by
  have hq := List.all_eq_true.1 h i (List.mem_range.2 hi)
  rw [World.cell?_alloc_at _ _ _ _ rfl]
  cases hc : cs[i]? with
  | none => rw [hc] at hq; simp [shortAt] at hq
  | some v =>
    rw [hc] at hq
    cases v with
    | string x => exact ⟨x, by simpa [shortAt] using hq, rfl⟩
    | _ => simp [shortAt] at hq
def DrStr (w wr : World) (a : Option Addr) (n cap : Nat) (zs : List Int) (t L K : Nat) (e : Ending) (w' : World) : Prop :=
  ∃ (s : ByteArray) (t' : Nat), e = .returned (.string s) ∧ s.size ≤ L ∧ t' ≤ t + K ∧ Dr w w' a n cap zs t'
theorem dr_of {w wr : World} {a : Option Addr} {n cap t m cl L : Nat} {zs : List Int} {o : Obj} (HX : Strs (wr.alloc o) wr.heap.size m L) (hm : 1 < m) (hm2 : m ≤ 100) (HD : Hid (Dr w wr a n cap zs t)) (HL : Hid (zs.length = n)) (hn : n ≤ 9223372036854775807) (ht : t ≤ 1000000) :
    Calls Tryd.prog 71 #[.pointer (some ⟨w.heap.size, 0, none⟩), .slice (some ⟨wr.heap.size, 0, none⟩) m cl] (wr.alloc o) (DrStr w (wr.alloc o) a n cap zs t L 2) := by
  have HX := Lib.hid HX
  have HD2 := Lib.hid (HD.out.alloc o)
  have hne : wr.heap.size ≠ w.heap.size := by have := HD.out.cur.lt; omega
  obtain ⟨wa, hwa⟩ : ∃ wa, wr.alloc o = wa := ⟨_, rfl⟩
  rw [hwa] at HX HD2 ⊢
  clear hwa HD
  go_enter Tryd.func71, Tryd.ntmps71
  go_wp2_with (go_at_call 69; refine (dr_pick (m : Int) (by omega) (by omega) HD2 HL hn ht).mono ?_; rintro e v1 ⟨r, t1, rfl, ⟨r0, r1⟩, ht1, d, o1⟩; obtain ⟨x, hxl, hx⟩ := (HX.out.only o1 hne) r.toNat (by omega); have D1 := Lib.hid d; clear d o1)
  go_ret
  exact ⟨x, t1, rfl, hxl, ht1, D1.out⟩
def sizeV : Value → Nat
  | .string u => u.size
  | _ => 0
def OnesRel (m : Int) (s : Value) : Prop := ∃ u : ByteArray, s = .string u ∧ (u.size : Int) ≤ m
theorem Dr.up {w wr w' : World} {a : Option Addr} {n cap t : Nat} {zs : List Int} (h : Dr w wr a n cap zs t) (hb : Below wr.heap.size wr w') : Dr w w' a n cap zs t := h.bar (h.cur.kept (hb.block _ h.cur.lt)) (Bar.of_below hb)
theorem strs_texts {w : World} {g L : Nat} {l : List ByteArray} (h : TextsAt w g l) (hL : ∀ x ∈ l, x.size ≤ L) : Strs w g l.length L := fun i hi =>
  ⟨l.getD i ⟨#[]⟩, hL _ (by rw [List.getD_eq_getElem?_getD, List.getElem?_eq_getElem hi]; exact List.getElem_mem hi), h i hi⟩
theorem dr_at {w wr : World} {a : Option Addr} {n cap t m cl L gl : Nat} {zs : List Int} (HX : Hid (Strs wr gl m L)) (hg : gl ≠ w.heap.size) (hm : 1 < m) (hm2 : m ≤ 100) (HD : Hid (Dr w wr a n cap zs t)) (HL : Hid (zs.length = n)) (hn : n ≤ 9223372036854775807) (ht : t ≤ 1000000) :
    Calls Tryd.prog 71 #[.pointer (some ⟨w.heap.size, 0, none⟩), .slice (some ⟨gl, 0, none⟩) m cl] wr (DrStr w wr a n cap zs t L 2) := by
  go_enter Tryd.func71, Tryd.ntmps71
  go_wp2_with (go_at_call 69; refine (dr_pick (m : Int) (by omega) (by omega) HD HL hn ht).mono ?_; rintro e v1 ⟨r, t1, rfl, ⟨r0, r1⟩, ht1, d, o1⟩; obtain ⟨x, hxl, hx⟩ := (HX.out.only o1 hg) r.toNat (by omega); have D1 := Lib.hid d; clear d o1)
  go_ret
  exact ⟨x, t1, rfl, hxl, ht1, D1.out⟩
theorem kw_short : ∀ x ∈ kwA, x.size ≤ 13 := by decide
theorem sg_short : ∀ x ∈ sgA, x.size ≤ 13 := by decide
theorem tt_keys {w wr w1 : World} {a : Option Addr} {n cap t : Nat} {zs : List Int} {l : List ByteArray} {e : Ending} (k : Nat) (hk : l.length = k) (hs : ∀ x ∈ l, x.size ≤ 13) (HD : Dr w wr a n cap zs t) (h : e = .returned (.slice (some ⟨wr.heap.size, 0, none⟩) k k) ∧ TextsAt w1 wr.heap.size l ∧ Below wr.heap.size wr w1) :
    e = .returned (.slice (some ⟨wr.heap.size, 0, none⟩) k k) ∧ Hid (Strs w1 wr.heap.size k 13) ∧ Hid (Dr w w1 a n cap zs t) ∧ wr.heap.size ≠ w.heap.size := by
  subst hk
  exact ⟨h.1, strs_texts h.2.1 hs, HD.up h.2.2, by have := HD.cur.lt; omega⟩
set_option maxHeartbeats 3200000 in
theorem dr_text {w wr : World} {a : Option Addr} {n cap t : Nat} {zs : List Int} (HD : Hid (Dr w wr a n cap zs t)) (HL : Hid (zs.length = n)) (hn : n ≤ 9223372036854775807) (ht : t ≤ 900000) :
    Calls Tryd.prog 70 #[.pointer (some ⟨w.heap.size, 0, none⟩)] wr (DrStr w wr a n cap zs t 13 6) := by
  go_enter Tryd.func70, Tryd.ntmps70
  go_wp2_with (go_at_call 69; refine (dr_pick 8 (by omega) (by omega) HD HL hn (by omega)).mono ?_; rintro e v1 ⟨r, t1, rfl, ⟨r0, r1⟩, ht1, d, o1⟩; have D1 := Lib.hid d; clear d o1; refine Hid.out ?_)
  refine Lib.hid ?_
  have SG : Hid (Calls Tryd.prog 109 #[] v1 fun e w1 => e = .returned (.slice (some ⟨v1.heap.size, 0, none⟩) 6 6) ∧ Hid (Strs w1 v1.heap.size 6 13) ∧ Hid (Dr w w1 a n cap zs t1) ∧ v1.heap.size ≠ w.heap.size) := Lib.hid ((tkSigns_any v1).mono fun _ _ h => tt_keys 6 rfl sg_short D1.out h)
  have KY : Hid (Calls Tryd.prog 108 #[] v1 fun e w1 => e = .returned (.slice (some ⟨v1.heap.size, 0, none⟩) 14 14) ∧ Hid (Strs w1 v1.heap.size 14 13) ∧ Hid (Dr w w1 a n cap zs t1) ∧ v1.heap.size ≠ w.heap.size) := Lib.hid ((tkKeys_any v1).mono fun _ _ h => tt_keys 14 rfl kw_short D1.out h)
  obtain rfl | rfl | rfl | rfl | rfl | rfl | hr : r = 0 ∨ r = 1 ∨ r = 2 ∨ r = 3 ∨ r = 4 ∨ r = 5 ∨ 6 ≤ r := by omega
  · go_wp2_with (first | (go_at_call 108; refine KY.out.mono ?_; rintro e v2 ⟨rfl, HS, D2, hg⟩) | (go_at_call 71; (with_reducible refine (dr_at (t := t1) (zs := zs) HS hg (by omega) (by omega) D2 HL hn (by omega)).mono ?_); rintro e v3 ⟨x, t2, rfl, hx, ht2, d⟩; have D3 := Lib.hid d; clear d))
    go_ret
    exact ⟨x, t2, rfl, hx, by omega, D3.out⟩
  · go_wp2_with (first | (go_at_call 108; refine KY.out.mono ?_; rintro e v2 ⟨rfl, HS, D2, hg⟩) | (go_at_call 71; (with_reducible refine (dr_at (t := t1) (zs := zs) HS hg (by omega) (by omega) D2 HL hn (by omega)).mono ?_); rintro e v3 ⟨x, t2, rfl, hx, ht2, d⟩; have D3 := Lib.hid d; clear d))
    go_ret
    exact ⟨x, t2, rfl, hx, by omega, D3.out⟩
  · go_wp2_with (go_at_call 71; (with_reducible refine (dr_of (m := 5) (L := 13) (t := t1) (zs := zs) (strs_of _ _ _ 5 13 (by decide)) (by omega) (by omega) D1 HL hn (by omega)).mono ?_); rintro e v2 ⟨x, t2, rfl, hx, ht2, d⟩; have D3 := Lib.hid d; clear d)
    go_ret
    exact ⟨x, t2, rfl, hx, by omega, D3.out⟩
  · go_wp2_with (go_at_call 71; (with_reducible refine (dr_of (m := 8) (L := 13) (t := t1) (zs := zs) (strs_of _ _ _ 8 13 (by decide)) (by omega) (by omega) D1 HL hn (by omega)).mono ?_); rintro e v2 ⟨x, t2, rfl, hx, ht2, d⟩; have D3 := Lib.hid d; clear d)
    go_ret
    exact ⟨x, t2, rfl, hx, by omega, D3.out⟩
  · go_wp2_with (go_at_call 71; (with_reducible refine (dr_of (m := 8) (L := 13) (t := t1) (zs := zs) (strs_of _ _ _ 8 13 (by decide)) (by omega) (by omega) D1 HL hn (by omega)).mono ?_); rintro e v2 ⟨x, t2, rfl, hx, ht2, d⟩; have D3 := Lib.hid d; clear d)
    go_ret
    exact ⟨x, t2, rfl, hx, by omega, D3.out⟩
  · go_wp2_with (go_at_call 106; refine (dr_one 3 (by omega) (by omega) D1 HL hn (by omega)).mono ?_; rintro e v2 ⟨x, t2, rfl, ht2, d, o⟩; have D2 := Lib.hid d; clear d o; refine Hid.out ?_)
    refine Lib.hid ?_
    cases x
    · have SG2 : Hid (Calls Tryd.prog 109 #[] v2 fun e w1 => e = .returned (.slice (some ⟨v2.heap.size, 0, none⟩) 6 6) ∧ Hid (Strs w1 v2.heap.size 6 13) ∧ Hid (Dr w w1 a n cap zs t2) ∧ v2.heap.size ≠ w.heap.size) := Lib.hid ((tkSigns_any v2).mono fun _ _ h => tt_keys 6 rfl sg_short D2.out h)
      go_wp2_with (first | (go_at_call 109; refine SG2.out.mono ?_; rintro e v3 ⟨rfl, HS, D3, hg⟩) | (go_at_call 71; (with_reducible refine (dr_at (t := t2) (zs := zs) HS hg (by omega) (by omega) D3 HL hn (by omega)).mono ?_); rintro e v4 ⟨y, t3, rfl, hy, ht3, d⟩; have D4 := Lib.hid d; clear d))
      go_ret
      exact ⟨y, t3, rfl, hy, by omega, D4.out⟩
    · go_wp2_with (go_at_call 71; (with_reducible refine (dr_of (m := 12) (L := 13) (t := t2) (zs := zs) (strs_of _ _ _ 12 13 (by decide)) (by omega) (by omega) D2 HL hn (by omega)).mono ?_); rintro e v3 ⟨y, t3, rfl, hy, ht3, d⟩; have D4 := Lib.hid d; clear d)
      go_ret
      exact ⟨y, t3, rfl, hy, by omega, D4.out⟩
  · have e0 : (r == 0) = false := by simp; omega
    have e1 : (r == 1) = false := by simp; omega
    have e2 : (r == 2) = false := by simp; omega
    have e3 : (r == 3) = false := by simp; omega
    have e4 : (r == 4) = false := by simp; omega
    have e5 : (r == 5) = false := by simp; omega
    go_wp2_with (first | (go_at_call 109; refine SG.out.mono ?_; rintro e v3 ⟨rfl, HS, D3, hg⟩) | (go_at_call 71; (with_reducible refine (dr_at (t := t1) (zs := zs) HS hg (by omega) (by omega) D3 HL hn (by omega)).mono ?_); rintro e v4 ⟨y, t3, rfl, hy, ht3, d⟩; have D4 := Lib.hid d; clear d))
    go_ret
    exact ⟨y, t3, rfl, hy, by omega, D4.out⟩
def TkzRel (w : World) (a : Option Addr) (n cap : Nat) (zs : List Int) (t : Nat) (s k : Value) (wr : World) : Prop :=
  ∃ (j t' : Nat) (u : ByteArray), j ≤ 11 ∧ k = .int .i64 j ∧ s = .string u ∧ u.size + 20 * j ≤ 220 ∧ t' + 8 * j ≤ t + 90 ∧ Dr w wr a n cap zs t'
def SemRel (M c : Nat) (s k : Value) : Prop := ∃ (j : Nat) (u : ByteArray), j ≤ 601 ∧ k = .int .i64 j ∧ s = .string u ∧ u.size + c * j ≤ M
set_option maxHeartbeats 3200000 in
theorem dr_tokenized {w wr : World} {a : Option Addr} {n cap t : Nat} {zs : List Int} (HD : Hid (Dr w wr a n cap zs t)) (HL : Hid (zs.length = n)) (hn : n ≤ 9223372036854775807) (ht : t ≤ 800000) :
    Calls Tryd.prog 34 #[.pointer (some ⟨w.heap.size, 0, none⟩)] wr (DrStr w wr a n cap zs t 4001 100) := by
  go_enter Tryd.func34, Tryd.ntmps34
  go_wp2_with (go_at_call 69; refine (dr_pick 12 (by omega) (by omega) HD HL hn (by omega)).mono ?_; rintro e v1 ⟨r, t1, rfl, ⟨r0, r1⟩, ht1, d, o1⟩; have D1 := Lib.hid d; clear d o1)
  go_loopw [3, 4] (fun s k wr => TkzRel w a n cap zs t s k wr) (fun _ k _ => (intOf k).toNat)
  case atStart => exact ⟨r.toNat, t1, ⟨#[]⟩, by omega, by go_num, rfl, by rw [show (⟨#[]⟩ : ByteArray).size = 0 from rfl]; omega, by omega, D1.out⟩
  case round =>
    obtain ⟨j, t', u, hj, rfl, rfl, hu, ht', hd⟩ := hrel
    have D2 := Lib.hid hd
    clear hd
    cases j with
    | zero =>
      have hu220 : u.size ≤ 220 := by omega
      go_wp2_with (go_at_call 69; refine (dr_pick 40 (by omega) (by omega) D2 HL hn (by omega)).mono ?_; rintro e v2 ⟨x, t2, rfl, ⟨x0, x1⟩, ht2, d, o1⟩; have D3 := Lib.hid d; clear d o1; refine Hid.out ?_)
      refine Lib.hid ?_
      obtain rfl | rfl | rfl | hx : x = 0 ∨ x = 1 ∨ x = 2 ∨ 3 ≤ x := by omega
      · go_wp2_with (go_at_call 69; refine (dr_pick 2 (by omega) (by omega) D3 HL hn (by omega)).mono ?_; rintro e v3 ⟨y, t3, rfl, ⟨y0, y1⟩, ht3, d, o1⟩; have D4 := Lib.hid d; clear d o1)
        go_loop [3, 5] (fun s k => SemRel 1422 2 s k) (fun _ k => (intOf k).toNat)
        case atStart => exact ⟨(600 + y).toNat, u, by omega, by go_num, rfl, by omega⟩
        case round =>
          obtain ⟨j, u', hj', rfl, rfl, hu'⟩ := hrel
          cases j with
          | zero =>
            go_wp2
            go_ret
            exact ⟨u', t3, rfl, by omega, by omega, D4.out⟩
          | succ j =>
            go_wp2
            go_round
            case rel => exact ⟨j, _, by omega, by go_num, rfl, by rw [ByteArray.size_append, show (⟨#[59, 32]⟩ : ByteArray).size = 2 from rfl]; omega⟩
            case measure => simp [intOf]
      · go_wp2_with (go_at_call 69; refine (dr_pick 2 (by omega) (by omega) D3 HL hn (by omega)).mono ?_; rintro e v3 ⟨y, t3, rfl, ⟨y0, y1⟩, ht3, d, o1⟩; have D4 := Lib.hid d; clear d o1)
        go_loop [3] (fun s => OnesRel 4001 s) (fun s => 4001 - sizeV s)
        case atStart => exact ⟨u, rfl, by omega⟩
        case round =>
          obtain ⟨u', rfl, hu'⟩ := hrel
          by_cases hlt : (u'.size : Int) < 4000 + y
          · have dl := is_lt hlt
            go_wp2
            go_round
            case rel => exact ⟨_, rfl, by rw [ByteArray.size_append, show (⟨#[32]⟩ : ByteArray).size = 1 from rfl]; omega⟩
            case measure => simp only [sizeV, ByteArray.size_append, show (⟨#[32]⟩ : ByteArray).size = 1 from rfl]; omega
          · have dl := not_lt (Int.not_lt.1 hlt)
            go_wp2
            go_ret
            exact ⟨u', t3, rfl, by omega, by omega, D4.out⟩
      · go_wp2_with (go_at_call 69; refine (dr_pick 2 (by omega) (by omega) D3 HL hn (by omega)).mono ?_; rintro e v3 ⟨y, t3, rfl, ⟨y0, y1⟩, ht3, d, o1⟩; have D4 := Lib.hid d; clear d o1)
        go_loop [3, 7] (fun s k => SemRel 601 1 s k) (fun _ k => (intOf k).toNat)
        case atStart => exact ⟨(600 + y).toNat, ⟨#[]⟩, by omega, by go_num, rfl, by rw [show (⟨#[]⟩ : ByteArray).size = 0 from rfl]; omega⟩
        case round =>
          obtain ⟨j, u', hj', rfl, rfl, hu'⟩ := hrel
          cases j with
          | zero =>
            go_wp2
            go_ret
            exact ⟨u', t3, rfl, by omega, by omega, D4.out⟩
          | succ j =>
            go_wp2
            go_round
            case rel => exact ⟨j, _, by omega, by go_num, rfl, by rw [ByteArray.size_append, show (⟨#[59]⟩ : ByteArray).size = 1 from rfl]; omega⟩
            case measure => simp [intOf]
      · have e0 : (x == 0) = false := by simp; omega
        have e1 : (x == 1) = false := by simp; omega
        have e2 : (x == 2) = false := by simp; omega
        go_wp2
        go_ret
        exact ⟨u, t2, rfl, by omega, by omega, D3.out⟩
    | succ j =>
      go_wp2_with (first | (go_at_call 70; refine (dr_text D2 HL hn (by omega)).mono ?_; rintro e v2 ⟨x, t2, rfl, hx, ht2, d⟩; have D3 := Lib.hid d; clear d) | (go_at_call 71; (with_reducible refine (dr_of (m := 8) (L := 7) (t := t2) (zs := zs) (strs_of _ _ _ 8 7 (by decide)) (by omega) (by omega) D3 HL hn (by omega)).mono ?_); rintro e v3 ⟨y, t3, rfl, hy, ht3, d⟩; have D4 := Lib.hid d; clear d; have hxy : (x ++ y).size ≤ 20 := by rw [ByteArray.size_append]; omega))
      go_roundw
      case rel => exact ⟨j, t3, u ++ (x ++ y), by omega, by go_num, rfl, by rw [ByteArray.size_append]; omega, by omega, D4.out⟩
      case measure => simp [intOf]
def OneText (w : World) (e : Ending) (w' : World) : Prop := ∃ s : ByteArray, e = .returned (.string s) ∧ s.size ≤ 4001 ∧ Below w.heap.size w w'
def TextInt (w : World) (e : Ending) (w' : World) : Prop := ∃ (s : ByteArray) (x : Int), e = .returned (.tuple #[.string s, .int .i64 x]) ∧ s.size ≤ 4001 ∧ -1 ≤ x ∧ x ≤ 4002 ∧ Below w.heap.size w w'
set_option maxHeartbeats 1600000 in
theorem drawTokensOf_any (w : World) (n cap : Nat) (a : Option Addr) (zs : List Int) (HL : Hid (zs.length = n)) (HI : Hid (In w a zs)) (hn : n ≤ 9223372036854775807) :
    Calls Tryd.prog 5 #[.slice a n cap] w (OneText w) := by
  have D0 := Lib.hid (Dr.new (n := n) (cap := cap) HI.out)
  go_enter Tryd.func5, Tryd.ntmps5
  go_wp2_with (go_at_call 34; (with_reducible refine (dr_tokenized (t := 0) (zs := zs) D0 HL hn (by omega)).mono ?_); rintro e v1 ⟨s, t1, rfl, hs, ht1, d⟩; have D1 := Lib.hid d; clear d)
  go_ret
  exact ⟨s, rfl, hs, D1.out.bel⟩
set_option maxHeartbeats 1600000 in
theorem drawSkip_any (w : World) (n cap : Nat) (a : Option Addr) (zs : List Int) (HL : Hid (zs.length = n)) (HI : Hid (In w a zs)) (hn : n ≤ 9223372036854775807) :
    Calls Tryd.prog 38 #[.slice a n cap] w (TextInt w) := by
  have D0 := Lib.hid (Dr.new (n := n) (cap := cap) HI.out)
  go_enter Tryd.func38, Tryd.ntmps38
  go_wp2_with (go_at_call 34; (with_reducible refine (dr_tokenized (t := 0) (zs := zs) D0 HL hn (by omega)).mono ?_); rintro e v1 ⟨s, t1, rfl, hs, ht1, d⟩; have D1 := Lib.hid d; clear d; refine Hid.out ?_)
  refine Lib.hid ?_
  go_wp2_with (first | (go_at_call 69; (with_reducible refine (dr_pick (t := t1) (zs := zs) ((s.size : Int) + 2) (by omega) (by omega) D1 HL hn (by omega)).mono ?_); rintro e v2 ⟨x, t2, rfl, ⟨x0, x1⟩, ht2, d, o1⟩; have D2 := Lib.hid d; clear d o1) | (go_at_call 69; (with_reducible refine (dr_pick (t := t2) (zs := zs) 20 (by omega) (by omega) D2 HL hn (by omega)).mono ?_); rintro e v3 ⟨y, t3, rfl, ⟨y0, y1⟩, ht3, d, o1⟩; have D3 := Lib.hid d; clear d o1; obtain ⟨z, hz, z0, z1⟩ : ∃ z : Int, y.tdiv 19 = z ∧ 0 ≤ z ∧ z ≤ 1 := ⟨_, rfl, Int.tdiv_nonneg y0 (by omega), by rw [Int.tdiv_eq_ediv_of_nonneg y0]; omega⟩))
  go_ret2
  exact ⟨s, x - z, rfl, hs, by omega, by omega, D3.out.bel⟩
theorem drawTokenAt_any (w : World) (n cap : Nat) (a : Option Addr) (zs : List Int) (HL : Hid (zs.length = n)) (HI : Hid (In w a zs)) (hn : n ≤ 9223372036854775807) :
    Calls Tryd.prog 8 #[.slice a n cap] w (TextInt w) := by
  go_enter Tryd.func8, Tryd.ntmps8
  go_wp2_with (go_at_call 38; (with_reducible refine (drawSkip_any w n cap a zs HL HI hn).mono ?_); rintro e v1 ⟨s, x, rfl, hs, x0, x1, b1⟩; have B1 := Lib.hid b1; clear b1)
  go_ret2
  exact ⟨s, x, rfl, hs, x0, x1, B1.out⟩
end Go.Proofs.YtdmcgjohpnojkaaDoor
