import Derived.Test.YthgbhnedfdnfpaaGreatDoorPkd
import Derived.Laws.BytesArg
import Derived.Deep.RegionWith
import Derived.Lib.ItoaNum
import Derived.Test.YthgbhnedfdnfpaaGreatDoorPkb
import Derived.OpenVars
import Derived.Lib.LaidTab
import Derived.LaidMore
import Derived.OpenShut
import Derived.Lib.SlBytesConst
import Derived.Test.YthgbhnedfdnfpaaGreatDoorPka
import Derived.Lib.Bytealg
import Derived.Laws.RangeAny
import Derived.Laws.Runes
import Derived.LoopTactic
import Derived.WalkMore
/- Slices of strings of the call's own: contracts of the comparing, marking and asking functions of the laws. Marking and asking a slice of strings of the call's own. -/
namespace Go.Proofs.YthgbhnedfdnfpaaGreatDoor
set_option maxRecDepth 100000
open Go.RowKit

theorem infoStr : (Tryz.prog.info? 9).map (fun i => (i.zero, i.size, i.bytes)) = some (some (.string ⟨#[]⟩), 1, 16) := by kernel_rfl
def sv (l : List ByteArray) : List Value := l.map Value.string
theorem sv_length (l : List ByteArray) : (sv l).length = l.length := by simp [sv]
theorem sv_get (l : List ByteArray) (i : Nat) (h : i < l.length) : (sv l)[i]? = some (.string (l.getD i ⟨#[]⟩)) := by simp [sv, h]
theorem sv_set (l : List ByteArray) (k : Nat) (c : ByteArray) : (sv l).set k (.string c) = sv (l.set k c) := by simp [sv, List.map_set]
def OwnS (w : World) (B g n cap : Nat) (l : List ByteArray) : Prop := w.ownsRow B 9 1 (.slice (some ⟨g, 0, none⟩) n cap) n (sv l)
theorem OwnS.len {w : World} {B g n cap : Nat} {l : List ByteArray} (h : OwnS w B g n cap l) : l.length = n := by
  have := h.1; rw [sv_length] at this; omega
theorem OwnS.lt {w : World} {B g n cap : Nat} {l : List ByteArray} (h : OwnS w B g n cap l) : B ≤ g ∧ g < w.heap.size := World.ownsRow.lt h g rfl
theorem OwnS.block {w w' : World} {B g n cap : Nat} {l : List ByteArray} (h : OwnS w B g n cap l) (hb : w'.heap[g]? = w.heap[g]?) : OwnS w' B g n cap l := by
  obtain ⟨h1, h2⟩ := h
  refine ⟨h1, ?_⟩
  rcases h2 with h2 | ⟨g', cap', cur, a, b, c, d⟩
  · exact .inl h2
  · cases a
    exact .inr ⟨g, cap, cur, rfl, b, by rw [hb]; exact c, d⟩
theorem OwnS.below {w w' : World} {B B' g n cap : Nat} {l : List ByteArray} (h : OwnS w B g n cap l) (hb : Below B' w w') (hg : g < B') : OwnS w' B g n cap l := h.block (hb.block g hg)
theorem OwnS.base {w : World} {B B' g n cap : Nat} {l : List ByteArray} (h : OwnS w B g n cap l) (hB : B' ≤ B) : OwnS w B' g n cap l := by
  obtain ⟨h1, h2⟩ := h
  refine ⟨h1, ?_⟩
  rcases h2 with h2 | ⟨g', cap', cur, a, b, c, d⟩
  · exact .inl h2
  · exact .inr ⟨g', cap', cur, a, Nat.le_trans hB b, c, d⟩
theorem OwnS.cell {w : World} {B g n cap : Nat} {l : List ByteArray} (h : OwnS w B g n cap l) (k : Nat) (hk : k < n) : w.cell? ⟨g, k, none⟩ = some (.string (l.getD k ⟨#[]⟩)) := by
  have hl := h.len
  rw [World.ownsRow.cellAt h k (by omega), sv_get _ _ (by omega)]
theorem OwnS.store {w : World} {B g n cap : Nat} {l : List ByteArray} (h : OwnS w B g n cap l) (k : Nat) (c : ByteArray) : OwnS (w.setCell ⟨g, k, none⟩ (.string c)) B g n cap (l.set k c) := by
  have := (World.ownsRow.stored h k (.string c)).1
  rw [sv_set] at this
  exact this
def OwnZ (w : World) (B : Nat) (v : Value) (n : Nat) (l : List ByteArray) : Prop := w.ownsRow B 9 1 v n (sv l)
theorem OwnZ.snoc {w wr w1 : World} {B n : Nat} {v v' : Value} {l : List ByteArray} {c : ByteArray} {o : Obj} (h : OwnZ wr B v n l) (hB : B ≤ wr.heap.size) (hb : Below B w wr)
    (h' : w1.ownsRow B 9 1 v' (n + 1) (sv l ++ [.string c])) (hg : (wr.alloc o).grownBy w1 v.ownBlock) : OwnZ w1 B v' (n + 1) (l ++ [c]) ∧ Below B w w1 :=
  ⟨by unfold OwnZ; simpa [sv] using h', (hb.alloc hB o).grown hg (by simp; omega) (fun j hj => (World.ownsRow.lt h j hj).1)⟩
theorem OwnZ.some {w : World} {B n : Nat} {v : Value} {l : List ByteArray} (h : OwnZ w B v n l) (hn : 0 < n) : ∃ g cap, v = .slice (some ⟨g, 0, none⟩) n cap ∧ OwnS w B g n cap l := by
  rcases h.2 with ⟨_, h0⟩ | ⟨g, cap, cur, hv, _⟩
  · omega
  · subst hv
    exact ⟨g, cap, rfl, h⟩
theorem OwnZ.below {w w' : World} {B B' n : Nat} {v : Value} {l : List ByteArray} (h : OwnZ w B v n l) (hb : Below B' w w') (hB : w.heap.size ≤ B') : OwnZ w' B v n l := by
  obtain ⟨h1, h2⟩ := h
  refine ⟨h1, ?_⟩
  rcases h2 with h2 | ⟨g, cap, cur, a, b, c, d⟩
  · exact .inl h2
  · have hlt : g < w.heap.size := (World.ownsRow.lt (show w.ownsRow B 9 1 v n (sv l) from ⟨h1, .inr ⟨g, cap, cur, a, b, c, d⟩⟩) g (by rw [a]; rfl)).2
    exact .inr ⟨g, cap, cur, a, b, by rw [hb.block g (by omega)]; exact c, d⟩
def OnlyGrown (g : Nat) (w w' : World) : Prop := Below g w w' ∧ ∀ j, j ≠ g → j < w.heap.size → w'.heap[j]? = w.heap[j]?
theorem OnlyGrown.refl (g : Nat) (w : World) : OnlyGrown g w w := ⟨Below.refl _ _, fun _ _ _ => rfl⟩
theorem OnlyGrown.step {g : Nat} {w wr w1 : World} (h : OnlyGrown g w wr) (hg : g < wr.heap.size) (hb : Below wr.heap.size wr w1) (k : Nat) (v : Value) : OnlyGrown g w (w1.setCell ⟨g, k, none⟩ v) :=
  ⟨(h.1.trans (hb.mono (by omega))).setCell (Nat.le_refl _) v, fun j hj hl => by
    rw [Below.heap_setCell _ _ _ _ (by exact hj), hb.block j (Nat.lt_of_lt_of_le hl h.1.size)]
    exact h.2 j hj hl⟩
theorem OwnS.only {w w' : World} {B g g' n cap : Nat} {l : List ByteArray} (h : OwnS w B g n cap l) (hb : OnlyGrown g' w w') (hg : g ≠ g') : OwnS w' B g n cap l := h.block (hb.2 g hg h.lt.2)

theorem conv_one (w : World) (z : Int) : (convert 22 9 (.slice (some ⟨w.heap.size, 0, none⟩) 1 1)).run Tryz.prog (w.alloc (.cells #[.int .u8 z] 5)) = .ok (.string (strOfNums [z])) (w.alloc (.cells #[.int .u8 z] 5)) :=
  run_convert_bytes_arg (w.alloc (.cells #[.int .u8 z] 5)) 22 5 Tryz.underlying22 Tryz.underlying5 w.heap.size 0 1 1 [z] rfl
    (fun i hi => by
      obtain rfl : i = 0 := by omega
      rw [World.cell?_alloc_at _ _ _ _ rfl]
      rfl) 9 Tryz.underlying9
end Go.Proofs.YthgbhnedfdnfpaaGreatDoor

namespace Go.Proofs.YthgbhnedfdnfpaaGreatDoor
open Go.RowKit

end Go.Proofs.YthgbhnedfdnfpaaGreatDoor

/- Decimal numerals: contracts of l1Num of the model. -/
namespace Go.Proofs.YthgbhnedfdnfpaaGreatDoor
set_option maxRecDepth 100000
open Go.RowKit

def numS (n : Nat) : ByteArray := ⟨(Lib.decDigits n).toArray⟩
theorem numS_small (n : Nat) (h : n < 10) : numS n = strOfNums [48 + (n : Int)] := by
  have e : (48 + (n : Int)).toNat = 48 + n := by omega
  unfold numS strOfNums
  rw [Lib.decDigits, dif_pos h]
  simp [e]
theorem numS_big (n : Nat) (h : 10 ≤ n) : numS n = numS (n / 10) ++ strOfNums [48 + (n : Int) % 10] := by
  have e : (48 + (n : Int) % 10).toNat = 48 + n % 10 := by omega
  apply ByteArray.ext
  unfold numS strOfNums
  conv => lhs; rw [Lib.decDigits, dif_neg (by omega)]
  simp [e, ByteArray.data_append]
theorem numS_size (n : Nat) : (numS n).size ≤ n + 1 := by
  induction n using Nat.strongRecOn with
  | _ n ih =>
    by_cases h : n < 10
    · rw [numS_small n h, strOfNums_size]; simp
    · rw [numS_big n (by omega), ByteArray.size_append, strOfNums_size]
      have := ih (n / 10) (by omega)
      simp
      omega
theorem below_pre0 {w w1 : World} (b : Below w.drew.heap.size w.drew w1) : Below w.heap.size w w1 := (show Below w.heap.size w w.drew from below_drewN (Below.refl _ _) 1).trans b
theorem below_pre1 {w w1 : World} {o : Obj} (b : Below (w.alloc o).drew.heap.size (w.alloc o).drew w1) : Below w.heap.size w w1 := by
  have a : Below w.heap.size w (w.alloc o).drew := below_drewN ((Below.refl _ _).alloc (Nat.le_refl _) _) 1
  exact a.trans (b.mono a.size)
theorem conv_after (w w1 : World) (z : Int) (b : Below (w.alloc (.cells #[.int .u8 z] 5)).drew.heap.size (w.alloc (.cells #[.int .u8 z] 5)).drew w1) :
    (convert 22 9 (.slice (some ⟨w.heap.size, 0, none⟩) 1 1)).run Tryz.prog w1 = .ok (.string (strOfNums [z])) w1 :=
  run_convert_bytes_arg w1 22 5 Tryz.underlying22 Tryz.underlying5 w.heap.size 0 1 1 [z] rfl
    (fun i hi => by
      obtain rfl : i = 0 := by simp at hi; exact hi
      have h0 : (w.alloc (.cells #[.int .u8 z] 5)).drew.cell? ⟨w.heap.size, 0, none⟩ = some (.int .u8 z) := by
        show (w.alloc (.cells #[.int .u8 z] 5)).cell? ⟨w.heap.size, 0, none⟩ = some (.int .u8 z)
        rw [World.cell?_alloc_at _ _ _ _ rfl]; rfl
      exact (b.cell (p := ⟨w.heap.size, 0, none⟩) (World.block_lt_of_cell? _ _ h0)).trans h0) 9 Tryz.underlying9
theorem conv_drew (w : World) (z : Int) : (convert 22 9 (.slice (some ⟨w.heap.size, 0, none⟩) 1 1)).run Tryz.prog (w.alloc (.cells #[.int .u8 z] 5)).drew = .ok (.string (strOfNums [z])) (w.alloc (.cells #[.int .u8 z] 5)).drew :=
  conv_after w _ z (Below.refl _ _)
set_option maxHeartbeats 800000 in
theorem l1Num_any (n : Nat) : (n : Int) ≤ 1000000000 → ∀ w, Calls Tryz.prog 33 #[.int .i64 n] w fun e w' => e = .returned (.string (numS n)) ∧ Below w.heap.size w w' := by
  induction n using Nat.strongRecOn with
  | _ n ih =>
    intro hn w
    have cv := conv_one
    have cvd := conv_drew
    rcases Nat.lt_or_ge n 10 with h | h
    · rw [numS_small n h]
      clear ih
      go_enter Tryz.func33, Tryz.ntmps33
      go_wp2
      go_ret
      exact ⟨rfl, (Below.refl _ _).alloc (Nat.le_refl _) _⟩
    · have IH : Hid (∀ w, Calls Tryz.prog 33 #[.int .i64 ((n : Int) / 10)] w fun e w' => e = .returned (.string (numS (n / 10))) ∧ Below w.heap.size w w') := Lib.hid (fun w => ih (n / 10) (by omega) (by omega) w)
      rw [numS_big n h]
      have hz : (numS (n / 10)).size ≤ 1000000001 := by have := numS_size (n / 10); omega
      have hz1 : (strOfNums [48 + (n : Int) % 10]).size ≤ 1 := by rw [strOfNums_size]; simp
      obtain ⟨u, hu⟩ : ∃ u, numS (n / 10) = u := ⟨_, rfl⟩
      rw [hu] at IH hz ⊢
      clear ih hu
      have hno : ¬ (9223372036854775807 < u.size + (strOfNums [48 + (n : Int) % 10]).size) := by omega
      have q11 : (n : Int).tmod 10 = (n : Int) % 10 := Int.tmod_eq_emod_of_nonneg (by omega)
      have q12 : IntKind.i64.wrap (48 + (n : Int) % 10) = 48 + (n : Int) % 10 := IntWalk.i64_in _ (by omega)
      have q13 : IntKind.u8.wrap (48 + (n : Int) % 10) = 48 + (n : Int) % 10 := IntWalk.u8_in _ (by omega)
      have q10 : IntKind.i64.wrap ((n : Int) / 10) = (n : Int) / 10 := IntWalk.i64_in _ (by omega)
      go_enter Tryz.func33, Tryz.ntmps33
      go_wp2_with fail
      go_region_with (go_at_call 33; refine (IH.out _).mono ?_; rintro e w1 ⟨rfl, b1⟩; (first | (have B1 : Hid (Below w.heap.size w w1) := Lib.hid (by with_reducible exact below_pre0 b1)) | (have B1 : Hid (Below w.heap.size w w1) := Lib.hid (by with_reducible exact below_pre1 b1))); (first | (have b2 : Below (w.alloc (.cells #[.int .u8 (48 + (n : Int) % 10)] 5)).drew.heap.size (w.alloc (.cells #[.int .u8 (48 + (n : Int) % 10)] 5)).drew w1 := (by with_reducible exact b1); have cv1 : (convert 22 9 (.slice (some ⟨w.heap.size, 0, none⟩) 1 1)).run Tryz.prog w1 = .ok (.string (strOfNums [48 + (n : Int) % 10])) w1 := conv_after w w1 _ b2; clear b2) | skip); clear b1)
      all_goals
        go_wp2
        go_ret
        first
          | exact ⟨rfl, B1.out⟩
          | exact ⟨rfl, B1.out.alloc B1.out.size _⟩
end Go.Proofs.YthgbhnedfdnfpaaGreatDoor

/- The table of digits: what its cells hold, what a digit's value is, and contracts of the functions that read it. -/
namespace Go.Proofs.YthgbhnedfdnfpaaGreatDoor
set_option maxRecDepth 100000
open Go.RowKit

def decB : ByteArray := ⟨#[48, 49, 50, 51, 52, 53, 54, 55, 56, 57]⟩
def hexB : ByteArray := ⟨#[48, 49, 50, 51, 52, 53, 54, 55, 56, 57, 97, 98, 99, 100, 101, 102]⟩
def Dig (w : World) : Prop := w.cell? ⟨5, 0, none⟩ = some (.string decB) ∧ w.cell? ⟨5, 1, none⟩ = some (.string hexB)
theorem Dig.below {w w' : World} (h : Dig w) (hb : Below w.heap.size w w') : Dig w' :=
  ⟨(hb.cell (p := ⟨5, 0, none⟩) (World.block_lt_of_cell? w _ h.1)).trans h.1, (hb.cell (p := ⟨5, 1, none⟩) (World.block_lt_of_cell? w _ h.2)).trans h.2⟩
theorem Dig.drewN {w : World} (h : Dig w) (q : Nat) : Dig (w.drewN q) := h
theorem Dig.pos {w : World} (h : Dig w) : 5 < w.heap.size := World.block_lt_of_cell? w _ h.1

theorem gDig : Tryz.prog.globalNamed "loop.example/g00838/impl.digits" = some 5 := by kernel_rfl
theorem tDig : (Tryz.prog.globals[5]?).map (·.type) = some 150 := by kernel_rfl
theorem cDig : Tryz.prog.cellsOf 150 = 2 := by kernel_rfl
theorem cStr : Tryz.prog.cellsOf 9 = 1 := by kernel_rfl
theorem list_two {α : Type} {l : List α} (h : l.length = 2) : ∃ a b, l = [a, b] := by
  match l, h with
  | [a, b], _ => exact ⟨a, b, rfl⟩
theorem cells_two {H : Type} {enc : TypeId × Value → H} {w : World} {base : Nat} {sp : Nat → Bool} {held : Bool} {fuel : Nat} {cs : List Value} {s0 s1 : List UInt8} {p : List MemPlace}
    (h : DataW.trod enc Tryz.prog w base sp held fuel 150 cs = some (.agg [.lit (.string s0), .lit (.string s1)], p)) : cs = [.string ⟨s0.toArray⟩, .string ⟨s1.toArray⟩] := by
  obtain ⟨xs, m1, rfl, hx1, hlen, hn3, hel⟩ := DataW.trod_array Tryz.underlying150 h
  simp only [Prod.mk.injEq, DataW.agg.injEq] at hx1
  rw [cStr] at hel
  rw [cDig] at hlen
  have h0 := hel 0 (by decide)
  have h1 := hel 1 (by decide)
  match xs, hn3, hx1, h0, h1 with
  | [x0, x1], _, hx1, h0, h1 =>
    simp only [List.map_cons, List.map_nil, List.cons.injEq, and_true] at hx1
    obtain ⟨b0, e0, f0, _⟩ := DataW.trod_string Tryz.underlying9 (show DataW.trod _ Tryz.prog w _ _ _ m1 9 _ = some x0 from h0)
    obtain ⟨b1, e1, f1, _⟩ := DataW.trod_string Tryz.underlying9 (show DataW.trod _ Tryz.prog w _ _ _ m1 9 _ = some x1 from h1)
    obtain ⟨c0, c1, rfl⟩ := list_two hlen
    simp at e0 e1
    subst e0 e1
    rw [f0, f1] at hx1
    simp only [DataW.lit.injEq, Lit.string.injEq] at hx1
    obtain ⟨⟨r0, r1⟩, _⟩ := hx1
    rw [r0, r1]
end Go.Proofs.YthgbhnedfdnfpaaGreatDoor

/- Hexadecimal texts of numbers: contracts of HexOf, program and model. -/
namespace Go.Proofs.YthgbhnedfdnfpaaGreatDoor
set_option maxRecDepth 100000
open Go.RowKit

def hdI (k : Int) : Int := if k < 10 then 48 + k else 87 + k
def hexN (n : Nat) : List Int := if n < 16 then [hdI n] else hexN (n / 16) ++ [hdI ((n % 16 : Nat) : Int)]
termination_by n
decreasing_by omega
def hexC (n : Nat) : Nat → List Int
  | 0 => []
  | c + 1 => hexC (n / 16) c ++ [hdI ((n % 16 : Nat) : Int)]
theorem hexC_eq (c : Nat) : ∀ n : Nat, n < 16 ^ (c + 1) → (c = 0 ∨ 16 ^ c ≤ n) → hexC n (c + 1) = hexN n := by
  induction c with
  | zero =>
    intro n h _
    have h' : n < 16 := by simpa using h
    rw [hexN, if_pos h', hexC, hexC, Nat.mod_eq_of_lt h']
    rfl
  | succ c ih =>
    intro n h h2
    have h3 : 16 ^ (c + 1) ≤ n := h2.resolve_left (by omega)
    have h4 : 16 ≤ n := Nat.le_trans (by rw [Nat.pow_succ]; have := Nat.pow_pos (n := c) (a := 16) (by omega); omega) h3
    rw [hexN, if_neg (by omega), hexC, ih (n / 16)]
    · rw [Nat.div_lt_iff_lt_mul (by omega), ← Nat.pow_succ]; exact h
    · by_cases e : c = 0
      · exact .inl e
      · right
        rw [Nat.le_div_iff_mul_le (by omega), ← Nat.pow_succ]
        exact h3
def hexStr (n : Nat) : ByteArray := strOfNums (48 :: 120 :: hexN n)
theorem strOfNums_append (a b : List Int) : strOfNums a ++ strOfNums b = strOfNums (a ++ b) := by
  apply ByteArray.ext
  simp [strOfNums, ByteArray.data_append]

theorem sl16 (w : World) : ∀ (k : Nat), k < 16 → (Instr.slice 9 (.string ⟨#[48, 49, 50, 51, 52, 53, 54, 55, 56, 57, 97, 98, 99, 100, 101, 102]⟩) (some (.int .i64 (k : Int))) (some (.int .i64 ((k : Int) + 1))) none).run Tryz.prog w = .ok (.string (strOfNums [hdI (k : Int)])) w
  | 0, _ => by kernel_rfl
  | 1, _ => by kernel_rfl
  | 2, _ => by kernel_rfl
  | 3, _ => by kernel_rfl
  | 4, _ => by kernel_rfl
  | 5, _ => by kernel_rfl
  | 6, _ => by kernel_rfl
  | 7, _ => by kernel_rfl
  | 8, _ => by kernel_rfl
  | 9, _ => by kernel_rfl
  | 10, _ => by kernel_rfl
  | 11, _ => by kernel_rfl
  | 12, _ => by kernel_rfl
  | 13, _ => by kernel_rfl
  | 14, _ => by kernel_rfl
  | 15, _ => by kernel_rfl
  | k + 16, h => absurd h (by omega)

theorem hexN_small (n : Nat) (h : n < 16) : hexN n = [hdI n] := by rw [hexN, if_pos h]
theorem hexN_big (n : Nat) (h : 16 ≤ n) : hexN n = hexN (n / 16) ++ [hdI ((n : Int) % 16)] := by rw [hexN, if_neg (by omega)]; rfl
theorem hexN_length (n : Nat) : (hexN n).length ≤ n + 1 := by
  induction n using Nat.strongRecOn with
  | _ n ih =>
    by_cases h : n < 16
    · rw [hexN_small n h]; simp
    · rw [hexN_big n (by omega)]
      have := ih (n / 16) (by omega)
      simp
      omega
theorem str_ret {a b : ByteArray} (h : a = b) : Ending.returned (.string a) = .returned (.string b) := by rw [h]

end Go.Proofs.YthgbhnedfdnfpaaGreatDoor

/- HexOf: the program's side. -/
namespace Go.Proofs.YthgbhnedfdnfpaaGreatDoor
set_option maxRecDepth 100000
open Go.RowKit

theorem i64_and15 (n : Int) : bits .and .i64 n 15 = n % 16 := by
  have h15 : (BitVec.ofInt 64 15).toNat = 2 ^ 4 - 1 := by decide
  have key : (BitVec.ofInt 64 n &&& BitVec.ofInt 64 15).toNat = (n % ((2 ^ 64 : Nat) : Int)).toNat % 2 ^ 4 := by
    rw [BitVec.toNat_and, BitVec.toNat_ofInt, h15, Nat.and_two_pow_sub_one_eq_mod]
  show IntKind.i64.wrap ((BitVec.ofInt 64 n &&& BitVec.ofInt 64 15).toNat : Nat) = n % 16
  rw [key, IntKind.wrap_i64]
  omega
theorem hex_atN : ∀ (k : Nat), k < 16 → (p : k < hexB.size) → ((hexB[k]'p).toNat : Int) = hdI (k : Int)
  | 0, _, p => rfl
  | 1, _, p => rfl
  | 2, _, p => rfl
  | 3, _, p => rfl
  | 4, _, p => rfl
  | 5, _, p => rfl
  | 6, _, p => rfl
  | 7, _, p => rfl
  | 8, _, p => rfl
  | 9, _, p => rfl
  | 10, _, p => rfl
  | 11, _, p => rfl
  | 12, _, p => rfl
  | 13, _, p => rfl
  | 14, _, p => rfl
  | 15, _, p => rfl
  | k + 16, h, _ => absurd h (by omega)
theorem hex_at (k : Int) (h0 : 0 ≤ k) (h1 : k < 16) (p : k.toNat < hexB.size) : ((hexB[k.toNat]'p).toNat : Int) = hdI k := by
  obtain ⟨m, rfl⟩ := Int.eq_ofNat_of_zero_le h0
  exact hex_atN m (by omega) p
theorem hdI_bd (k : Int) (h0 : 0 ≤ k) (h1 : k < 16) : 48 ≤ hdI k ∧ hdI k ≤ 102 := by
  unfold hdI; split <;> omega
theorem lowHex_any (n : Int) (w : World) (hD : Hid (Dig w)) (_h0 : 0 ≤ n) :
    Calls Tryz.prog 136 #[.int .i64 n] w fun e w' => e = .returned (.int .u8 (hdI (n % 16))) ∧ w = w' := by
  have hc := hD.out.2
  have ha := i64_and15 n
  have h1 : 0 ≤ n % 16 := by omega
  have h2 : n % 16 < 16 := by omega
  have hsz : hexB.size = 16 := rfl
  go_enter Tryz.func136, Tryz.ntmps136
  go_wp2
  go_ret
  exact ⟨ret_int (hex_at _ h1 h2 _), rfl⟩

theorem back_str {w : World} {B g n cap : Nat} {zs : List Int} (h : OwnB w B g n cap zs) (hr : ∀ c ∈ zs, 0 ≤ c ∧ c ≤ 255) :
    (convert 22 9 (.slice (some ⟨g, 0, none⟩) n cap)).run Tryz.prog w = .ok (.string (strOfNums zs)) w :=
  run_convert_bytes_arg w 22 5 Tryz.underlying22 Tryz.underlying5 g 0 n cap zs h.len (fun i hi => (h.row hr).1 i (by rw [h.len]; exact hi)) 9 Tryz.underlying9

def htxt (n c i : Nat) : List Int := 48 :: 120 :: hexC (n / 16 ^ i) (c - i)
theorem htxt_step (n c i : Nat) (h : i < c) : htxt n c (i + 1) ++ [hdI (((n : Int) / 16 ^ i) % 16)] = htxt n c i := by
  obtain ⟨d, hd⟩ : ∃ d, c - i = d + 1 := ⟨c - i - 1, by omega⟩
  have e : c - (i + 1) = d := by omega
  unfold htxt
  rw [hd, e, hexC, Nat.pow_succ, ← Nat.div_div_eq_div_mul]
  rfl
theorem hexC_range (c : Nat) : ∀ n : Nat, ∀ x ∈ hexC n c, 0 ≤ x ∧ x ≤ 255 := by
  induction c with
  | zero => intro n x hx; simp [hexC] at hx
  | succ c ih =>
    intro n x hx
    simp only [hexC, List.mem_append, List.mem_singleton] at hx
    rcases hx with hx | rfl
    · exact ih _ x hx
    · have := hdI_bd ((n % 16 : Nat) : Int) (by omega) (by omega)
      omega
theorem htxt_range (n c i : Nat) : ∀ x ∈ htxt n c i, 0 ≤ x ∧ x ≤ 255 := by
  intro x hx
  simp only [htxt, List.mem_cons] at hx
  rcases hx with rfl | rfl | hx
  · omega
  · omega
  · exact hexC_range _ _ x hx
theorem two_olds {w wr : World} {o : Obj} (h0 : wr.cell? ⟨w.heap.size, 0, none⟩ = some (.int .u8 48)) (h1 : wr.cell? ⟨w.heap.size, 1, none⟩ = some (.int .u8 120)) (hsz : w.heap.size < wr.heap.size) :
    ∀ b, (some (⟨w.heap.size, 0, none⟩ : Addr)) = some b → ∀ j u, (bv [48, 120])[j]? = some u → (wr.alloc o).cell? (b.add j) = some u := by
  intro b hb j u hj
  cases hb
  match j, hj with
  | 0, hj =>
    simp [bv] at hj; subst hj
    rw [show (⟨w.heap.size, 0, none⟩ : Addr).add 0 = ⟨w.heap.size, 0, none⟩ by simp [Addr.add], World.cell?_alloc_past _ _ _ hsz]
    exact h0
  | 1, hj =>
    simp [bv] at hj; subst hj
    rw [show (⟨w.heap.size, 0, none⟩ : Addr).add 1 = ⟨w.heap.size, 1, none⟩ by simp [Addr.add], World.cell?_alloc_past _ _ _ hsz]
    exact h1
  | j + 2, hj => simp [bv] at hj
theorem row_base {w : World} {B B' n : Nat} {v : Value} {xs : List Value} (h : w.ownsRow B 5 1 v n xs) (hB : B' ≤ B) : w.ownsRow B' 5 1 v n xs := by
  obtain ⟨h1, h2⟩ := h
  refine ⟨h1, ?_⟩
  rcases h2 with h2 | ⟨g', cap', cur, a, b, c, d⟩
  · exact .inl h2
  · exact .inr ⟨g', cap', cur, a, Nat.le_trans hB b, c, d⟩
theorem shift4 (n : Int) (k : Nat) : n / 2 ^ (4 * k) = n / 16 ^ k := by
  rw [Int.pow_mul]
  rfl
def Txt (w : World) (n c j : Nat) (v : Value) (wr : World) : Prop :=
  (j = c ∧ v = .slice (some ⟨w.heap.size, 0, none⟩) 2 2 ∧ wr.cell? ⟨w.heap.size, 0, none⟩ = some (.int .u8 48) ∧ wr.cell? ⟨w.heap.size, 1, none⟩ = some (.int .u8 120)) ∨
  (j < c ∧ OwnV wr w.heap.size v (2 + (c - j)) (htxt n c j))
def HexRel (w : World) (n c : Nat) (v i : Value) (wr : World) : Prop :=
  ∃ (j : Nat) (i' : Int), j ≤ c ∧ i = .int .i64 i' ∧ i' + 1 = j ∧ Txt w n c j v wr ∧ Below w.heap.size w wr ∧ w.heap.size < wr.heap.size
def SaysStr (w : World) (s : ByteArray) (e : Ending) (w' : World) : Prop := e = .returned (.tuple #[.string s, .bool true]) ∧ Below w.heap.size w w'
theorem htxt_first (n c : Nat) (h : 0 < c) : bv [48, 120] ++ [.int .u8 (hdI ((n : Int) / 2 ^ (4 * (c - 1)) % 16))] = bv (htxt n c (c - 1)) := by
  have e := htxt_step n c (c - 1) (by omega)
  rw [shift4, ← e, show c - 1 + 1 = c by omega]
  simp [bv, htxt, hexC]

set_option maxHeartbeats 3200000 in
theorem implHexOf_some (n : Nat) (w : World) (hD : Hid (Dig w)) (hn : (n : Int) ≤ 4294967295) :
    Calls Tryz.prog 123 #[.int .i64 n] w (SaysStr w (hexStr n)) := by
  have t1 := not_lt hn
  obtain ⟨i0, hi, hz0, hz1, hz2⟩ := info_parts infoU8
  have kc := fun (w : World) (C : Array Value) (n c : Nat) => Lib.run_convert_bytes_const (P := Tryz.prog) w 22 5 C n c Tryz.underlying22 Tryz.underlying5
  go_enter Tryz.func123, Tryz.ntmps123
  go_wp2
  go_loop [4] (fun c => ∃ k : Nat, 1 ≤ k ∧ k ≤ 8 ∧ c = .int .i64 k ∧ Hid (k = 1 ∨ 16 ^ (k - 1) ≤ n)) (fun c => (9 - intOf c).toNat)
  case atStart => exact ⟨1, by omega, by omega, rfl, .inl rfl⟩
  case round =>
    obtain ⟨k, hk1, hk8, rfl, HK⟩ := hrel
    by_cases hz : (n : Int) / 2 ^ (4 * k) = 0
    · have hz' : ((n : Int) / 2 ^ (4 * k) != 0) = false := by simp [hz]
      have HN : Hid (n < 16 ^ k) := by
        unfold Hid
        rw [shift4] at hz
        have hp : (0 : Int) < 16 ^ k := Int.pow_pos (by omega)
        have h1 := Int.mul_ediv_add_emod (n : Int) (16 ^ k)
        have h3 := Int.emod_lt_of_pos (n : Int) hp
        rw [hz, Int.mul_zero] at h1
        have h2 : ((16 ^ k : Nat) : Int) = (16 : Int) ^ k := by simp
        omega
      clear hz
      go_wp2
      clear kc
      go_loopw [5, 6] (fun v i wr => HexRel w n k v i wr) (fun _ i _ => (intOf i + 1).toNat)
      case atStart => exact ⟨k, (k : Int) - 1, Nat.le_refl _, by go_num, by omega, .inl ⟨rfl, rfl, by rw [World.cell?_alloc_mark]; rfl, by rw [World.cell?_alloc_mark]; rfl⟩, (Below.refl _ _).alloc (Nat.le_refl _) _, by simp⟩
      case round =>
        obtain ⟨j, i', hj, rfl, hij, ht, hb, hsz⟩ := hrel
        have HB := Lib.hid hb
        have HT := Lib.hid ht
        clear hb ht
        have HDr : Hid (Dig wr) := Lib.hid (hD.out.below HB.out)
        cases j with
        | zero =>
          obtain rfl : i' = -1 := by omega
          clear hij
          have ho : OwnV wr w.heap.size u5 (2 + k) (htxt n k 0) := by
            rcases HT.out with ⟨h, _⟩ | ⟨_, h⟩
            · omega
            · exact h
          obtain ⟨g, cap, rfl, hob⟩ := OwnV.some ho (by omega)
          have HO := Lib.hid hob
          clear ho hob
          have hback := back_str HO.out (htxt_range _ _ _)
          go_wp2
          go_ret2
          refine ⟨?_, HB.out⟩
          have e : strOfNums (htxt n k 0) = hexStr n := by
            obtain ⟨d, rfl⟩ : ∃ d, k = d + 1 := ⟨k - 1, by omega⟩
            have hx := hexC_eq d n HN.out (by rcases HK.out with h | h; exact .inl (by omega); exact .inr (by simpa using h))
            simp only [htxt, hexStr, Nat.pow_zero, Nat.div_one, Nat.sub_zero, hx]
          exact ret_pair (by rw [e]; rfl) rfl
        | succ j =>
          obtain rfl : i' = (j : Int) := by omega
          clear hij
          have hq : (0 : Int) ≤ (n : Int) / 2 ^ (4 * j) := Int.ediv_nonneg (by omega) (Int.le_of_lt (Int.pow_pos (by omega)))
          rcases HT.out with ⟨hjk, rfl, hc0, hc1⟩ | ⟨hjk, ho⟩
          · have HJ := Lib.hid hjk
            have HC0 := Lib.hid hc0
            have HC1 := Lib.hid hc1
            clear hjk hc0 hc1
            go_wp2_with (first | (go_at_call 136; refine (lowHex_any _ _ HDr hq).mono ?_; rintro e w' ⟨rfl, rfl⟩) | (at_builtin; refine wpList_append_grows _ rfl _ _ 22 rfl 5 i0 (.int .u8 0) 1 1 Tryz.underlying22 hi hz0 hz1 hz2 rfl (by decide) (some ⟨w.heap.size, 0, none⟩) 2 2 (bv [48, 120]) rfl (by intro h; cases h) rfl (two_olds HC0.out HC1.out hsz) ⟨wr.heap.size, 0, none⟩ 1 1 [.int .u8 (hdI ((n : Int) / 2 ^ (4 * j) % 16))] rfl rfl (one_new _ _ _) (by intro u hu; simp at hu; subst hu; rfl) (by omega) (by unfold maxLen; omega) (by omega) ?_; intro v' w1 hown1 hgrow1; have HO1 := Lib.hid hown1; have HB1 := Lib.hid ((HB.out.alloc HB.out.size _).grown hgrow1 (by have := HB.out.size; simp; omega) (by intro k h; cases h)); have HZ1 := Lib.hid hgrow1.size; clear hown1 hgrow1))
            go_roundw
            case rel =>
              refine ⟨j, (j : Int) - 1, by omega, by go_num, by omega, .inr ⟨by omega, ?_⟩, HB1.out, by have := HZ1.out; simp at this; omega⟩
              have hf := htxt_first n k (by omega)
              have hj1 : k - 1 = j := by have := HJ.out; omega
              rw [hj1] at hf
              have ho1 := HO1.out
              rw [hf] at ho1
              have := (row_base (B' := w.heap.size) ho1 (by have := HB.out.size; simp; omega))
              rw [show 2 + (k - j) = 2 + 1 by omega]
              exact this
            case measure => simp [intOf]
          · have HO := Lib.hid ho
            clear ho
            go_wp2_with (first | (go_at_call 136; refine (lowHex_any _ _ HDr hq).mono ?_; rintro e w' ⟨rfl, rfl⟩) | (at_builtin; refine wpList_append_own _ rfl _ _ 22 rfl w.heap.size 5 i0 (.int .u8 0) 1 1 Tryz.underlying22 hi hz0 hz1 hz2 rfl (by decide) _ _ _ rfl (World.ownsRow.alloc HO.out _) ⟨wr.heap.size, 0, none⟩ 1 1 [.int .u8 (hdI ((n : Int) / 2 ^ (4 * j) % 16))] rfl rfl (one_new _ _ _) (by intro u hu; simp at hu; subst hu; rfl) (by unfold maxLen; omega) (by omega) (by have := HB.out.size; simp; omega) ?_; intro v' w1 hown1 hgrow1 _; have R := Lib.hid (HO.out.snoc HB.out.size HB.out hown1 hgrow1); have HZ1 := Lib.hid hgrow1.size; clear hown1 hgrow1))
            go_roundw
            case rel =>
              refine ⟨j, (j : Int) - 1, by omega, by go_num, by omega, .inr ⟨by omega, ?_⟩, R.out.2, by have := HZ1.out; simp at this; omega⟩
              have e := htxt_step n k j (by omega)
              rw [← e, ← shift4, show 2 + (k - j) = 2 + (k - (j + 1)) + 1 by omega]
              exact R.out.1
            case measure => simp [intOf]
    · have hz' : ((n : Int) / 2 ^ (4 * k) != 0) = true := by simp [hz]
      have HZ := Lib.hid hz
      clear hz
      go_wp2
      go_round
      case rel =>
        have hne : ¬ (n : Int) < 16 ^ k := fun h => HZ.out (by rw [shift4]; exact Int.ediv_eq_zero_of_lt (by omega) h)
        have h2 : ((16 ^ k : Nat) : Int) = (16 : Int) ^ k := by simp
        have h8 : k ≠ 8 := by
          intro e
          have e8 : (16 : Int) ^ 8 = 4294967296 := rfl
          rw [e, e8] at hne
          omega
        exact ⟨k + 1, by omega, by omega, by go_num, .inr (by rw [Nat.add_sub_cancel]; omega)⟩
      case measure => simp [intOf]; omega

def SaysStrB (w : World) (s : ByteArray) (b : Bool) (e : Ending) (w' : World) : Prop := e = .returned (.tuple #[.string s, .bool b]) ∧ Below w.heap.size w w'
end Go.Proofs.YthgbhnedfdnfpaaGreatDoor

/- Digits in a text: what they stand for, and contracts of the functions that look for them. -/
namespace Go.Proofs.YthgbhnedfdnfpaaGreatDoor
set_option maxRecDepth 100000
open Go.RowKit

def dv (c : Int) : Int := if 48 ≤ c ∧ c ≤ 57 then c - 48 else if 97 ≤ c ∧ c ≤ 102 then c - 87 else -1
def dg (b c : Int) : Int := if dv c < b then dv c else -1
end Go.Proofs.YthgbhnedfdnfpaaGreatDoor

/- strings.IndexRune in a row of ASCII bytes, at whatever rune: the digit's value, or -1. -/
namespace Go.Proofs.YthgbhnedfdnfpaaGreatDoor
set_option maxRecDepth 100000
open Go.RowKit
set_option linter.unusedVariables false

end Go.Proofs.YthgbhnedfdnfpaaGreatDoor

/- The numbers that digits stand for: contracts of digitsValue, scDigit and scNumber. -/
namespace Go.Proofs.YthgbhnedfdnfpaaGreatDoor
set_option maxRecDepth 100000
open Go.RowKit

end Go.Proofs.YthgbhnedfdnfpaaGreatDoor

/- Digits of a row: what they stand for, and facts for the walks of readDigits and of the model's nuDigits. -/
namespace Go.Proofs.YthgbhnedfdnfpaaGreatDoor
set_option maxRecDepth 100000
open Go.RowKit

inductive DigHead (s : ByteArray) : Prop
  | none (h : s.size = 0)
  | zero (h : 1 < s.size) (e : (s[0]'(by omega)).toNat = 48)
  | one (h : s.size = 1)
  | more (h : 1 < s.size) (e : (s[0]'(by omega)).toNat ≠ 48)
theorem Dig.iter {w : World} (h : Dig w) (s : ByteArray) (k : Nat) : Dig (w.iter s k) := h.below ((Below.refl _ _).alloc (Nat.le_refl _) _)
end Go.Proofs.YthgbhnedfdnfpaaGreatDoor
