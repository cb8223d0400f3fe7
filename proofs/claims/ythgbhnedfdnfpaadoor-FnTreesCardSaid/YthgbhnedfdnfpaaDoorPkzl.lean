import Derived.Test.YthgbhnedfdnfpaaDoorPkza
import Derived.Test.YthgbhnedfdnfpaaDoorPkzk
import Derived.Test.YthgbhnedfdnfpaaDoorPkf
import Derived.Test.YthgbhnedfdnfpaaDoorPkc
import Derived.Laws.BytesArg
import Derived.Deep.RegionWith
import Derived.Lib.ItoaNum
import Derived.Shelf.Small.Wraps
import Derived.Test.YthgbhnedfdnfpaaDoorProg
import Derived.OpenVars
import Derived.Lib.LaidTab
import Derived.LaidMore
import Derived.OpenShut
/- Rows of places as a law's check reads them: qInts, qHas. -/
namespace Go.Proofs.YthgbhnedfdnfpaaDoor
set_option maxRecDepth 100000
open Go.RowKit
set_option linter.unusedVariables false
set_option linter.unusedSimpArgs false

/-- a slice that holds places -/
def NatV (w : World) (v : Value) (K : List Nat) : Prop := ∃ ad c, v = .slice ad K.length c ∧ (0 < K.length → ∃ g o, ad = some ⟨g, o, none⟩ ∧ g < w.heap.size ∧ ∀ k, k < K.length → w.cell? ⟨g, o + k, none⟩ = some (.int .i64 ((K.getD k 0 : Nat) : Int)))
theorem NatV.below {w w' : World} {v : Value} {K : List Nat} (h : NatV w v K) (b : Below w.heap.size w w') : NatV w' v K := by
  obtain ⟨ad, c, hv, hk⟩ := h
  refine ⟨ad, c, hv, fun h0 => ?_⟩
  obtain ⟨g, o, ha, hg, hc⟩ := hk h0
  exact ⟨g, o, ha, Nat.lt_of_lt_of_le hg b.size, fun k hk => (b.cell (p := ⟨g, o + k, none⟩) hg).trans (hc k hk)⟩
theorem NatV.own {w : World} {B : Nat} {v : Value} {K : List Nat} (h : w.ownsRow B 3 1 v K.length (nv K)) : NatV w v K := by
  obtain ⟨ad, c, rfl, hi⟩ := own_in h
  refine ⟨ad, c, rfl, fun h0 => ?_⟩
  obtain ⟨g, ha, ht, hg⟩ := hi h0
  exact ⟨g, 0, ha, hg, fun k hk => by rw [Nat.zero_add]; exact ht.at k (nv_get K k hk)⟩
/-- the slice without its first element -/
theorem NatV.tail {w : World} {g o c k : Nat} {K : List Nat} (h : NatV w (.slice (some ⟨g, o, none⟩) (K.length + 1) c) (k :: K)) (c' : Nat) : NatV w (.slice (some ⟨g, o + 1, none⟩) K.length c') K := by
  obtain ⟨ad, c2, hv, hk⟩ := h
  cases hv
  obtain ⟨g', o', ha, hg, hc⟩ := hk (by simp)
  cases ha
  refine ⟨_, c', rfl, fun h0 => ⟨g, o + 1, rfl, hg, fun j hj => ?_⟩⟩
  have := hc (j + 1) (by simp; omega)
  rw [show o + 1 + j = o + (j + 1) by omega]
  simpa using this
/-- the same at the beginning of its block -/
def Nat0V (w : World) (v : Value) (K : List Nat) : Prop := ∃ ad c, v = .slice ad K.length c ∧ K.length ≤ c ∧ (0 < K.length → ∃ g, ad = some ⟨g, 0, none⟩ ∧ g < w.heap.size ∧ ∀ k, k < K.length → w.cell? ⟨g, k, none⟩ = some (.int .i64 ((K.getD k 0 : Nat) : Int)))
theorem Nat0V.below {w w' : World} {v : Value} {K : List Nat} (h : Nat0V w v K) (b : Below w.heap.size w w') : Nat0V w' v K := by
  obtain ⟨ad, c, hv, hc, hk⟩ := h
  refine ⟨ad, c, hv, hc, fun h0 => ?_⟩
  obtain ⟨g, ha, hg, hx⟩ := hk h0
  exact ⟨g, ha, Nat.lt_of_lt_of_le hg b.size, fun k hk => (b.cell (p := ⟨g, k, none⟩) hg).trans (hx k hk)⟩
theorem Nat0V.natv {w : World} {v : Value} {K : List Nat} (h : Nat0V w v K) : NatV w v K := by
  obtain ⟨ad, c, hv, hc, hk⟩ := h
  refine ⟨ad, c, hv, fun h0 => ?_⟩
  obtain ⟨g, ha, hg, hx⟩ := hk h0
  exact ⟨g, 0, ha, hg, fun k hk => by rw [Nat.zero_add]; exact hx k hk⟩
theorem Nat0V.own {w : World} {B : Nat} {v : Value} {K : List Nat} (h : w.ownsRow B 3 1 v K.length (nv K)) : Nat0V w v K := by
  have h2 := h
  obtain ⟨ad, c, rfl, hi⟩ := own_in h
  rcases h2.2 with ⟨hv, hn⟩ | ⟨g, cap, cur, hv, _, _, hcap, _⟩
  · injection hv with e1 e2 e3
    exact ⟨_, _, rfl, by omega, fun h0 => by omega⟩
  · injection hv with e1 e2 e3
    refine ⟨_, _, rfl, by omega, fun h0 => ?_⟩
    obtain ⟨g', ha, ht, hg⟩ := hi h0
    exact ⟨g', ha, hg, fun k hk => ht.at k (nv_get K k hk)⟩
theorem slice_tl (g n c : Nat) (hn : 1 ≤ n) (hc : 1 < c) (w : World) : (Instr.slice 29 (.slice (some ⟨g, 0, none⟩) n c) (some (.int .i64 1)) none none).run Tryd.prog w = .ok (.slice (some ⟨g, 1, none⟩) (n - 1) (c - 1)) w := by
  rw [run_slice_l (P := Tryd.prog) w 29 (some ⟨g, 0, none⟩) n c Tryd.underlying29 .i64 1 (by omega) (by omega)]
  have hs : (sizeOf (Tryd.prog.elem 29)).run Tryd.prog w = .ok 1 w := by kernel_rfl
  rw [hs]
  simp [Result.andThen, sliced, Addr.add, show ¬ c = 1 by omega]
set_option maxHeartbeats 3200000 in
theorem qNats_any (v v' : Value) (K : List Nat) (w : World) (h : Hid (NatV w v K)) (h' : Hid (NatV w v' K)) (hm : K.length ≤ 1048576) :
    Calls Tryd.prog 18 #[v, v'] w (SaysB w true) := by
  obtain ⟨ad, c, rfl, hv⟩ := h.out
  obtain ⟨ad', c', rfl, hv'⟩ := h'.out
  have HV := Lib.hid hv
  have HV' := Lib.hid hv'
  clear hv hv' h h'
  obtain ⟨n, hn⟩ : ∃ n, K.length = n := ⟨_, rfl⟩
  rw [hn] at HV HV' hm ⊢
  clear hn
  go_enter Tryd.func18, Tryd.ntmps18
  go_wp2_with fail
  go_loopw [13] (fun i wr => ∃ k : Nat, k ≤ n ∧ i = .int .i64 k ∧ Below w.heap.size w wr) (fun i _ => n - (intOf i).toNat)
  case atStart => exact ⟨0, Nat.zero_le _, rfl, Below.refl _ _⟩
  case round =>
    obtain ⟨k, hk, rfl, hb⟩ := hrel
    have HB := Lib.hid hb
    by_cases hlt : k < n
    · obtain ⟨g, o, rfl, hg, hc⟩ := HV.out (by omega)
      obtain ⟨g', o', rfl, hg', hc'⟩ := HV'.out (by omega)
      have a0 := (hb.cell (p := ⟨g, o + k, none⟩) hg).trans (hc k (by omega))
      have a1 := (hb.cell (p := ⟨g', o' + k, none⟩) hg').trans (hc' k (by omega))
      generalize ((K.getD k 0 : Nat) : Int) = z at a0 a1
      clear hc hc' hb
      go_wp2_with fail
      go_quiet (fail)
      go_wp2_with fail
      go_roundw
      case rel => exact ⟨k + 1, by omega, by go_num, HB.out.trans (below_drewN (Below.refl _ _) _)⟩
      case measure => simp [intOf]; omega
    · clear hb
      go_wp2_with fail
      go_ret
      exact ⟨rfl, HB.out⟩
def HqRel (w : World) (K : List Nat) (x : Int) (B : Bool) (i : Value) (wr : World) : Prop := ∃ k : Nat, k ≤ K.length ∧ i = .int .i64 k ∧ Below w.heap.size w wr ∧ Hid ((K.drop k).any (fun j => ((j : Int) == x)) = B)
set_option maxHeartbeats 3200000 in
theorem qHas_any (v : Value) (K : List Nat) (x : Int) (w : World) (h : Hid (NatV w v K)) (hm : K.length ≤ 1048576) :
    Calls Tryd.prog 19 #[v, .int .i64 x] w (SaysB w (K.any (fun j => ((j : Int) == x)))) := by
  obtain ⟨ad, c, rfl, hv⟩ := h.out
  have HV := Lib.hid hv
  clear hv h
  obtain ⟨B, hB⟩ : ∃ B, K.any (fun j => ((j : Int) == x)) = B := ⟨_, rfl⟩
  have HB0 := Lib.hid hB
  rw [hB]
  clear hB
  obtain ⟨n, hn⟩ : ∃ n, K.length = n := ⟨_, rfl⟩
  have HN := Lib.hid hn
  rw [hn] at hm ⊢
  clear hn
  go_enter Tryd.func19, Tryd.ntmps19
  go_wp2_with fail
  go_loopw [9] (fun i wr => HqRel w K x B i wr) (fun i _ => n - (intOf i).toNat)
  case atStart => exact ⟨0, Nat.zero_le _, rfl, Below.refl _ _, by rw [List.drop_zero]; exact HB0⟩
  case round =>
    obtain ⟨k, hk, rfl, hb, HK⟩ := hrel
    rw [HN.out] at hk
    have HB := Lib.hid hb
    by_cases hlt : k < n
    · obtain ⟨g, o, rfl, hg, hc⟩ := HV.out (by rw [HN.out]; omega)
      have a0 := (hb.cell (p := ⟨g, o + k, none⟩) hg).trans (hc k (by rw [HN.out]; omega))
      have HA := Lib.hid ((any_at K x k (by rw [HN.out]; exact hlt) (K.getD k 0) rfl).symm.trans HK.out)
      obtain ⟨z, hz⟩ : ∃ z : Nat, K.getD k 0 = z := ⟨_, rfl⟩
      rw [hz] at a0 HA
      clear hc hb hz HK
      rcases Bool.eq_false_or_eq_true ((z : Int) == x) with hx | hx
      · have HR : Hid (true = B) := Lib.hid (by have q := HA.out; rw [hx] at q; exact q)
        clear HA
        go_wp2_with fail
        go_ret
        exact ⟨by rw [← HR.out]; rfl, HB.out⟩
      · have HR : Hid ((K.drop (k + 1)).any (fun j => ((j : Int) == x)) = B) := Lib.hid (by have q := HA.out; rw [hx] at q; exact q)
        clear HA
        go_wp2_with fail
        go_roundw
        case rel => exact ⟨k + 1, by rw [HN.out]; omega, by go_num, HB.out, HR⟩
        case measure => simp [intOf]; omega
    · have HR : Hid (false = B) := Lib.hid (by have q := HK.out; rw [List.drop_eq_nil_of_le (by rw [HN.out]; omega)] at q; exact q)
      clear hb HK
      go_wp2_with fail
      go_ret
      exact ⟨by rw [← HR.out]; rfl, HB.out⟩
end Go.Proofs.YthgbhnedfdnfpaaDoor

/- Slices of strings of the call's own: contracts of the comparing, marking and asking functions of the laws. Marking and asking a slice of strings of the call's own. -/
namespace Go.Proofs.YthgbhnedfdnfpaaDoor
set_option maxRecDepth 100000
open Go.RowKit

theorem infoStr : (Tryd.prog.info? 9).map (fun i => (i.zero, i.size, i.bytes)) = some (some (.string ⟨#[]⟩), 1, 16) := by kernel_rfl
/-- the cells of a list of strings -/
def sv (l : List ByteArray) : List Value := l.map Value.string
theorem sv_length (l : List ByteArray) : (sv l).length = l.length := by simp [sv]
theorem sv_get (l : List ByteArray) (i : Nat) (h : i < l.length) : (sv l)[i]? = some (.string (l.getD i ⟨#[]⟩)) := by simp [sv, h]
theorem sv_set (l : List ByteArray) (k : Nat) (c : ByteArray) : (sv l).set k (.string c) = sv (l.set k c) := by simp [sv, List.map_set]
def OwnS (w : World) (B g n cap : Nat) (l : List ByteArray) : Prop := w.ownsRow B 9 1 (.slice (some ⟨g, 0, none⟩) n cap) n (sv l)
theorem OwnS.len {w : World} {B g n cap : Nat} {l : List ByteArray} (h : OwnS w B g n cap l) : l.length = n := by
  have := h.1; rw [sv_length] at this; omega
theorem OwnS.lt {w : World} {B g n cap : Nat} {l : List ByteArray} (h : OwnS w B g n cap l) : B ≤ g ∧ g < w.heap.size := World.ownsRow.lt h g rfl
theorem OwnS.block {w w' : World} {B g n cap : Nat} {l : List ByteArray} (h : OwnS w B g n cap l) (hb : w'.heap[g]? = w.heap[g]?) : OwnS w' B g n cap l := by
  obtain ⟨h1, h2⟩ := h
  refine ⟨h1, ?_⟩
  rcases h2 with h2 | ⟨g', cap', cur, a, b, c, d⟩
  · exact .inl h2
  · cases a
    exact .inr ⟨g, cap, cur, rfl, b, by rw [hb]; exact c, d⟩
theorem OwnS.below {w w' : World} {B B' g n cap : Nat} {l : List ByteArray} (h : OwnS w B g n cap l) (hb : Below B' w w') (hg : g < B') : OwnS w' B g n cap l := h.block (hb.block g hg)
theorem OwnS.base {w : World} {B B' g n cap : Nat} {l : List ByteArray} (h : OwnS w B g n cap l) (hB : B' ≤ B) : OwnS w B' g n cap l := by
  obtain ⟨h1, h2⟩ := h
  refine ⟨h1, ?_⟩
  rcases h2 with h2 | ⟨g', cap', cur, a, b, c, d⟩
  · exact .inl h2
  · exact .inr ⟨g', cap', cur, a, Nat.le_trans hB b, c, d⟩
theorem OwnS.self {w : World} {B g n cap : Nat} {l : List ByteArray} (h : OwnS w B g n cap l) : OwnS w g g n cap l := by
  obtain ⟨h1, h2⟩ := h
  refine ⟨h1, ?_⟩
  rcases h2 with ⟨a, _⟩ | ⟨g1, cap', cur, a, b, c, d⟩
  · cases a
  · cases a
    exact .inr ⟨g, cap, cur, rfl, Nat.le_refl _, c, d⟩
theorem OwnS.cell {w : World} {B g n cap : Nat} {l : List ByteArray} (h : OwnS w B g n cap l) (k : Nat) (hk : k < n) : w.cell? ⟨g, k, none⟩ = some (.string (l.getD k ⟨#[]⟩)) := by
  have hl := h.len
  rw [World.ownsRow.cellAt h k (by omega), sv_get _ _ (by omega)]
theorem OwnS.store {w : World} {B g n cap : Nat} {l : List ByteArray} (h : OwnS w B g n cap l) (k : Nat) (c : ByteArray) : OwnS (w.setCell ⟨g, k, none⟩ (.string c)) B g n cap (l.set k c) := by
  have := (World.ownsRow.stored h k (.string c)).1
  rw [sv_set] at this
  exact this
/-- a slice of the call's own, or nil -/
def OwnZ (w : World) (B : Nat) (v : Value) (n : Nat) (l : List ByteArray) : Prop := w.ownsRow B 9 1 v n (sv l)
theorem OwnZ.snoc {w wr w1 : World} {B n : Nat} {v v' : Value} {l : List ByteArray} {c : ByteArray} {o : Obj} (h : OwnZ wr B v n l) (hB : B ≤ wr.heap.size) (hb : Below B w wr)
    (h' : w1.ownsRow B 9 1 v' (n + 1) (sv l ++ [.string c])) (hg : (wr.alloc o).grownBy w1 v.ownBlock) : OwnZ w1 B v' (n + 1) (l ++ [c]) ∧ Below B w w1 :=
  ⟨by unfold OwnZ; simpa [sv] using h', (hb.alloc hB o).grown hg (by simp; omega) (fun j hj => (World.ownsRow.lt h j hj).1)⟩
theorem OwnZ.some {w : World} {B n : Nat} {v : Value} {l : List ByteArray} (h : OwnZ w B v n l) (hn : 0 < n) : ∃ g cap, v = .slice (some ⟨g, 0, none⟩) n cap ∧ OwnS w B g n cap l := by
  rcases h.2 with ⟨_, h0⟩ | ⟨g, cap, cur, hv, _⟩
  · omega
  · subst hv
    exact ⟨g, cap, rfl, h⟩
theorem OwnZ.below {w w' : World} {B B' n : Nat} {v : Value} {l : List ByteArray} (h : OwnZ w B v n l) (hb : Below B' w w') (hB : w.heap.size ≤ B') : OwnZ w' B v n l := by
  obtain ⟨h1, h2⟩ := h
  refine ⟨h1, ?_⟩
  rcases h2 with h2 | ⟨g, cap, cur, a, b, c, d⟩
  · exact .inl h2
  · have hlt : g < w.heap.size := (World.ownsRow.lt (show w.ownsRow B 9 1 v n (sv l) from ⟨h1, .inr ⟨g, cap, cur, a, b, c, d⟩⟩) g (by rw [a]; rfl)).2
    exact .inr ⟨g, cap, cur, a, b, by rw [hb.block g (by omega)]; exact c, d⟩
/-- only block g was written, new ones may have come -/
def OnlyGrown (g : Nat) (w w' : World) : Prop := Below g w w' ∧ ∀ j, j ≠ g → j < w.heap.size → w'.heap[j]? = w.heap[j]?
theorem OnlyGrown.refl (g : Nat) (w : World) : OnlyGrown g w w := ⟨Below.refl _ _, fun _ _ _ => rfl⟩
theorem OnlyGrown.step {g : Nat} {w wr w1 : World} (h : OnlyGrown g w wr) (hg : g < wr.heap.size) (hb : Below wr.heap.size wr w1) (k : Nat) (v : Value) : OnlyGrown g w (w1.setCell ⟨g, k, none⟩ v) :=
  ⟨(h.1.trans (hb.mono (by omega))).setCell (Nat.le_refl _) v, fun j hj hl => by
    rw [Below.heap_setCell _ _ _ _ (by exact hj), hb.block j (Nat.lt_of_lt_of_le hl h.1.size)]
    exact h.2 j hj hl⟩
theorem OwnS.only {w w' : World} {B g g' n cap : Nat} {l : List ByteArray} (h : OwnS w B g n cap l) (hb : OnlyGrown g' w w') (hg : g ≠ g') : OwnS w' B g n cap l := h.block (hb.2 g hg h.lt.2)

theorem conv_one (w : World) (z : Int) : (convert 22 9 (.slice (some ⟨w.heap.size, 0, none⟩) 1 1)).run Tryd.prog (w.alloc (.cells #[.int .u8 z] 5)) = .ok (.string (strOfNums [z])) (w.alloc (.cells #[.int .u8 z] 5)) :=
  run_convert_bytes_arg (w.alloc (.cells #[.int .u8 z] 5)) 22 5 Tryd.underlying22 Tryd.underlying5 w.heap.size 0 1 1 [z] rfl
    (fun i hi => by
      obtain rfl : i = 0 := by omega
      rw [World.cell?_alloc_at _ _ _ _ rfl]
      rfl) 9 Tryd.underlying9
theorem str_two (a b : Int) : (strOfNums [a] ++ strOfNums [b] : ByteArray) = strOfNums [a, b] := by
  apply ByteArray.ext
  simp [strOfNums, ByteArray.data_append]
end Go.Proofs.YthgbhnedfdnfpaaDoor

namespace Go.Proofs.YthgbhnedfdnfpaaDoor
open Go.RowKit

def mkS (k : Int) : ByteArray := strOfNums [109, 48 + k]
def marksS (n : Nat) : List ByteArray := (List.range n).map fun i : Nat => mkS ((i : Int) + 1)
def markToS (l : List ByteArray) (k : Nat) : List ByteArray := marksS k ++ l.drop k
theorem marksS_length (n : Nat) : (marksS n).length = n := by simp [marksS]
theorem marksS_succ (n : Nat) : marksS (n + 1) = marksS n ++ [mkS ((n : Int) + 1)] := by simp [marksS, List.range_succ]
theorem markToS_zero (l : List ByteArray) : markToS l 0 = l := by simp [markToS, marksS]
theorem markToS_all (l : List ByteArray) : markToS l l.length = marksS l.length := by simp [markToS]
theorem markToS_set (l : List ByteArray) (k : Nat) (h : k < l.length) : (markToS l k).set k (mkS ((k : Int) + 1)) = markToS l (k + 1) := by
  unfold markToS
  rw [List.set_append_right _ _ (by rw [marksS_length]; exact Nat.le_refl _), marksS_length, Nat.sub_self, List.drop_eq_getElem_cons h, List.set_cons_zero, marksS_succ, List.append_assoc]
  rfl
theorem marksS_get (n k : Nat) (h : k < n) : (marksS n).getD k ⟨#[]⟩ = mkS ((k : Int) + 1) := by
  simp [marksS, List.getD_eq_getElem?_getD, h]
def MarkRelS (w : World) (g n cap : Nat) (l : List ByteArray) (m i : Value) (wr : World) : Prop :=
  ∃ k : Nat, k ≤ n ∧ i = .int .i64 k ∧ m = .int .i64 (k + 1) ∧ OwnS wr g g n cap (markToS l k) ∧ OnlyGrown g w wr
end Go.Proofs.YthgbhnedfdnfpaaDoor

/- Decimal numerals: contracts of l1Num of the model. -/
namespace Go.Proofs.YthgbhnedfdnfpaaDoor
set_option maxRecDepth 100000
open Go.RowKit

/-- the decimal numeral -/
def numS (n : Nat) : ByteArray := ⟨(Lib.decDigits n).toArray⟩
theorem numS_small (n : Nat) (h : n < 10) : numS n = strOfNums [48 + (n : Int)] := by
  have e : (48 + (n : Int)).toNat = 48 + n := by omega
  unfold numS strOfNums
  rw [Lib.decDigits, dif_pos h]
  simp [e]
theorem numS_big (n : Nat) (h : 10 ≤ n) : numS n = numS (n / 10) ++ strOfNums [48 + (n : Int) % 10] := by
  have e : (48 + (n : Int) % 10).toNat = 48 + n % 10 := by omega
  apply ByteArray.ext
  unfold numS strOfNums
  conv => lhs; rw [Lib.decDigits, dif_neg (by omega)]
  simp [e, ByteArray.data_append]
theorem numS_size (n : Nat) : (numS n).size ≤ n + 1 := by
  induction n using Nat.strongRecOn with
  | _ n ih =>
    by_cases h : n < 10
    · rw [numS_small n h, strOfNums_size]; simp
    · rw [numS_big n (by omega), ByteArray.size_append, strOfNums_size]
      have := ih (n / 10) (by omega)
      simp
      omega
theorem below_pre0 {w w1 : World} (b : Below w.drew.heap.size w.drew w1) : Below w.heap.size w w1 := (show Below w.heap.size w w.drew from below_drewN (Below.refl _ _) 1).trans b
theorem below_pre1 {w w1 : World} {o : Obj} (b : Below (w.alloc o).drew.heap.size (w.alloc o).drew w1) : Below w.heap.size w w1 := by
  have a : Below w.heap.size w (w.alloc o).drew := below_drewN ((Below.refl _ _).alloc (Nat.le_refl _) _) 1
  exact a.trans (b.mono a.size)
theorem conv_after (w w1 : World) (z : Int) (b : Below (w.alloc (.cells #[.int .u8 z] 5)).drew.heap.size (w.alloc (.cells #[.int .u8 z] 5)).drew w1) :
    (convert 22 9 (.slice (some ⟨w.heap.size, 0, none⟩) 1 1)).run Tryd.prog w1 = .ok (.string (strOfNums [z])) w1 :=
  run_convert_bytes_arg w1 22 5 Tryd.underlying22 Tryd.underlying5 w.heap.size 0 1 1 [z] rfl
    (fun i hi => by
      obtain rfl : i = 0 := by simp at hi; exact hi
      have h0 : (w.alloc (.cells #[.int .u8 z] 5)).drew.cell? ⟨w.heap.size, 0, none⟩ = some (.int .u8 z) := by
        show (w.alloc (.cells #[.int .u8 z] 5)).cell? ⟨w.heap.size, 0, none⟩ = some (.int .u8 z)
        rw [World.cell?_alloc_at _ _ _ _ rfl]; rfl
      exact (b.cell (p := ⟨w.heap.size, 0, none⟩) (World.block_lt_of_cell? _ _ h0)).trans h0) 9 Tryd.underlying9
theorem conv_drew (w : World) (z : Int) : (convert 22 9 (.slice (some ⟨w.heap.size, 0, none⟩) 1 1)).run Tryd.prog (w.alloc (.cells #[.int .u8 z] 5)).drew = .ok (.string (strOfNums [z])) (w.alloc (.cells #[.int .u8 z] 5)).drew :=
  conv_after w _ z (Below.refl _ _)
end Go.Proofs.YthgbhnedfdnfpaaDoor

/-
  DERIVED: THE SHELF's CONTRACTS AT THIS DUMP, IN PLAIN WORDS (tools/lay-plain.mjs out of 'TrydShelf.lean', which tools/lay-shelf.mjs wrote): THE SAME DECLARATIONS UNDER THE SAME NAMES: 'import', 'namespace', 'open', 'def', 'theorem' AND NOTHING ELSE: no command of the shelf's: FOR A HAND-IN. Each laying: the table of numbers ('.._ren') and one theorem, a field a fact of the dump's own or the kernel's comparison; each contract: ONE APPLICATION.
-/
namespace Go.Proofs
open Go.Shelf
def Tryd.lays215_ren : Go.Shelf.Ren := ⟨fun | 215 => 61 | n => n, fun | 3 => 3 | 4 => 4 | n => n, fun | n => n⟩
theorem Tryd.lays215 : Go.Proofs.Lays.n215 Tryd.prog Tryd.lays215_ren := {
  mixed := by kernel_rfl
  f215 := Tryd.func61.trans (congrArg some (by kernel_rfl))
  t3 := Tryd.underlying3
  a3 := Tryd.isAgg3
  z3 := Tryd.sizeOf3
  v3 := Tryd.zeroValue3
  t4 := Tryd.underlying4
  a4 := Tryd.isAgg4
  z4 := Tryd.sizeOf4
  v4 := Tryd.zeroValue4 }
open Go.RowKit in
/-- cmp.isNaN at int: 'x != x': false. (LAID: no walk: one application.) -/
theorem Tryd.cmp_isNaN_int (x : Int) (w : World) :
    Calls Tryd.prog 61 #[.int .i64 x] w fun e w' => e = .returned (.bool false) ∧ w' = w := Any.cmp_isNaN_int Tryd.lays215 x w
def Tryd.lays122_ren : Go.Shelf.Ren := ⟨fun | 122 => 41 | 215 => 61 | n => n, fun | 3 => 3 | 4 => 4 | n => n, fun | n => n⟩
theorem Tryd.lays122 : Go.Proofs.Lays.n122 Tryd.prog Tryd.lays122_ren := {
  mixed := by kernel_rfl
  f122 := Tryd.func41.trans (congrArg some (by kernel_rfl))
  f215 := Tryd.func61.trans (congrArg some (by kernel_rfl))
  t3 := Tryd.underlying3
  a3 := Tryd.isAgg3
  z3 := Tryd.sizeOf3
  v3 := Tryd.zeroValue3
  t4 := Tryd.underlying4
  a4 := Tryd.isAgg4
  z4 := Tryd.sizeOf4
  v4 := Tryd.zeroValue4 }
open Go.RowKit in
/-- cmp.Compare at int: "Compare returns -1 if x is less than y, 0 if x equals y, +1 if x is greater than y.": IT RETURNS 'Lib.compareInt x y'; the world is as it was. (LAID: no walk: one application.) -/
theorem Tryd.cmp_Compare_int (x y : Int) (w : World) :
    Calls Tryd.prog 41 #[.int .i64 x, .int .i64 y] w fun e w' => e = .returned (.int .i64 (Lib.compareInt x y)) ∧ w' = w := Any.cmp_Compare_int Tryd.lays122 x y w
end Go.Proofs

/- The table of digits: what its cells hold, what a digit's value is, and contracts of the functions that read it. -/
namespace Go.Proofs.YthgbhnedfdnfpaaDoor
set_option maxRecDepth 100000
open Go.RowKit

def decB : ByteArray := ⟨#[48, 49, 50, 51, 52, 53, 54, 55, 56, 57]⟩
def hexB : ByteArray := ⟨#[48, 49, 50, 51, 52, 53, 54, 55, 56, 57, 97, 98, 99, 100, 101, 102]⟩
/-! From the row's condition. -/
theorem cStr : Tryd.prog.cellsOf 9 = 1 := by kernel_rfl
theorem list_two {α : Type} {l : List α} (h : l.length = 2) : ∃ a b, l = [a, b] := by
  match l, h with
  | [a, b], _ => exact ⟨a, b, rfl⟩
end Go.Proofs.YthgbhnedfdnfpaaDoor

/- Hexadecimal texts of numbers: contracts of HexOf, program and model. -/
namespace Go.Proofs.YthgbhnedfdnfpaaDoor
set_option maxRecDepth 100000
open Go.RowKit

/-- the digit of a number below 16, as a byte -/
def hdI (k : Int) : Int := if k < 10 then 48 + k else 87 + k
/-- the digits of a number, the highest first -/
def hexN (n : Nat) : List Int := if n < 16 then [hdI n] else hexN (n / 16) ++ [hdI ((n % 16 : Nat) : Int)]
termination_by n
decreasing_by omega
/-- the digits of a number, as many as asked -/
def hexC (n : Nat) : Nat → List Int
  | 0 => []
  | c + 1 => hexC (n / 16) c ++ [hdI ((n % 16 : Nat) : Int)]
theorem hexC_eq (c : Nat) : ∀ n : Nat, n < 16 ^ (c + 1) → (c = 0 ∨ 16 ^ c ≤ n) → hexC n (c + 1) = hexN n := by
  induction c with
  | zero =>
    intro n h _
    have h' : n < 16 := by simpa using h
    rw [hexN, if_pos h', hexC, hexC, Nat.mod_eq_of_lt h']
    rfl
  | succ c ih =>
    intro n h h2
    have h3 : 16 ^ (c + 1) ≤ n := h2.resolve_left (by omega)
    have h4 : 16 ≤ n := Nat.le_trans (by rw [Nat.pow_succ]; have := Nat.pow_pos (n := c) (a := 16) (by omega); omega) h3
    rw [hexN, if_neg (by omega), hexC, ih (n / 16)]
    · rw [Nat.div_lt_iff_lt_mul (by omega), ← Nat.pow_succ]; exact h
    · by_cases e : c = 0
      · exact .inl e
      · right
        rw [Nat.le_div_iff_mul_le (by omega), ← Nat.pow_succ]
        exact h3
/-- the text -/
def hexStr (n : Nat) : ByteArray := strOfNums (48 :: 120 :: hexN n)
theorem strOfNums_append (a b : List Int) : strOfNums a ++ strOfNums b = strOfNums (a ++ b) := by
  apply ByteArray.ext
  simp [strOfNums, ByteArray.data_append]

theorem sl16 (w : World) : ∀ (k : Nat), k < 16 → (Instr.slice 9 (.string ⟨#[48, 49, 50, 51, 52, 53, 54, 55, 56, 57, 97, 98, 99, 100, 101, 102]⟩) (some (.int .i64 (k : Int))) (some (.int .i64 ((k : Int) + 1))) none).run Tryd.prog w = .ok (.string (strOfNums [hdI (k : Int)])) w
  | 0, _ => by kernel_rfl
  | 1, _ => by kernel_rfl
  | 2, _ => by kernel_rfl
  | 3, _ => by kernel_rfl
  | 4, _ => by kernel_rfl
  | 5, _ => by kernel_rfl
  | 6, _ => by kernel_rfl
  | 7, _ => by kernel_rfl
  | 8, _ => by kernel_rfl
  | 9, _ => by kernel_rfl
  | 10, _ => by kernel_rfl
  | 11, _ => by kernel_rfl
  | 12, _ => by kernel_rfl
  | 13, _ => by kernel_rfl
  | 14, _ => by kernel_rfl
  | 15, _ => by kernel_rfl
  | k + 16, h => absurd h (by omega)

theorem hexN_small (n : Nat) (h : n < 16) : hexN n = [hdI n] := by rw [hexN, if_pos h]
theorem hexN_big (n : Nat) (h : 16 ≤ n) : hexN n = hexN (n / 16) ++ [hdI ((n : Int) % 16)] := by rw [hexN, if_neg (by omega)]; rfl
theorem hexN_length (n : Nat) : (hexN n).length ≤ n + 1 := by
  induction n using Nat.strongRecOn with
  | _ n ih =>
    by_cases h : n < 16
    · rw [hexN_small n h]; simp
    · rw [hexN_big n (by omega)]
      have := ih (n / 16) (by omega)
      simp
      omega
theorem str_ret {a b : ByteArray} (h : a = b) : Ending.returned (.string a) = .returned (.string b) := by rw [h]

end Go.Proofs.YthgbhnedfdnfpaaDoor
