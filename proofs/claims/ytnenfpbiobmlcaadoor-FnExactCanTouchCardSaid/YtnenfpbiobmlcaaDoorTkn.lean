/- Lists of tokens marked and asked by the laws. -/
import Derived.Test.YtnenfpbiobmlcaaDoorTkm
namespace Go.Proofs.YtnenfpbiobmlcaaDoor
set_option maxRecDepth 100000
open Go.RowKit
set_option linter.unusedVariables false

def mk4 (i : Nat) : Tok := ⟨4 * (i : Int) + 1, 4 * (i : Int) + 1 + 1, mtS (4 * (i : Int) + 1 + 1 + 1).toNat, 4 * (i : Int) + 1 + 1 + 1 + 1⟩
def marksT (n : Nat) : List Tok := (List.range n).map mk4
def markToT (l : List Tok) (k : Nat) : List Tok := marksT k ++ l.drop k
theorem marksT_length (n : Nat) : (marksT n).length = n := by simp [marksT]
theorem marksT_succ (n : Nat) : marksT (n + 1) = marksT n ++ [mk4 n] := by simp [marksT, List.range_succ]
theorem markToT_zero (l : List Tok) : markToT l 0 = l := by simp [markToT, marksT]
theorem markToT_all (l : List Tok) : markToT l l.length = marksT l.length := by simp [markToT]
theorem markToT_set (l : List Tok) (k : Nat) (h : k < l.length) : (markToT l k).set k (mk4 k) = markToT l (k + 1) := by
  unfold markToT
  rw [List.set_append_right _ _ (by rw [marksT_length]; exact Nat.le_refl _), marksT_length, Nat.sub_self, List.drop_eq_getElem_cons h, List.set_cons_zero, marksT_succ, List.append_assoc]
  rfl
theorem marksT_get (n k : Nat) (h : k < n) : (marksT n).getD k tok0 = mk4 k := by simp [marksT, List.getD_eq_getElem?_getD, h]
theorem tkCs_set : ∀ (l : List Tok) (k : Nat) (x : Tok), k < l.length →
    ((((tkCs l).set (k * 4) (.int .i64 x.k)).set (k * 4 + 1) (.int .i64 x.a)).set (k * 4 + 2) (.string x.t)).set (k * 4 + 3) (.int .i64 x.v) = tkCs (l.set k x)
  | [], k, x, h => absurd h (by simp)
  | y :: r, 0, x, _ => by simp [tkCs, tkC]
  | y :: r, k + 1, x, h => by
    have hc : ∀ z : Tok, ∀ q : List Tok, tkCs (z :: q) = .int .i64 z.k :: .int .i64 z.a :: .string z.t :: .int .i64 z.v :: tkCs q := fun z q => by simp [tkCs, tkC]
    have ih := tkCs_set r k x (by simpa using h)
    rw [List.set_cons_succ, hc, hc, ← ih]
    have e0 : (k + 1) * 4 = k * 4 + 4 := by omega
    have e1 : (k + 1) * 4 + 1 = k * 4 + 1 + 4 := by omega
    have e2 : (k + 1) * 4 + 2 = k * 4 + 2 + 4 := by omega
    have e3 : (k + 1) * 4 + 3 = k * 4 + 3 + 4 := by omega
    rw [e1, e2, e3, e0]
    rfl
theorem raw_below {w w' : World} {B g n cap : Nat} {xs : List Value} (h : w.ownsRow g 24 4 (.slice (some ⟨g, 0, none⟩) n cap) n xs) (hb : Below B w w') (hg : g < B) : w'.ownsRow g 24 4 (.slice (some ⟨g, 0, none⟩) n cap) n xs := by
  obtain ⟨h1, h2⟩ := h
  refine ⟨h1, ?_⟩
  rcases h2 with h2 | ⟨g', cap', cur, a, b, c, d⟩
  · exact .inl h2
  · cases a
    exact .inr ⟨g, cap, cur, rfl, b, by rw [hb.block g hg]; exact c, d⟩
/-- behind two marks and a call -/
theorem mark_mid {wr w1 : World} {g n cap k : Nat} {L : List Tok} {a b : Value} (h : OwnK wr g (.slice (some ⟨g, 0, none⟩) n cap) n L) (hk : k < n) (x : Tok) (hx : L.getD k tok0 = x)
    (b1 : Below ((wr.setCell ⟨g, k * 4, none⟩ a).setCell ⟨g, k * 4 + 1, none⟩ b).heap.size ((wr.setCell ⟨g, k * 4, none⟩ a).setCell ⟨g, k * 4 + 1, none⟩ b) w1) :
    w1.cell? ⟨g, k * 4 + 2, none⟩ = some (.string x.t) ∧ w1.cell? ⟨g, k * 4 + 3, none⟩ = some (.int .i64 x.v) ∧ w1.frozen? ⟨g, k * 4 + 2, none⟩ = false ∧ w1.frozen? ⟨g, k * 4 + 3, none⟩ = false ∧
    w1.ownsRow g 24 4 (.slice (some ⟨g, 0, none⟩) n cap) n (((tkCs L).set (k * 4) a).set (k * 4 + 1) b) := by
  have hg := (World.ownsRow.lt h g rfl).2
  have hl := h.len
  have h2 := (World.ownsRow.stored (World.ownsRow.stored h (k * 4) a).1 (k * 4 + 1) b).1
  have h3 := raw_below h2 b1 (by simpa using hg)
  have g2 := tkCs_get L k 2 (by decide) (by omega)
  have g3 := tkCs_get L k 3 (by decide) (by omega)
  subst hx
  refine ⟨?_, ?_, World.ownsRow.frozenAt h3 _, World.ownsRow.frozenAt h3 _, h3⟩
  · rw [World.ownsRow.cellAt h3 _ (by omega), List.getElem?_set_ne (by omega), List.getElem?_set_ne (by omega), g2]; rfl
  · rw [World.ownsRow.cellAt h3 _ (by omega), List.getElem?_set_ne (by omega), List.getElem?_set_ne (by omega), g3]; rfl
theorem OnlyGrown.set {g : Nat} {w wr : World} (h : OnlyGrown g w wr) (hg : g < wr.heap.size) (k : Nat) (v : Value) : OnlyGrown g w (wr.setCell ⟨g, k, none⟩ v) := h.step hg (Below.refl _ _) k v
/-- a mark is made -/
theorem mark_done {w wr w1 : World} {g n cap k : Nat} {l : List Tok} {m : Int} (h : OwnK wr g (.slice (some ⟨g, 0, none⟩) n cap) n (markToT l k)) (hl : k < l.length) (hm : m = 4 * (k : Int) + 1)
    (h1 : w1.ownsRow g 24 4 (.slice (some ⟨g, 0, none⟩) n cap) n (((tkCs (markToT l k)).set (k * 4) (.int .i64 m)).set (k * 4 + 1) (.int .i64 (m + 1)))) (hO : OnlyGrown g w wr)
    (b1 : Below ((wr.setCell ⟨g, k * 4, none⟩ (.int .i64 m)).setCell ⟨g, k * 4 + 1, none⟩ (.int .i64 (m + 1))).heap.size ((wr.setCell ⟨g, k * 4, none⟩ (.int .i64 m)).setCell ⟨g, k * 4 + 1, none⟩ (.int .i64 (m + 1))) w1) :
    OwnK ((w1.setCell ⟨g, k * 4 + 2, none⟩ (.string (mtS (m + 1 + 1).toNat))).setCell ⟨g, k * 4 + 3, none⟩ (.int .i64 (m + 1 + 1 + 1))) g (.slice (some ⟨g, 0, none⟩) n cap) n (markToT l (k + 1)) ∧
    OnlyGrown g w ((w1.setCell ⟨g, k * 4 + 2, none⟩ (.string (mtS (m + 1 + 1).toNat))).setCell ⟨g, k * 4 + 3, none⟩ (.int .i64 (m + 1 + 1 + 1))) := by
  have hg := (World.ownsRow.lt h g rfl).2
  have hlen : k < (markToT l k).length := by simp [markToT, marksT_length]; omega
  refine ⟨?_, ?_⟩
  · have h3 := (World.ownsRow.stored (World.ownsRow.stored h1 (k * 4 + 2) (.string (mtS (m + 1 + 1).toNat))).1 (k * 4 + 3) (.int .i64 (m + 1 + 1 + 1))).1
    have e := tkCs_set (markToT l k) k (mk4 k) hlen
    rw [markToT_set l k hl] at e
    subst hm
    unfold OwnK
    rw [← e]
    exact h3
  · have q := ((hO.set hg (k * 4) (.int .i64 m)).set (by simpa using hg) (k * 4 + 1) (.int .i64 (m + 1)))
    have q2 := q.step (by simpa using hg) b1 (k * 4 + 2) (.string (mtS (m + 1 + 1).toNat))
    exact q2.set (by have := b1.size; simp at this ⊢; omega) _ _
def MarkRelT (w : World) (g n cap : Nat) (l : List Tok) (m i : Value) (wr : World) : Prop :=
  ∃ (k : Nat) (q : Int), k ≤ n ∧ i = .int .i64 k ∧ m = .int .i64 q ∧ Hid (q = 4 * (k : Int) + 1) ∧ 1 ≤ q ∧ q ≤ 2401 ∧ OwnK wr g (.slice (some ⟨g, 0, none⟩) n cap) n (markToT l k) ∧ OnlyGrown g w wr
set_option maxHeartbeats 3200000 in
theorem markTokenS_own (g n cap : Nat) (l : List Tok) (w : World) (HO : Hid (OwnK w g (.slice (some ⟨g, 0, none⟩) n cap) n l)) (hm : n ≤ 600) :
    Calls Tryd.prog 21 #[.slice (some ⟨g, 0, none⟩) n cap, .int .i64 1] w fun e w' => e = .returned (.int .i64 (4 * (n : Int) + 1)) ∧ OwnK w' g (.slice (some ⟨g, 0, none⟩) n cap) n (marksT n) ∧ OnlyGrown g w w' := by
  have HL := Lib.hid HO.out.len
  go_enter Tryd.func21, Tryd.ntmps21
  go_wp2_with fail
  go_loopw [1, 5] (fun m i wr => MarkRelT w g n cap l m i wr) (fun _ i _ => n - (intOf i).toNat)
  case atStart => exact ⟨0, 1, Nat.zero_le _, rfl, rfl, Lib.hid (by omega), by omega, by omega, by rw [markToT_zero]; exact HO.out, OnlyGrown.refl _ _⟩
  case round =>
    obtain ⟨k, m, hk, rfl, rfl, HM, m1, m2, ho, hb⟩ := hrel
    have HO1 := Lib.hid ho
    have HB1 := Lib.hid hb
    have HT := Lib.hid ho.toks
    have HLen : Hid ((markToT l k).length = n) := Lib.hid ho.len
    by_cases hlt : k < n
    · have m3 : m ≤ 2397 := by have := HM.out; omega
      obtain ⟨x, hx⟩ : ∃ x, (markToT l k).getD k tok0 = x := ⟨_, rfl⟩
      obtain ⟨a0, a1, a2, a3⟩ := HT.out.four k (by rw [HLen.out]; exact hlt) x hx
      have f0 := World.ownsRow.frozenAt ho (k * 4)
      have f1 := World.ownsRow.frozenAt ho (k * 4 + 1)
      have HX := Lib.hid hx
      clear ho hb hx
      go_wp2_with (go_at_call 52; refine (markText_num (m + 1 + 1) (by omega) (by omega) _).mono ?_; rintro e w1 ⟨rfl, b1⟩; have B1 := Lib.hid b1; obtain ⟨c2, c3, e2, e3, raw⟩ := mark_mid HO1.out hlt x HX.out b1; have RAW := Lib.hid raw; clear b1 raw)
      have hd := Lib.hid (mark_done HO1.out (by have := HL.out; omega) HM.out RAW.out HB1.out B1.out)
      go_roundw
      case rel => exact ⟨k + 1, m + 1 + 1 + 1 + 1, by omega, by go_num, rfl, Lib.hid (by have := HM.out; omega), by omega, by omega, hd.out.1, hd.out.2⟩
      case measure => simp [intOf]; omega
    · clear ho hb
      go_wp2_with fail
      go_ret
      obtain rfl : k = n := by omega
      have e2 : markToT l k = marksT k := by have := markToT_all l; rw [HL.out] at this; exact this
      have := HO1.out
      rw [e2] at this
      exact ⟨ret_int HM.out, this, HB1.out⟩
theorem markTokenS_none (a : Option Addr) (ca : Nat) (w : World) :
    Calls Tryd.prog 21 #[.slice a 0 ca, .int .i64 1] w fun e w' => e = .returned (.int .i64 1) ∧ w = w' := by
  go_enter Tryd.func21, Tryd.ntmps21
  go_wp2
  refine wp_loop_rounds 1 ?_
  rw [rounds_succ]
  go_wp2
  go_ret
  exact ⟨rfl, rfl⟩
def HeldRelT (w : World) (n : Nat) (m i : Value) (wr : World) : Prop :=
  ∃ (k : Nat) (q : Int), k ≤ n ∧ i = .int .i64 k ∧ m = .int .i64 q ∧ Hid (q = 4 * (k : Int) + 1) ∧ 1 ≤ q ∧ q ≤ 2401 ∧ Below w.heap.size w wr
theorem mk4_at {k : Nat} {m : Int} (h : m = 4 * (k : Int) + 1) : mk4 k = ⟨m, m + 1, mtS (m + 1 + 1).toNat, m + 1 + 1 + 1⟩ := by subst h; rfl
set_option maxHeartbeats 3200000 in
theorem heldTokenS_own (g n cap : Nat) (w : World) (HT : Hid (ToksAt w g (marksT n))) (hg : g < w.heap.size) (hm : n ≤ 600) :
    Calls Tryd.prog 22 #[.slice (some ⟨g, 0, none⟩) n cap, .int .i64 1] w fun e w' => e = .returned (.int .i64 (4 * (n : Int) + 1)) ∧ Below w.heap.size w w' := by
  go_enter Tryd.func22, Tryd.ntmps22
  go_wp2_with fail
  go_loopw [1, 5] (fun m i wr => HeldRelT w n m i wr) (fun _ i _ => n - (intOf i).toNat)
  case atStart => exact ⟨0, 1, Nat.zero_le _, rfl, rfl, Lib.hid (by omega), by omega, by omega, Below.refl _ _⟩
  case round =>
    obtain ⟨k, m, hk, rfl, rfl, HM, m1, m2, hb⟩ := hrel
    have HB1 := Lib.hid hb
    by_cases hlt : k < n
    · have m3 : m ≤ 2397 := by have := HM.out; omega
      obtain ⟨a0, a1, a2, a3⟩ := (HT.out.below hb hg).four k (by rw [marksT_length]; exact hlt) _ ((marksT_get n k hlt).trans (mk4_at HM.out))
      clear hb
      go_wp2_with fail
      obtain ⟨T, hTT⟩ : ∃ T, mtS (m + 1 + 1).toNat = T := ⟨_, rfl⟩
      have HMT := Lib.hid (fun w => markText_num (m + 1 + 1) (by omega) (by omega) w)
      rw [hTT] at HMT
      have a2' := a2.trans (congrArg (fun t => some (Value.string t)) hTT)
      have a3' : wr.drew.cell? ⟨g, k * 4 + 3, none⟩ = some (.int .i64 (m + 1 + 1 + 1)) := a3
      clear a0 a1 a2 hTT
      go_region_with (go_at_call 52; refine (HMT.out _).mono ?_; rintro e w1 ⟨rfl, b1⟩; have B1 := Lib.hid b1; have c2 : w1.cell? ⟨g, k * 4 + 2, none⟩ = some (.string T) := (b1.cell (p := ⟨g, k * 4 + 2, none⟩) (World.block_lt_of_cell? _ _ a2')).trans a2'; have c3 : w1.cell? ⟨g, k * 4 + 3, none⟩ = some (.int .i64 (m + 1 + 1 + 1)) := (b1.cell (p := ⟨g, k * 4 + 3, none⟩) (World.block_lt_of_cell? _ _ a3')).trans a3'; clear b1)
      all_goals
        go_wp2
        go_roundw
        case rel => exact ⟨k + 1, m + 1 + 1 + 1 + 1, by omega, by go_num, rfl, Lib.hid (by have := HM.out; omega), by omega, by omega, (show Below w.heap.size w wr.drew from below_drewN HB1.out 1).trans (B1.out.mono (show w.heap.size ≤ wr.heap.size from HB1.out.size))⟩
        case measure => simp [intOf]; omega
    · go_wp2_with fail
      go_ret
      exact ⟨ret_int (by have := HM.out; omega), HB1.out⟩
theorem heldTokenS_none (a : Option Addr) (ca : Nat) (w : World) :
    Calls Tryd.prog 22 #[.slice a 0 ca, .int .i64 1] w fun e w' => e = .returned (.int .i64 1) ∧ w = w' := by
  go_enter Tryd.func22, Tryd.ntmps22
  go_wp2
  refine wp_loop_rounds 1 ?_
  rw [rounds_succ]
  go_wp2
  go_ret
  exact ⟨rfl, rfl⟩
end Go.Proofs.YtnenfpbiobmlcaaDoor
