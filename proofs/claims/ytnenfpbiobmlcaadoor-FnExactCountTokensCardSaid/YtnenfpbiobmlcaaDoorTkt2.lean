/- Arguments that are lists of tokens: opened and measured. -/
import Derived.Test.YtnenfpbiobmlcaaDoorTkt1
import Derived.Deep.Slices
namespace Go.Proofs.YtnenfpbiobmlcaaDoor
set_option maxRecDepth 100000
open Go.RowKit Go.Joins Go.ChangeShapes Go.WideShapes Go.Deep
set_option linter.unusedVariables false

/-- the cells of a list of tokens that lies anywhere -/
def OffT (w : World) (b off : Nat) (l : List Tok) : Prop := ∀ i j, j < 4 → i < l.length → w.cell? ⟨b, off + (i * 4 + j), none⟩ = (tkC (l.getD i tok0))[j]?
def InT (w : World) (a : Option Addr) (l : List Tok) : Prop := l = [] ∨ ∃ b off, a = some ⟨b, off, none⟩ ∧ OffT w b off l
def SzM (l : List Tok) : Prop := ∀ i, i < l.length → (l.getD i tok0).t.size ≤ 9223372036854775807
theorem OffT.four {w : World} {b off : Nat} {l : List Tok} (h : OffT w b off l) (i : Nat) (hi : i < l.length) (x : Tok) (hx : l.getD i tok0 = x) :
    w.cell? ⟨b, off + i * 4, none⟩ = some (.int .i64 x.k) ∧ w.cell? ⟨b, off + i * 4 + 1, none⟩ = some (.int .i64 x.a) ∧ w.cell? ⟨b, off + i * 4 + 2, none⟩ = some (.string x.t) ∧ w.cell? ⟨b, off + i * 4 + 3, none⟩ = some (.int .i64 x.v) := by
  subst hx
  exact ⟨(h i 0 (by decide) hi), (h i 1 (by decide) hi), (h i 2 (by decide) hi), (h i 3 (by decide) hi)⟩
theorem OffT.lt {w : World} {b off : Nat} {l : List Tok} (h : OffT w b off l) (hl : 0 < l.length) : b < w.heap.size :=
  World.block_lt_of_cell? w ⟨b, off + 0 * 4, none⟩ (h.four 0 hl _ rfl).1
theorem OffT.below {w w' : World} {b off B : Nat} {l : List Tok} (h : OffT w b off l) (hb : Below B w w') (hg : b < B) : OffT w' b off l := fun i j hj hi => (hb.cell (p := ⟨b, off + (i * 4 + j), none⟩) hg).trans (h i j hj hi)
theorem InT.below {w w' : World} {a : Option Addr} {l : List Tok} (h : InT w a l) (hb : Below w.heap.size w w') : InT w' a l := by
  rcases h with h | ⟨b, off, ha, h⟩
  · exact .inl h
  · rcases Nat.eq_zero_or_pos l.length with h0 | h0
    · exact .inl (List.eq_nil_of_length_eq_zero h0)
    · exact .inr ⟨b, off, ha, h.below hb (h.lt h0)⟩
section
variable {H : Type} {enc : TypeId × Value → H} {w : World} {base : Nat} {spare : Nat → Bool} {held : Bool}
theorem open_toks {fuel : Nat} {cs : List Value} {x : DataW H × List MemPlace} (h : DataW.trod enc Tryd.prog w base spare held fuel 42 cs = some x) :
    ∃ (a : Option Addr) (len cap : Nat) (l : List Tok), cs = [.slice a len cap] ∧ len ≤ maxLen ∧ l.length = len ∧ InT w a l ∧ SzM l := by
  rcases open_slice Tryd.underlying42 h with ⟨h0, _⟩ | ⟨a, len, cap, m, n, D, Pl, hcs, hb, hl, hm, hmm, hx, hi⟩
  · exact ⟨none, 0, 0, [], h0, Nat.zero_le _, rfl, .inl rfl, fun i hi => absurd hi (by simp)⟩
  · have hC : Tryd.prog.cellsOf 37 = 4 := by kernel_rfl
    have hlm : len ≤ m := by rw [hmm]; split <;> omega
    have each : ∀ i : Nat, ∃ y : Tok, i < len → (y.t.size ≤ maxLen ∧ ∀ j, j < 4 → w.cell? (a.add (i * 4 + j)) = (tkC y)[j]?) := by
      intro i
      by_cases hil : i < len
      · obtain ⟨cs', hc, ht⟩ := hi i (by omega)
        rw [hC] at hc
        obtain ⟨_, hcl, hat⟩ := World.cells?_some hc
        obtain ⟨y0, y1, y2, y3, n', _, _, h0, h1, h2, h3⟩ := trod_struct4 Tryd.underlying37 ht
        match cs', hcl with
        | [c0, c1, c2, c3], _ =>
          obtain ⟨k, e0, _, w0⟩ := DataW.trod_int (P := Tryd.prog) (t := 3) Tryd.underlying3 (show DataW.trod enc Tryd.prog w base spare held n' 3 [c0] = some y0 from h0)
          obtain ⟨p, e1, _, w1⟩ := DataW.trod_int (P := Tryd.prog) (t := 3) Tryd.underlying3 (show DataW.trod enc Tryd.prog w base spare held n' 3 [c1] = some y1 from h1)
          obtain ⟨s, e2, _, w2⟩ := DataW.trod_string (P := Tryd.prog) (t := 9) Tryd.underlying9 (show DataW.trod enc Tryd.prog w base spare held n' 9 [c2] = some y2 from h2)
          obtain ⟨v, e3, _, w3⟩ := DataW.trod_int (P := Tryd.prog) (t := 3) Tryd.underlying3 (show DataW.trod enc Tryd.prog w base spare held n' 3 [c3] = some y3 from h3)
          obtain rfl := (List.cons.inj e0).1
          obtain rfl := (List.cons.inj e1).1
          obtain rfl := (List.cons.inj e2).1
          obtain rfl := (List.cons.inj e3).1
          refine ⟨⟨k, p, s, v⟩, fun _ => ⟨w2, fun j hj => ?_⟩⟩
          rw [← add_add, hat j hj]
          rfl
      · exact ⟨tok0, fun h => absurd h hil⟩
    obtain ⟨f, hf⟩ := Classical.axiomOfChoice each
    have hlen : ((List.range len).map f).length = len := by simp
    have hget : ∀ i, i < len → ((List.range len).map f).getD i tok0 = f i := fun i hil => by simp [List.getD_eq_getElem?_getD, hil]
    refine ⟨some a, len, cap, (List.range len).map f, hcs, Nat.le_trans hl hm, hlen, ?_, fun i hil => ?_⟩
    · rcases Nat.eq_zero_or_pos len with h0 | h0
      · subst h0; exact .inl rfl
      · obtain ⟨b, off, spot⟩ := a
        have h00 := (hf 0 h0).2 0 (by decide)
        have hspot : spot = none := World.cell?_spot (show w.cell? ⟨b, off, spot⟩ = some (.int .i64 (f 0).k) from h00)
        subst hspot
        refine .inr ⟨b, off, rfl, fun i j hj hi' => ?_⟩
        rw [hlen] at hi'
        rw [hget i hi', ← add_plain]
        exact (hf i hi').2 j hj
    · rw [hlen] at hil
      rw [hget i hil]
      exact (hf i hil).1
end
/-- a measure of a list -/
def SaysZ (w : World) (l : List Tok) (e : Ending) (w' : World) : Prop :=
  ∃ r : Int, e = .returned (.int .i64 r) ∧ Below w.heap.size w w' ∧ (0 ≤ r → l.length ≤ 1048576 ∧ SzT l)
def ZRel (w : World) (l : List Tok) (n : Nat) (i m : Value) (wr : World) : Prop :=
  ∃ (k : Nat) (r : Int), k ≤ n ∧ i = .int .i64 k ∧ m = .int .i64 r ∧ 0 ≤ r ∧ r ≤ 1048576 ∧ Below w.heap.size w wr ∧ ∀ j, j < k → (l.getD j tok0).t.size ≤ 1048576
set_option maxHeartbeats 3200000 in
theorem szTokenS_go (b off n c : Nat) (l : List Tok) (w : World) (HI : Hid (OffT w b off l)) (hn : Hid (l.length = n)) (h0 : 0 < n) (hm : n ≤ 1048576) (HM : Hid (SzM l)) :
    Calls Tryd.prog 27 #[.slice (some ⟨b, off, none⟩) n c, .int .i64 1048576] w (SaysZ w l) := by
  have d : decide ((1048576 : Int) - (n : Int) < 0) = false := not_lt (by omega)
  have hbw := HI.out.lt (by rw [hn.out]; exact h0)
  go_enter Tryd.func27, Tryd.ntmps27
  go_wp2_with fail
  go_loopw [5, 1] (fun i m wr => ZRel w l n i m wr) (fun i _ _ => n - (intOf i).toNat)
  case atStart => exact ⟨0, 1048576 - n, Nat.zero_le _, rfl, rfl, by omega, by omega, Below.refl _ _, fun j hj => absurd hj (Nat.not_lt_zero j)⟩
  case round =>
    obtain ⟨k, r, hk, rfl, rfl, hr0, hr1, hb, hp⟩ := hrel
    have HR := Lib.hid hb
    have HP := Lib.hid hp
    clear hp
    by_cases hlt : k < n
    · obtain ⟨x, hx⟩ : ∃ x, l.getD k tok0 = x := ⟨_, rfl⟩
      have hl1 : k < l.length := by rw [hn.out]; exact hlt
      obtain ⟨a0, a1, a2, a3⟩ := (HI.out.below hb hbw).four k hl1 x hx
      have hxm := HM.out k hl1
      rw [hx] at hxm
      have HX := Lib.hid hx
      obtain ⟨xk, xa, xt, xv⟩ := x
      have hxm2 : xt.size ≤ 9223372036854775807 := hxm
      have HS := Lib.hid (fun w => szToken_any xk xa xv r xt w hxm2 hr0 hr1)
      clear hb hx hl1 hxm hxm2
      by_cases h : r - xt.size < 0
      · have e : lessT r xt = -1 := if_pos h
        rw [e] at HS
        clear e h
        go_wp2_with (go_at_call 23; refine (HS.out _).mono ?_; rintro e w1 ⟨rfl, b1⟩; have B1 := Lib.hid b1; clear b1)
        go_ret
        exact ⟨-1, rfl, HR.out.trans (B1.out.mono HR.out.size), fun h => absurd h (by omega)⟩
      · have e : lessT r xt = r - xt.size := if_neg h
        have d2 := not_lt (Int.not_lt.1 h)
        have h3 : xt.size ≤ 1048576 := by omega
        have h4 : 0 ≤ r - xt.size ∧ r - xt.size ≤ 1048576 := by omega
        have H34 := Lib.hid (And.intro h3 h4)
        rw [e] at HS
        clear e h h3 h4
        go_wp2_with (go_at_call 23; refine (HS.out _).mono ?_; rintro e w1 ⟨rfl, b1⟩; have B1 := Lib.hid b1; clear b1)
        go_roundw
        case rel =>
          refine ⟨k + 1, r - xt.size, by omega, by go_num, rfl, H34.out.2.1, H34.out.2.2, HR.out.trans (B1.out.mono HR.out.size), fun j hj => ?_⟩
          rcases Nat.lt_succ_iff_lt_or_eq.1 hj with hj | hj
          · exact HP.out j hj
          · rw [hj, HX.out]; exact H34.out.1
        case measure => simp [intOf]; omega
    · go_wp2_with fail
      go_ret
      exact ⟨r, rfl, HR.out, fun _ => ⟨by rw [hn.out]; exact hm, fun j hj => HP.out j (by have := hn.out; omega)⟩⟩
end Go.Proofs.YtnenfpbiobmlcaaDoor
