/- Arguments that are configurations or classes: opened. -/
import Derived.Test.YtfniajfhcifcbaaDoorCfm
import Derived.Lib.SmallJoins
import Derived.Deep.Slices
namespace Go.Proofs.YtfniajfhcifcbaaDoor
set_option maxRecDepth 100000
open Go.RowKit Go.Joins Go.ChangeShapes Go.WideShapes Go.Deep
set_option linter.unusedVariables false

/-- a row of cells from a place on -/
def OffC (w : World) (b off : Nat) (xs : List Value) : Prop := ∀ j, j < xs.length → w.cell? ⟨b, off + j, none⟩ = xs[j]?
/-- an argument's slice leads to a row -/
def ArgX (w : World) (ad : Option Addr) (n : Nat) (xs : List Value) : Prop := 0 < n → ∃ b off, ad = some ⟨b, off, none⟩ ∧ OffC w b off xs ∧ b < w.heap.size
theorem OffC.below {w w' : World} {b off B : Nat} {xs : List Value} (h : OffC w b off xs) (hb : Below B w w') (hg : b < B) : OffC w' b off xs := fun j hj => (hb.cell (p := ⟨b, off + j, none⟩) hg).trans (h j hj)
theorem ArgX.below {w w' : World} {ad : Option Addr} {n : Nat} {xs : List Value} (h : ArgX w ad n xs) (hb : Below w.heap.size w w') : ArgX w' ad n xs := fun hn => by
  obtain ⟨b, off, ha, ht, hg⟩ := h hn
  exact ⟨b, off, ha, ht.below hb hg, Nat.lt_of_lt_of_le hg hb.size⟩
theorem OffC.at {w : World} {b off : Nat} {xs : List Value} (h : OffC w b off xs) (j : Nat) {u : Value} (hu : xs[j]? = some u) : w.cell? ⟨b, off + j, none⟩ = some u := by
  rw [h j (by have := List.getElem?_eq_some_iff.1 hu; exact this.1)]; exact hu
def EightO (w : World) (b off k : Nat) (x : Cls) : Prop := w.cell? ⟨b, off + k * 8, none⟩ = some (.int .i64 x.i) ∧ w.cell? ⟨b, off + k * 8 + 1, none⟩ = some (.int .i64 x.p) ∧ w.cell? ⟨b, off + k * 8 + 2, none⟩ = some (.int .i64 x.r) ∧ w.cell? ⟨b, off + k * 8 + 3, none⟩ = some (.int .i64 x.e) ∧
  w.cell? ⟨b, off + k * 8 + 4, none⟩ = some (.int .i64 x.b) ∧ w.cell? ⟨b, off + k * 8 + 5, none⟩ = some (.int .i64 x.u) ∧ w.cell? ⟨b, off + k * 8 + 6, none⟩ = some (.int .i64 x.o) ∧ w.cell? ⟨b, off + k * 8 + 7, none⟩ = some (.int .i64 x.l)
theorem OffC.cls {w : World} {b off : Nat} {l : List Cls} (h : OffC w b off (clsCs l)) (k : Nat) (hk : k < l.length) (x : Cls) (hx : l.getD k cls0 = x) : EightO w b off k x := by
  subst hx
  have q := fun j (hj : j < 8) => clsCs_get l k j hj hk
  exact ⟨h.at _ ((q 0 (by decide)).trans rfl), h.at _ ((q 1 (by decide)).trans rfl), h.at _ ((q 2 (by decide)).trans rfl), h.at _ ((q 3 (by decide)).trans rfl), h.at _ ((q 4 (by decide)).trans rfl), h.at _ ((q 5 (by decide)).trans rfl), h.at _ ((q 6 (by decide)).trans rfl), h.at _ ((q 7 (by decide)).trans rfl)⟩
def FiveO (w : World) (b off k : Nat) (x : Flt) : Prop := w.cell? ⟨b, off + k * 5, none⟩ = some (.int .i64 x.o) ∧ w.cell? ⟨b, off + k * 5 + 1, none⟩ = some (.int .i64 x.f) ∧ w.cell? ⟨b, off + k * 5 + 2, none⟩ = some (.int .i64 x.m) ∧ w.cell? ⟨b, off + k * 5 + 3, none⟩ = some (.int .i64 x.v) ∧ w.cell? ⟨b, off + k * 5 + 4, none⟩ = some (.int .i64 x.t)
theorem OffC.flt {w : World} {b off : Nat} {l : List Flt} (h : OffC w b off (fltCs l)) (k : Nat) (hk : k < l.length) (x : Flt) (hx : l.getD k flt0 = x) : FiveO w b off k x := by
  subst hx
  have q := fun j (hj : j < 5) => fltCs_get l k j hj hk
  exact ⟨h.at _ ((q 0 (by decide)).trans rfl), h.at _ ((q 1 (by decide)).trans rfl), h.at _ ((q 2 (by decide)).trans rfl), h.at _ ((q 3 (by decide)).trans rfl), h.at _ ((q 4 (by decide)).trans rfl)⟩
section
variable {H : Type} {enc : TypeId × Value → H} {w : World} {base : Nat} {spare : Nat → Bool} {held : Bool}
/-- a struct of integers -/
theorem open_ints_struct {t : TypeId} {fs : Array Field} {fuel : Nat} {cs : List Value} {x : DataW H × List MemPlace} (ht : Tryd.prog.underlying t = some (.struct fs)) (hf : ∀ i, i < fs.size → ∃ f, fs[i]? = some f ∧ f.type = 3 ∧ f.offset = i)
    (h : DataW.trod enc Tryd.prog w base spare held fuel t cs = some x) : ∃ f : Nat → Int, ∀ j, j < fs.size → cs[j]? = some (.int .i64 (f j)) := by
  obtain ⟨xs, n, _, _, hl, hlen, hg⟩ := DataW.trod_struct ht h
  have each : ∀ j : Nat, ∃ y : Int, j < fs.size → cs[j]? = some (.int .i64 y) := by
    intro j
    by_cases hj : j < fs.size
    · obtain ⟨f, hfi, hty, hof⟩ := hf j hj
      have q := hg j f hfi
      rw [hty, hof, show Tryd.prog.cellsOf 3 = 1 by kernel_rfl, List.getElem?_eq_getElem (show j < xs.length by omega)] at q
      obtain ⟨k, e0, _, _⟩ := DataW.trod_int (P := Tryd.prog) (t := 3) Tryd.underlying3 q
      refine ⟨k, fun _ => ?_⟩
      have := congrArg (fun l => l[0]?) e0
      simpa [List.getElem?_take, List.getElem?_drop] using this
    · exact ⟨0, fun h => absurd h hj⟩
  obtain ⟨f, hf⟩ := Classical.axiomOfChoice each
  exact ⟨f, hf⟩
/-- a slice of structs of integers -/
theorem open_rows {z : Nat} {tS tE : TypeId} {fs : Array Field} (hu : Tryd.prog.underlying tS = some (.slice tE)) (hC : Tryd.prog.cellsOf tE = z) (hz : fs.size = z) (h0 : 0 < z) (ht : Tryd.prog.underlying tE = some (.struct fs)) (hf : ∀ i, i < fs.size → ∃ f, fs[i]? = some f ∧ f.type = 3 ∧ f.offset = i)
    {fuel : Nat} {cs : List Value} {x : DataW H × List MemPlace} (h : DataW.trod enc Tryd.prog w base spare held fuel tS cs = some x) :
    ∃ (a : Option Addr) (len cap : Nat) (F : Nat → Nat → Int), cs = [.slice a len cap] ∧ len ≤ maxLen ∧
      (0 < len → ∃ b off, a = some ⟨b, off, none⟩ ∧ (∀ i j, i < len → j < z → w.cell? ⟨b, off + (i * z + j), none⟩ = some (.int .i64 (F i j))) ∧ b < w.heap.size) := by
  rcases open_slice hu h with ⟨h0, _⟩ | ⟨a, len, cap, m, n, D, Pl, hcs, hb, hl, hm, hmm, hx, hi⟩
  · exact ⟨none, 0, 0, fun _ _ => 0, h0, Nat.zero_le _, fun h => absurd h (by omega)⟩
  · have hlm : len ≤ m := by rw [hmm]; split <;> omega
    have each : ∀ i : Nat, ∃ y : Nat → Int, i < len → ∀ j, j < z → w.cell? (a.add (i * z + j)) = some (.int .i64 (y j)) := by
      intro i
      by_cases hil : i < len
      · obtain ⟨cs', hc, hT⟩ := hi i (by omega)
        rw [hC] at hc
        obtain ⟨_, hcl, hat⟩ := World.cells?_some hc
        obtain ⟨f, hfj⟩ := open_ints_struct ht hf hT
        refine ⟨f, fun _ j hj => ?_⟩
        rw [← add_add, hat j hj]
        exact hfj j (by omega)
      · exact ⟨fun _ => 0, fun h => absurd h hil⟩
    obtain ⟨F, hF⟩ := Classical.axiomOfChoice each
    refine ⟨some a, len, cap, F, hcs, Nat.le_trans hl hm, fun hn => ?_⟩
    obtain ⟨b, off, spot⟩ := a
    have h00 := hF 0 hn 0 h0
    have hspot : spot = none := World.cell?_spot (show w.cell? ⟨b, off, spot⟩ = some (.int .i64 (F 0 0)) by rw [Nat.zero_mul] at h00; exact h00)
    subst hspot
    refine ⟨b, off, rfl, fun i j hi' hj => ?_, ?_⟩
    · rw [← add_plain]; exact hF i hi' j hj
    · exact World.block_lt_of_cell? w ⟨b, off + (0 * z + 0), none⟩ (by rw [← add_plain]; exact h00)
theorem open_clss {fuel : Nat} {cs : List Value} {x : DataW H × List MemPlace} (h : DataW.trod enc Tryd.prog w base spare held fuel 22 cs = some x) :
    ∃ (a : Option Addr) (len cap : Nat) (l : List Cls), cs = [.slice a len cap] ∧ len ≤ maxLen ∧ l.length = len ∧ ArgX w a len (clsCs l) := by
  obtain ⟨a, len, cap, F, hcs, hm, hF⟩ := open_rows (z := 8) Tryd.underlying22 (by kernel_rfl) rfl (by decide) Tryd.underlying50 (by
    intro i hi
    rcases (show i = 0 ∨ i = 1 ∨ i = 2 ∨ i = 3 ∨ i = 4 ∨ i = 5 ∨ i = 6 ∨ i = 7 by simp at hi; omega) with rfl | rfl | rfl | rfl | rfl | rfl | rfl | rfl <;> exact ⟨_, rfl, rfl, rfl⟩) h
  refine ⟨a, len, cap, (List.range len).map (fun i => ⟨F i 0, F i 1, F i 2, F i 3, F i 4, F i 5, F i 6, F i 7⟩), hcs, hm, by simp, fun hn => ?_⟩
  obtain ⟨b, off, ha, hc, hb⟩ := hF hn
  refine ⟨b, off, ha, fun j hj => ?_, hb⟩
  rw [clsCs_length, List.length_map, List.length_range] at hj
  have q := hc (j / 8) (j % 8) (by omega) (by omega)
  rw [show j / 8 * 8 + j % 8 = j by omega] at q
  have g := clsCs_get ((List.range len).map (fun i => (⟨F i 0, F i 1, F i 2, F i 3, F i 4, F i 5, F i 6, F i 7⟩ : Cls))) (j / 8) (j % 8) (by omega) (by simp; omega)
  rw [show j / 8 * 8 + j % 8 = j by omega] at g
  rw [q, g]
  have e : ((List.range len).map (fun i => (⟨F i 0, F i 1, F i 2, F i 3, F i 4, F i 5, F i 6, F i 7⟩ : Cls))).getD (j / 8) cls0 = ⟨F (j / 8) 0, F (j / 8) 1, F (j / 8) 2, F (j / 8) 3, F (j / 8) 4, F (j / 8) 5, F (j / 8) 6, F (j / 8) 7⟩ := by
    simp [List.getD_eq_getElem?_getD, show j / 8 < len by omega]
  rw [e]
  rcases (show j % 8 = 0 ∨ j % 8 = 1 ∨ j % 8 = 2 ∨ j % 8 = 3 ∨ j % 8 = 4 ∨ j % 8 = 5 ∨ j % 8 = 6 ∨ j % 8 = 7 by omega) with h | h | h | h | h | h | h | h <;> rw [h] <;> rfl
theorem open_flts {fuel : Nat} {cs : List Value} {x : DataW H × List MemPlace} (h : DataW.trod enc Tryd.prog w base spare held fuel 23 cs = some x) :
    ∃ (a : Option Addr) (len cap : Nat) (l : List Flt), cs = [.slice a len cap] ∧ len ≤ maxLen ∧ l.length = len ∧ ArgX w a len (fltCs l) := by
  obtain ⟨a, len, cap, F, hcs, hm, hF⟩ := open_rows (z := 5) Tryd.underlying23 (by kernel_rfl) rfl (by decide) Tryd.underlying90 (by
    intro i hi
    rcases (show i = 0 ∨ i = 1 ∨ i = 2 ∨ i = 3 ∨ i = 4 by simp at hi; omega) with rfl | rfl | rfl | rfl | rfl <;> exact ⟨_, rfl, rfl, rfl⟩) h
  refine ⟨a, len, cap, (List.range len).map (fun i => ⟨F i 0, F i 1, F i 2, F i 3, F i 4⟩), hcs, hm, by simp, fun hn => ?_⟩
  obtain ⟨b, off, ha, hc, hb⟩ := hF hn
  refine ⟨b, off, ha, fun j hj => ?_, hb⟩
  rw [fltCs_length, List.length_map, List.length_range] at hj
  have q := hc (j / 5) (j % 5) (by omega) (by omega)
  rw [show j / 5 * 5 + j % 5 = j by omega] at q
  have g := fltCs_get ((List.range len).map (fun i => (⟨F i 0, F i 1, F i 2, F i 3, F i 4⟩ : Flt))) (j / 5) (j % 5) (by omega) (by simp; omega)
  rw [show j / 5 * 5 + j % 5 = j by omega] at g
  rw [q, g]
  have e : ((List.range len).map (fun i => (⟨F i 0, F i 1, F i 2, F i 3, F i 4⟩ : Flt))).getD (j / 5) flt0 = ⟨F (j / 5) 0, F (j / 5) 1, F (j / 5) 2, F (j / 5) 3, F (j / 5) 4⟩ := by
    simp [List.getD_eq_getElem?_getD, show j / 5 < len by omega]
  rw [e]
  rcases (show j % 5 = 0 ∨ j % 5 = 1 ∨ j % 5 = 2 ∨ j % 5 = 3 ∨ j % 5 = 4 by omega) with h | h | h | h | h <;> rw [h] <;> rfl
/-- an argument that is a configuration -/
def ArgCfg (w : World) (v : Value) (c : Cfg) : Prop :=
  ∃ ac cc af cf, v = .agg #[.string c.s, .slice ac c.cs.length cc, .slice af c.fs.length cf, .int .i64 c.d] ∧ c.s.size ≤ maxLen ∧ c.cs.length ≤ maxLen ∧ c.fs.length ≤ maxLen ∧ ArgX w ac c.cs.length (clsCs c.cs) ∧ ArgX w af c.fs.length (fltCs c.fs)
theorem ArgCfg.below {w w' : World} {v : Value} {c : Cfg} (h : ArgCfg w v c) (hb : Below w.heap.size w w') : ArgCfg w' v c := by
  obtain ⟨ac, cc, af, cf, hv, m0, m1, m2, hc, hf⟩ := h
  exact ⟨ac, cc, af, cf, hv, m0, m1, m2, hc.below hb, hf.below hb⟩
theorem open_cfg {r : Reach} {b0 : Nat} {v : Value} {d : DataW H} {p : List MemPlace} (hv : Value.okWide Tryd.prog w r b0 25 v) (h : DataW.Trod enc Tryd.prog w base spare held 25 v d p) : ∃ c, ArgCfg w v c := by
  obtain ⟨v0, v1, v2, v3, y0, y1, y2, y3, n, rfl, _, _, h0, h1, h2, h3⟩ := open_agg4 Tryd.underlying25 (by kernel_rfl) (by kernel_rfl) hv h
  obtain ⟨s, e0, _, w0⟩ := DataW.trod_string Tryd.underlying9 h0
  obtain ⟨a1, n1, c1, cs, e1, m1, l1, i1⟩ := open_clss h1
  obtain ⟨a2, n2, c2, fs, e2, m2, l2, i2⟩ := open_flts h2
  obtain ⟨x, e3, _, _⟩ := DataW.trod_int Tryd.underlying3 h3
  obtain rfl := (List.cons.inj e0).1
  obtain rfl := (List.cons.inj e1).1
  obtain rfl := (List.cons.inj e2).1
  obtain rfl := (List.cons.inj e3).1
  subst l1 l2
  exact ⟨⟨s, cs, fs, x⟩, a1, c1, a2, c2, rfl, w0, m1, m2, i1, i2⟩
theorem array8 {α : Type} {cs : Array α} (h : cs.size = 8) : ∃ c0 c1 c2 c3 c4 c5 c6 c7, cs = #[c0, c1, c2, c3, c4, c5, c6, c7] := by
  obtain ⟨l⟩ := cs
  match l, h with
  | [c0, c1, c2, c3, c4, c5, c6, c7], _ => exact ⟨c0, c1, c2, c3, c4, c5, c6, c7, rfl⟩
theorem open_cls {r : Reach} {b0 : Nat} {v : Value} {d : DataW H} {p : List MemPlace} (hv : Value.okWide Tryd.prog w r b0 50 v) (h : DataW.Trod enc Tryd.prog w base spare held 50 v d p) : ∃ x : Cls, v = clsV x := by
  obtain ⟨cs, rfl, hsz⟩ := okWide_struct Tryd.underlying50 hv
  obtain ⟨c0, c1, c2, c3, c4, c5, c6, c7, rfl⟩ := array8 (hsz.trans (show Tryd.prog.cellsOf 50 = 8 by kernel_rfl))
  obtain ⟨fuel, hf⟩ := h
  obtain ⟨f, hfj⟩ := open_ints_struct Tryd.underlying50 (by
    intro i hi
    rcases (show i = 0 ∨ i = 1 ∨ i = 2 ∨ i = 3 ∨ i = 4 ∨ i = 5 ∨ i = 6 ∨ i = 7 by simp at hi; omega) with rfl | rfl | rfl | rfl | rfl | rfl | rfl | rfl <;> exact ⟨_, rfl, rfl, rfl⟩) hf
  have q := fun j (hj : j < 8) => hfj j hj
  refine ⟨⟨f 0, f 1, f 2, f 3, f 4, f 5, f 6, f 7⟩, ?_⟩
  have q0 := Option.some.inj (q 0 (by decide))
  have q1 := Option.some.inj (q 1 (by decide))
  have q2 := Option.some.inj (q 2 (by decide))
  have q3 := Option.some.inj (q 3 (by decide))
  have q4 := Option.some.inj (q 4 (by decide))
  have q5 := Option.some.inj (q 5 (by decide))
  have q6 := Option.some.inj (q 6 (by decide))
  have q7 := Option.some.inj (q 7 (by decide))
  rw [q0, q1, q2, q3, q4, q5, q6, q7]
  rfl
end
end Go.Proofs.YtfniajfhcifcbaaDoor
