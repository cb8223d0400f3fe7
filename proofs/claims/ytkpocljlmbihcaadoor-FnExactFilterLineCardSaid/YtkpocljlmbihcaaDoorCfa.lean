/- Arguments that are configurations or classes: opened. -/
import Derived.Test.YtkpocljlmbihcaaDoorCfm
import Derived.Lib.SmallJoins
import Derived.Deep.Slices
namespace Go.Proofs.YtkpocljlmbihcaaDoor
set_option maxRecDepth 100000
open Go.RowKit Go.Joins Go.ChangeShapes Go.WideShapes Go.Deep
set_option linter.unusedVariables false

def EightO (w : World) (b off k : Nat) (x : Cls) : Prop := w.cell? ⟨b, off + k * 8, none⟩ = some (.int .i64 x.i) ∧ w.cell? ⟨b, off + k * 8 + 1, none⟩ = some (.int .i64 x.p) ∧ w.cell? ⟨b, off + k * 8 + 2, none⟩ = some (.int .i64 x.r) ∧ w.cell? ⟨b, off + k * 8 + 3, none⟩ = some (.int .i64 x.e) ∧
  w.cell? ⟨b, off + k * 8 + 4, none⟩ = some (.int .i64 x.b) ∧ w.cell? ⟨b, off + k * 8 + 5, none⟩ = some (.int .i64 x.u) ∧ w.cell? ⟨b, off + k * 8 + 6, none⟩ = some (.int .i64 x.o) ∧ w.cell? ⟨b, off + k * 8 + 7, none⟩ = some (.int .i64 x.l)
theorem OffC.cls {w : World} {b off : Nat} {l : List Cls} (h : OffC w b off (clsCs l)) (k : Nat) (hk : k < l.length) (x : Cls) (hx : l.getD k cls0 = x) : EightO w b off k x := by
  subst hx
  have q := fun j (hj : j < 8) => clsCs_get l k j hj hk
  exact ⟨h.at _ ((q 0 (by decide)).trans rfl), h.at _ ((q 1 (by decide)).trans rfl), h.at _ ((q 2 (by decide)).trans rfl), h.at _ ((q 3 (by decide)).trans rfl), h.at _ ((q 4 (by decide)).trans rfl), h.at _ ((q 5 (by decide)).trans rfl), h.at _ ((q 6 (by decide)).trans rfl), h.at _ ((q 7 (by decide)).trans rfl)⟩
def FiveO (w : World) (b off k : Nat) (x : Flt) : Prop := w.cell? ⟨b, off + k * 5, none⟩ = some (.int .i64 x.o) ∧ w.cell? ⟨b, off + k * 5 + 1, none⟩ = some (.int .i64 x.f) ∧ w.cell? ⟨b, off + k * 5 + 2, none⟩ = some (.int .i64 x.m) ∧ w.cell? ⟨b, off + k * 5 + 3, none⟩ = some (.int .i64 x.v) ∧ w.cell? ⟨b, off + k * 5 + 4, none⟩ = some (.int .i64 x.t)
theorem OffC.flt {w : World} {b off : Nat} {l : List Flt} (h : OffC w b off (fltCs l)) (k : Nat) (hk : k < l.length) (x : Flt) (hx : l.getD k flt0 = x) : FiveO w b off k x := by
  subst hx
  have q := fun j (hj : j < 5) => fltCs_get l k j hj hk
  exact ⟨h.at _ ((q 0 (by decide)).trans rfl), h.at _ ((q 1 (by decide)).trans rfl), h.at _ ((q 2 (by decide)).trans rfl), h.at _ ((q 3 (by decide)).trans rfl), h.at _ ((q 4 (by decide)).trans rfl)⟩
section
variable {H : Type} {enc : TypeId × Value → H} {w : World} {base : Nat} {spare : Nat → Bool} {held : Bool}
theorem open_clss {fuel : Nat} {cs : List Value} {x : DataW H × List MemPlace} (h : DataW.trod enc Tryd.prog w base spare held fuel 35 cs = some x) :
    ∃ (a : Option Addr) (len cap : Nat) (l : List Cls), cs = [.slice a len cap] ∧ len ≤ maxLen ∧ l.length = len ∧ ArgX w a len (clsCs l) := by
  obtain ⟨a, len, cap, F, hcs, hm, hF⟩ := open_rows (z := 8) Tryd.underlying35 (by kernel_rfl) rfl (by decide) Tryd.underlying23 (by
    intro i hi
    rcases (show i = 0 ∨ i = 1 ∨ i = 2 ∨ i = 3 ∨ i = 4 ∨ i = 5 ∨ i = 6 ∨ i = 7 by simp at hi; omega) with rfl | rfl | rfl | rfl | rfl | rfl | rfl | rfl <;> exact ⟨_, rfl, rfl, rfl⟩) h
  refine ⟨a, len, cap, (List.range len).map (fun i => ⟨F i 0, F i 1, F i 2, F i 3, F i 4, F i 5, F i 6, F i 7⟩), hcs, hm, by simp, fun hn => ?_⟩
  obtain ⟨b, off, ha, hc, hb⟩ := hF hn
  refine ⟨b, off, ha, fun j hj => ?_, hb⟩
  rw [clsCs_length, List.length_map, List.length_range] at hj
  have q := hc (j / 8) (j % 8) (by omega) (by omega)
  rw [show j / 8 * 8 + j % 8 = j by omega] at q
  have g := clsCs_get ((List.range len).map (fun i => (⟨F i 0, F i 1, F i 2, F i 3, F i 4, F i 5, F i 6, F i 7⟩ : Cls))) (j / 8) (j % 8) (by omega) (by simp; omega)
  rw [show j / 8 * 8 + j % 8 = j by omega] at g
  rw [q, g]
  have e : ((List.range len).map (fun i => (⟨F i 0, F i 1, F i 2, F i 3, F i 4, F i 5, F i 6, F i 7⟩ : Cls))).getD (j / 8) cls0 = ⟨F (j / 8) 0, F (j / 8) 1, F (j / 8) 2, F (j / 8) 3, F (j / 8) 4, F (j / 8) 5, F (j / 8) 6, F (j / 8) 7⟩ := by
    simp [List.getD_eq_getElem?_getD, show j / 8 < len by omega]
  rw [e]
  rcases (show j % 8 = 0 ∨ j % 8 = 1 ∨ j % 8 = 2 ∨ j % 8 = 3 ∨ j % 8 = 4 ∨ j % 8 = 5 ∨ j % 8 = 6 ∨ j % 8 = 7 by omega) with h | h | h | h | h | h | h | h <;> rw [h] <;> rfl
theorem open_flts {fuel : Nat} {cs : List Value} {x : DataW H × List MemPlace} (h : DataW.trod enc Tryd.prog w base spare held fuel 36 cs = some x) :
    ∃ (a : Option Addr) (len cap : Nat) (l : List Flt), cs = [.slice a len cap] ∧ len ≤ maxLen ∧ l.length = len ∧ ArgX w a len (fltCs l) := by
  obtain ⟨a, len, cap, F, hcs, hm, hF⟩ := open_rows (z := 5) Tryd.underlying36 (by kernel_rfl) rfl (by decide) Tryd.underlying30 (by
    intro i hi
    rcases (show i = 0 ∨ i = 1 ∨ i = 2 ∨ i = 3 ∨ i = 4 by simp at hi; omega) with rfl | rfl | rfl | rfl | rfl <;> exact ⟨_, rfl, rfl, rfl⟩) h
  refine ⟨a, len, cap, (List.range len).map (fun i => ⟨F i 0, F i 1, F i 2, F i 3, F i 4⟩), hcs, hm, by simp, fun hn => ?_⟩
  obtain ⟨b, off, ha, hc, hb⟩ := hF hn
  refine ⟨b, off, ha, fun j hj => ?_, hb⟩
  rw [fltCs_length, List.length_map, List.length_range] at hj
  have q := hc (j / 5) (j % 5) (by omega) (by omega)
  rw [show j / 5 * 5 + j % 5 = j by omega] at q
  have g := fltCs_get ((List.range len).map (fun i => (⟨F i 0, F i 1, F i 2, F i 3, F i 4⟩ : Flt))) (j / 5) (j % 5) (by omega) (by simp; omega)
  rw [show j / 5 * 5 + j % 5 = j by omega] at g
  rw [q, g]
  have e : ((List.range len).map (fun i => (⟨F i 0, F i 1, F i 2, F i 3, F i 4⟩ : Flt))).getD (j / 5) flt0 = ⟨F (j / 5) 0, F (j / 5) 1, F (j / 5) 2, F (j / 5) 3, F (j / 5) 4⟩ := by
    simp [List.getD_eq_getElem?_getD, show j / 5 < len by omega]
  rw [e]
  rcases (show j % 5 = 0 ∨ j % 5 = 1 ∨ j % 5 = 2 ∨ j % 5 = 3 ∨ j % 5 = 4 by omega) with h | h | h | h | h <;> rw [h] <;> rfl
/-- an argument that is a configuration -/
def ArgCfg (w : World) (v : Value) (c : Cfg) : Prop :=
  ∃ ac cc af cf, v = .agg #[.string c.s, .slice ac c.cs.length cc, .slice af c.fs.length cf, .int .i64 c.d] ∧ c.s.size ≤ maxLen ∧ c.cs.length ≤ maxLen ∧ c.fs.length ≤ maxLen ∧ ArgX w ac c.cs.length (clsCs c.cs) ∧ ArgX w af c.fs.length (fltCs c.fs)
theorem ArgCfg.below {w w' : World} {v : Value} {c : Cfg} (h : ArgCfg w v c) (hb : Below w.heap.size w w') : ArgCfg w' v c := by
  obtain ⟨ac, cc, af, cf, hv, m0, m1, m2, hc, hf⟩ := h
  exact ⟨ac, cc, af, cf, hv, m0, m1, m2, hc.below hb, hf.below hb⟩
theorem open_cfg {r : Reach} {b0 : Nat} {v : Value} {d : DataW H} {p : List MemPlace} (hv : Value.okWide Tryd.prog w r b0 38 v) (h : DataW.Trod enc Tryd.prog w base spare held 38 v d p) : ∃ c, ArgCfg w v c := by
  obtain ⟨v0, v1, v2, v3, y0, y1, y2, y3, n, rfl, _, _, h0, h1, h2, h3⟩ := open_agg4 Tryd.underlying38 (by kernel_rfl) (by kernel_rfl) hv h
  obtain ⟨s, e0, _, w0⟩ := DataW.trod_string Tryd.underlying9 h0
  obtain ⟨a1, n1, c1, cs, e1, m1, l1, i1⟩ := open_clss h1
  obtain ⟨a2, n2, c2, fs, e2, m2, l2, i2⟩ := open_flts h2
  obtain ⟨x, e3, _, _⟩ := DataW.trod_int Tryd.underlying3 h3
  obtain rfl := (List.cons.inj e0).1
  obtain rfl := (List.cons.inj e1).1
  obtain rfl := (List.cons.inj e2).1
  obtain rfl := (List.cons.inj e3).1
  subst l1 l2
  exact ⟨⟨s, cs, fs, x⟩, a1, c1, a2, c2, rfl, w0, m1, m2, i1, i2⟩
theorem array8 {α : Type} {cs : Array α} (h : cs.size = 8) : ∃ c0 c1 c2 c3 c4 c5 c6 c7, cs = #[c0, c1, c2, c3, c4, c5, c6, c7] := by
  obtain ⟨l⟩ := cs
  match l, h with
  | [c0, c1, c2, c3, c4, c5, c6, c7], _ => exact ⟨c0, c1, c2, c3, c4, c5, c6, c7, rfl⟩
theorem open_cls {r : Reach} {b0 : Nat} {v : Value} {d : DataW H} {p : List MemPlace} (hv : Value.okWide Tryd.prog w r b0 23 v) (h : DataW.Trod enc Tryd.prog w base spare held 23 v d p) : ∃ x : Cls, v = clsV x := by
  obtain ⟨cs, rfl, hsz⟩ := okWide_struct Tryd.underlying23 hv
  obtain ⟨c0, c1, c2, c3, c4, c5, c6, c7, rfl⟩ := array8 (hsz.trans (show Tryd.prog.cellsOf 23 = 8 by kernel_rfl))
  obtain ⟨fuel, hf⟩ := h
  obtain ⟨f, hfj⟩ := open_ints_struct Tryd.underlying23 (by
    intro i hi
    rcases (show i = 0 ∨ i = 1 ∨ i = 2 ∨ i = 3 ∨ i = 4 ∨ i = 5 ∨ i = 6 ∨ i = 7 by simp at hi; omega) with rfl | rfl | rfl | rfl | rfl | rfl | rfl | rfl <;> exact ⟨_, rfl, rfl, rfl⟩) hf
  have q := fun j (hj : j < 8) => hfj j hj
  refine ⟨⟨f 0, f 1, f 2, f 3, f 4, f 5, f 6, f 7⟩, ?_⟩
  have q0 := Option.some.inj (q 0 (by decide))
  have q1 := Option.some.inj (q 1 (by decide))
  have q2 := Option.some.inj (q 2 (by decide))
  have q3 := Option.some.inj (q 3 (by decide))
  have q4 := Option.some.inj (q 4 (by decide))
  have q5 := Option.some.inj (q 5 (by decide))
  have q6 := Option.some.inj (q 6 (by decide))
  have q7 := Option.some.inj (q 7 (by decide))
  rw [q0, q1, q2, q3, q4, q5, q6, q7]
  rfl
end
end Go.Proofs.YtkpocljlmbihcaaDoor
