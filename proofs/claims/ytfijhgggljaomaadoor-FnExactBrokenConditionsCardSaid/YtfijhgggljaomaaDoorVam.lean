/- Chapter 8, the model: ways, rings, and the searches for indices. -/
import Derived.Test.YtfijhgggljaomaaDoorVas
import Derived.Deep.CutRange
namespace Go.Proofs.YtfijhgggljaomaaDoor
set_option maxRecDepth 100000
open Go.RowKit
set_option linter.unusedVariables false

def WyRelV (w : World) (o : Obj) (n : Nat) (cs : List Cls) (R : Int × Nat) (c i : Value) (wr : World) : Prop :=
  ∃ (a k : Nat), a ≤ n + 1 ∧ 1 ≤ a ∧ k < n ∧ c = .int .i64 a ∧ i = .int .i64 k ∧ Aft w o wr ∧ Hid ((vwN cs (n + 1 - a) a k, vwL cs (n + 1 - a) k) = R)
def SaysII (w : World) (a : Int) (b : Nat) (e : Ending) (w' : World) : Prop := e = .returned (.tuple #[.int .i64 a, .int .i64 (b : Int)]) ∧ Below w.heap.size w w'
theorem ret_ii {a a' b b' : Int} (h : a = a') (h' : b = b') : Ending.returned (.tuple #[.int .i64 a, .int .i64 b]) = .returned (.tuple #[.int .i64 a', .int .i64 b']) := by rw [h, h']
set_option maxHeartbeats 6400000 in
theorem vaWay_any (s : ByteArray) (ac af : Option Addr) (n cc m cf : Nat) (d : Int) (cs : List Cls) (q : Nat) (w : World) (HI : Hid (InX w ac n (clsCs cs))) (hn : Hid (cs.length = n)) (hm : n ≤ 1048576) (hq : q < n) :
    Calls Tryd.prog 65 #[(.agg #[.string s, .slice ac n cc, .slice af m cf, .int .i64 d]), .int .i64 q] w (SaysII w (vwN cs n 1 q) (vwL cs n q)) := by
  obtain ⟨R1, h1⟩ : ∃ R, vwN cs n 1 q = R := ⟨_, rfl⟩
  obtain ⟨R2, h2⟩ : ∃ R, vwL cs n q = R := ⟨_, rfl⟩
  have H0 : Hid ((vwN cs (n + 1 - 1) 1 q, vwL cs (n + 1 - 1) q) = (R1, R2)) := Lib.hid (by rw [Nat.add_sub_cancel, h1, h2])
  rw [h1, h2]
  have HF := Lib.hid (fun id w HI => cfFind_any s ac af n cc m cf d cs id w HI hn hm)
  clear h1 h2
  go_enter Tryd.func65, Tryd.ntmps65
  go_wp2_with fail
  go_loopw [6, 1] (fun c i wr => WyRelV w (Obj.cells #[.string s, .slice ac n cc, .slice af m cf, .int .i64 d] 32) n cs (R1, R2) c i wr) (fun c _ _ => n + 1 - (intOf c).toNat)
  case atStart => exact ⟨1, q, by omega, Nat.le_refl _, hq, rfl, rfl, Aft.refl _ _, H0⟩
  case round =>
    obtain ⟨a, k, ha, ha1, hkn, rfl, rfl, hb, HP⟩ := hrel
    have HB := Lib.hid hb
    obtain ⟨e0, e1, e2, e3, hgw⟩ := hb.all.1
    by_cases hlt : a ≤ n
    · obtain ⟨x, hx⟩ : ∃ x, cs.getD k cls0 = x := ⟨_, rfl⟩
      have hl1 : k < cs.length := by rw [hn.out]; exact hkn
      have HFx := Lib.hid (HF.out x.p)
      obtain ⟨g, rfl, ht, hg⟩ := HI.out (by omega)
      obtain ⟨_, a1, _⟩ := (ht.below hb.all.2 hg).cls k hl1 x hx
      have HI3 : Hid (InX wr (some ⟨g, 0, none⟩) n (clsCs cs)) := Lib.hid (HI.out.below hb.all.2)
      have hE : n + 1 - a = (n - a) + 1 := by omega
      have HL : Hid (∀ j, fnd cs x.p = Option.some j → (vwN cs (n + 1 - (a + 1)) (a + 1) j, vwL cs (n + 1 - (a + 1)) j) = (R1, R2)) := Lib.hid (fun j hj => by
        have hnx : nx cs k = Option.some j := by unfold nx; rw [hx]; exact hj
        rw [← HP.out, hE, vwN_some hnx, vwL_some hnx, show n + 1 - (a + 1) = n - a by omega])
      have HE : Hid (fnd cs x.p = Option.none → (a : Int) = R1 ∧ k = R2) := Lib.hid (fun hj => by
        have hnx : nx cs k = Option.none := by unfold nx; rw [hx]; exact hj
        have := HP.out
        rw [hE, vwN_none hnx, vwL_none hnx] at this
        exact ⟨congrArg Prod.fst this, congrArg Prod.snd this⟩)
      cases hf : fnd cs x.p with
      | none =>
        rw [fndI_none hf] at HFx
        have HY := Lib.hid (HE.out hf)
        obtain ⟨xi, xp, xr, xe, xb, xu, xo, xl⟩ := x
        simp only at a1 HFx
        clear hx hl1 hf ht hb
        go_wp2_with fail
        go_region_with (go_at_call 66; refine (HFx.out _ (Lib.hid (HI3.out.below (below_drewN (Below.refl _ _) _)))).mono ?_; rintro e w4 ⟨rfl, b4⟩; have B4 := Lib.hid ((below_drewN (Below.refl _ wr) 1).trans b4); clear b4)
        all_goals
          (try go_simp)
          go_wp2
          go_ret2
          exact ⟨ret_ii HY.out.1 (by rw [HY.out.2]), (HB.out.on B4.out).all.2⟩
      | some j =>
        rw [fndI_some hf] at HFx
        have hjn : j < n := by rw [← hn.out]; exact (fnd_get cs x.p j hf).1
        have HY := Lib.hid (HL.out j hf)
        obtain ⟨xi, xp, xr, xe, xb, xu, xo, xl⟩ := x
        simp only at a1 HFx
        have dj := not_lt (show (0 : Int) ≤ (j : Int) by omega)
        clear hx hl1 hf ht hb
        go_wp2_with fail
        go_region_with (go_at_call 66; refine (HFx.out _ (Lib.hid (HI3.out.below (below_drewN (Below.refl _ _) _)))).mono ?_; rintro e w4 ⟨rfl, b4⟩; have B4 := Lib.hid ((below_drewN (Below.refl _ wr) 1).trans b4); clear b4)
        all_goals
          (try go_simp)
          go_wp2
          go_roundw
          case rel => exact ⟨a + 1, j, by omega, by omega, hjn, by go_num, rfl, HB.out.on B4.out, HY⟩
          case measure => simp [intOf]; omega
    · have hE : n + 1 - a = 0 := by omega
      have HY : Hid ((-1 : Int) = R1 ∧ k = R2) := Lib.hid (by
        have := HP.out
        rw [hE] at this
        exact ⟨congrArg Prod.fst this, congrArg Prod.snd this⟩)
      clear hb
      go_wp2_with fail
      go_ret2
      exact ⟨ret_ii HY.out.1 (by rw [HY.out.2]), HB.out.all.2⟩
def CyRelV (w : World) (o : Obj) (n : Nat) (cs : List Cls) (q : Nat) (R : Bool) (i a : Value) (wr : World) : Prop :=
  ∃ (k t : Nat), t ≤ n ∧ k < n ∧ i = .int .i64 k ∧ a = .int .i64 t ∧ Aft w o wr ∧ Hid (vcy cs q (n - t) k = R)
end Go.Proofs.YtfijhgggljaomaaDoor
