/- The model's functions over classes: what is found, children, rates, ways up. -/
import Derived.Test.YtkpocljlmbihcaaDoorCfm
import Derived.Test.YtkpocljlmbihcaaDoorIni
import Derived.Test.YtkpocljlmbihcaaDoorOni
import Derived.LoopTactic
import Derived.WalkMore
import Derived.WalkSmall
import Derived.Deep.RegionWith
import Derived.Deep.QuietTactic
import Derived.Deep.AppendLies
import Derived.BigQuiet
namespace Go.Proofs.YtkpocljlmbihcaaDoor
set_option maxRecDepth 100000
open Go.RowKit
set_option linter.unusedVariables false

/-- an index or -1 -/
def fndI (cs : List Cls) (id : Int) : Int := match fnd cs id with | .none => -1 | .some k => k
theorem fndI_some {cs : List Cls} {id : Int} {k : Nat} (h : fnd cs id = Option.some k) : fndI cs id = k := by unfold fndI; rw [h]
theorem fndI_none {cs : List Cls} {id : Int} (h : fnd cs id = Option.none) : fndI cs id = -1 := by unfold fndI; rw [h]
/-- a world behind the box of a configuration -/
def Aft (w : World) (o : Obj) (wr : World) : Prop := Below (w.alloc o).heap.size (w.alloc o) wr
theorem Aft.all {w wr : World} {a0 a1 a2 a3 : Value} {t : TypeId} (h : Aft w (.cells #[a0, a1, a2, a3] t) wr) : FourIs wr w.heap.size a0 a1 a2 a3 ∧ Below w.heap.size w wr := box_four h
theorem Aft.refl (w : World) (o : Obj) : Aft w o (w.alloc o) := Below.refl _ _
theorem Aft.on {w wr w1 : World} {o : Obj} (h : Aft w o wr) (b : Below wr.heap.size wr w1) : Aft w o w1 := Below.trans h (b.mono (Below.size h))
theorem Aft.up {w wr w1 : World} {o : Obj} (h : Aft w o wr) (b : Below (w.heap.size + 1) wr w1) : Aft w o w1 := Below.trans h (show Below (w.alloc o).heap.size wr w1 by rw [show (w.alloc o).heap.size = w.heap.size + 1 by simp]; exact b)
theorem Aft.alloc {w wr : World} {o : Obj} (h : Aft w o wr) (o' : Obj) : Aft w o (wr.alloc o') := h.on (one_new2 _ _)
def FRel (w : World) (o : Obj) (n : Nat) (cs : List Cls) (id : Int) (i : Value) (wr : World) : Prop := ∃ k : Nat, k ≤ n ∧ i = .int .i64 k ∧ Aft w o wr ∧ ∀ j, j < k → (cs.getD j cls0).i ≠ id
set_option maxHeartbeats 1600000 in
theorem cfFind_any (s : ByteArray) (ac af : Option Addr) (n cc m cf : Nat) (d : Int) (cs : List Cls) (id : Int) (w : World) (HI : Hid (InX w ac n (clsCs cs))) (hn : Hid (cs.length = n)) (hm : n ≤ 1048576) :
    Calls Tryd.prog 58 #[(.agg #[.string s, .slice ac n cc, .slice af m cf, .int .i64 d]), .int .i64 id] w (SaysI w (fndI cs id)) := by
  go_enter Tryd.func58, Tryd.ntmps58
  go_wp2_with fail
  go_loopw [10] (fun i wr => FRel w (Obj.cells #[.string s, .slice ac n cc, .slice af m cf, .int .i64 d] 44) n cs id i wr) (fun i _ => n - (intOf i).toNat)
  case atStart => exact ⟨0, Nat.zero_le _, rfl, Aft.refl _ _, fun j hj => absurd hj (Nat.not_lt_zero j)⟩
  case round =>
    obtain ⟨k, hk, rfl, hb, hno⟩ := hrel
    have HB := Lib.hid hb
    have HN := Lib.hid hno
    clear hno
    by_cases hlt : k < n
    · obtain ⟨g, rfl, ht, hg⟩ := HI.out (by omega)
      obtain ⟨x, hx⟩ : ∃ x, cs.getD k cls0 = x := ⟨_, rfl⟩
      have hl1 : k < cs.length := by rw [hn.out]; exact hlt
      obtain ⟨a0, a1, a2, a3, a4, a5, a6, a7⟩ := (ht.below hb.all.2 hg).cls k hl1 x hx
      by_cases he : x.i = id
      · have HX : Hid (fndI cs id = k) := Lib.hid (fndI_some (fnd_some cs id k hl1 (by rw [hx]; exact he) HN.out))
        obtain ⟨xi, xp, xr, xe, xb, xu, xo, xl⟩ := x
        simp only at a0 a1 a2 a3 a4 a5 a6 a7 he
        have dq : (xi == id) = true := by simpa using he
        clear hb hx hl1 ht he
        go_wp2_with fail
        go_ret
        exact ⟨ret_int HX.out.symm, (HB.out.alloc _).all.2⟩
      · have HX : Hid (∀ j, j < k + 1 → (cs.getD j cls0).i ≠ id) := Lib.hid (fun j hj => by
          rcases Nat.lt_succ_iff_lt_or_eq.1 hj with h | h
          · exact HN.out j h
          · rw [h, hx]; exact he)
        obtain ⟨xi, xp, xr, xe, xb, xu, xo, xl⟩ := x
        simp only at a0 a1 a2 a3 a4 a5 a6 a7 he
        have dq : (xi == id) = false := by simpa using he
        clear hb hx hl1 ht he
        go_wp2_with fail
        go_roundw
        case rel => exact ⟨k + 1, by omega, by go_num, HB.out.alloc _, HX.out⟩
        case measure => simp [intOf]; omega
    · have HX : Hid (fndI cs id = -1) := Lib.hid (fndI_none (fnd_none cs id (fun j hj => HN.out j (by have := hn.out; omega))))
      clear hb
      go_wp2_with fail
      go_ret
      exact ⟨ret_int HX.out.symm, HB.out.all.2⟩

/-! Lists of indices. -/
theorem own_snoc {w wx w1 : World} {B k : Nat} {v v' : Value} {ks : List Nat} {u : Value} (hu : u = .int .i64 (k : Int)) (hb : Below B w wx) (h' : w1.ownsRow B 3 1 v' (ks.length + 1) (nv ks ++ [u])) (hB : B ≤ wx.heap.size) (hg : wx.grownBy w1 v.ownBlock) (hl : ∀ g, v.ownBlock = some g → B ≤ g) :
    w1.ownsRow B 3 1 v' (ks ++ [k]).length (nv (ks ++ [k])) ∧ Below B w w1 := by
  subst hu
  refine ⟨?_, hb.grown hg hB hl⟩
  rw [nv_snoc, List.length_append]
  exact h'
def KRel (w : World) (o : Obj) (n : Nat) (cs : List Cls) (id : Int) (K : List Nat) (out i : Value) (wr : World) : Prop :=
  ∃ (k : Nat) (ks : List Nat), k ≤ n ∧ ks.length ≤ k ∧ i = .int .i64 k ∧ Aft w o wr ∧ wr.ownsRow (w.heap.size + 1) 3 1 out ks.length (nv ks) ∧ Hid (ks ++ kidsF id k (cs.drop k) = K)
def SaysNs (w : World) (K : List Nat) (e : Ending) (w' : World) : Prop := ∃ v, e = .returned v ∧ w'.ownsRow w.heap.size 3 1 v K.length (nv K) ∧ Below w.heap.size w w'
set_option maxHeartbeats 3200000 in
theorem cfKids_any (s : ByteArray) (ac af : Option Addr) (n cc m cf : Nat) (d : Int) (cs : List Cls) (q : Nat) (w : World) (HI : Hid (InX w ac n (clsCs cs))) (hn : Hid (cs.length = n)) (hm : n ≤ 1048576) (hq : q < n) :
    Calls Tryd.prog 57 #[(.agg #[.string s, .slice ac n cc, .slice af m cf, .int .i64 d]), .int .i64 q] w (SaysNs w (kids cs (cs.getD q cls0).i)) := by
  obtain ⟨i0, hi, hz0, hz1, hz2⟩ := info_parts infoI
  obtain ⟨y, hy⟩ : ∃ y, cs.getD q cls0 = y := ⟨_, rfl⟩
  rw [hy]
  obtain ⟨K, hK⟩ : ∃ K, kids cs y.i = K := ⟨_, rfl⟩
  have H0 : Hid ([] ++ kidsF y.i 0 (cs.drop 0) = K) := Lib.hid hK
  rw [hK]
  have HY := Lib.hid hy
  clear hK hy
  go_enter Tryd.func57, Tryd.ntmps57
  go_wp2_with fail
  go_loopw [5, 11] (fun out i wr => KRel w (Obj.cells #[.string s, .slice ac n cc, .slice af m cf, .int .i64 d] 44) n cs y.i K out i wr) (fun _ i _ => n - (intOf i).toNat)
  case atStart => exact ⟨0, [], Nat.zero_le _, Nat.le_refl _, rfl, Aft.refl _ _, (World.ownsRow_nil _ _ _ _ : (w.alloc (Obj.cells #[.string s, .slice ac n cc, .slice af m cf, .int .i64 d] 44)).ownsRow _ 3 1 _ 0 []), H0⟩
  case round =>
    obtain ⟨k, ks, hk, hkl, rfl, hb, ho, HP⟩ := hrel
    have HB := Lib.hid hb
    have HO := Lib.hid ho
    by_cases hlt : k < n
    · obtain ⟨g, rfl, ht, hg⟩ := HI.out (by omega)
      obtain ⟨x, hx⟩ : ∃ x, cs.getD k cls0 = x := ⟨_, rfl⟩
      have hl1 : k < cs.length := by rw [hn.out]; exact hlt
      have ht2 := ht.below hb.all.2 hg
      obtain ⟨a0, a1, a2, a3, a4, a5, a6, a7⟩ := ht2.cls k hl1 x hx
      have hgr : g < wr.heap.size := Nat.lt_of_lt_of_le hg hb.all.2.size
      have b0 := ((ht2.cls q (by rw [hn.out]; exact hq) y HY.out).later hgr).1
      obtain ⟨_, e1, _, _, hgw⟩ := hb.all.1
      have e1' := fun o => ((bcell (one_new2 wr o)).1 _ 1 hgw).trans e1
      have HE := Lib.hid (kidsF_at y.i cs k hl1 x hx)
      obtain ⟨yi, yp, yr, ye, yb, yu, yo, yl⟩ := y
      obtain ⟨xi, xp, xr, xe, xb, xu, xo, xl⟩ := x
      simp only at a0 a1 a2 a3 a4 a5 a6 a7 b0 HE
      clear hb hx hl1 ht ht2 e1
      by_cases he : xp = yi
      · have dq : (xp == yi) = true := by simpa using he
        have HX : Hid ((ks ++ [k]) ++ kidsF yi (k + 1) (cs.drop (k + 1)) = K) := Lib.hid (by rw [← HP.out, HE.out, if_pos he]; simp)
        clear he
        go_wp2_with fail
        go_quiet (fail)
        go_wp2_with (at_builtin; refine wpList_append_own _ rfl _ _ 61 rfl (w.heap.size + 1) 3 i0 (.int .i64 0) 1 8 Tryd.underlying61 hi hz0 hz1 hz2 rfl (by decide) _ _ _ rfl (World.ownsRow.alloc (w := (wr.alloc (Obj.cells #[.int .i64 xi, .int .i64 xp, .int .i64 xr, .int .i64 xe, .int .i64 xb, .int .i64 xu, .int .i64 xo, .int .i64 xl] 26)).drewN nq) (World.ownsRow.alloc HO.out _) _) ⟨wr.heap.size + 1, 0, none⟩ 1 1 [.int .i64 (k : Int)] rfl rfl (by have := one_int ((wr.alloc (Obj.cells #[.int .i64 xi, .int .i64 xp, .int .i64 xr, .int .i64 xe, .int .i64 xb, .int .i64 xu, .int .i64 xo, .int .i64 xl] 26)).drewN nq) (.int .i64 (k : Int)) 3; simpa using this) (by intro u hu; simp at hu; subst hu; rfl) (by unfold maxLen; omega) (by omega) (by have := (HB.out.all).1.2.2.2.2; simp; omega) ?_; intro v' w3 hown1 hgrow1 _)
        have F := Lib.hid (own_snoc rfl ((((Below.refl (w.heap.size + 1) wr).alloc (HB.out.all).1.2.2.2.2 (Obj.cells #[.int .i64 xi, .int .i64 xp, .int .i64 xr, .int .i64 xe, .int .i64 xb, .int .i64 xu, .int .i64 xo, .int .i64 xl] 26)).trans (below_drewN (Below.refl _ _) nq)).alloc (by have := (HB.out.all).1.2.2.2.2; simp; omega) _) hown1 (by have := (HB.out.all).1.2.2.2.2; simp; omega) hgrow1 (fun g h => (World.ownsRow.lt HO.out g h).1))
        clear hown1 hgrow1
        go_roundw
        case rel => exact ⟨k + 1, ks ++ [k], by omega, by simp; omega, by go_num, HB.out.up F.out.2, F.out.1, HX⟩
        case measure => simp [intOf]; omega
      · have dq : (xp == yi) = false := by simpa using he
        have HX : Hid (ks ++ kidsF yi (k + 1) (cs.drop (k + 1)) = K) := Lib.hid (by rw [← HP.out, HE.out, if_neg he])
        clear he
        go_wp2_with fail
        go_quiet (fail)
        go_wp2_with fail
        go_roundw
        case rel => exact ⟨k + 1, ks, by omega, by omega, by go_num, (HB.out.alloc _).on (below_drewN (Below.refl _ _) _), World.ownsRow.alloc HO.out _, HX⟩
        case measure => simp [intOf]; omega
    · have HX : Hid (ks = K) := Lib.hid (by rw [← HP.out, kidsF_end _ cs k (by rw [hn.out]; omega), List.append_nil])
      clear hb ho
      go_wp2_with fail
      go_ret
      exact ⟨_, rfl, by rw [← HX.out]; exact own_base HO.out (Nat.le_succ _), HB.out.all.2⟩
end Go.Proofs.YtkpocljlmbihcaaDoor
