import Derived.Test.YthgbhnedfdnfpaaDoorPkg
import Derived.Laws.BitsAllLaws
import Derived.Test.YthgbhnedfdnfpaaDoorPka
/- The model's functions over classes: ways up, what is valid by itself. -/
namespace Go.Proofs.YthgbhnedfdnfpaaDoor
set_option maxRecDepth 100000
open Go.RowKit
set_option linter.unusedVariables false

def lenV : Value → Nat
  | .slice _ n _ => n
  | _ => 0
def UpRel (w : World) (o : Obj) (n : Nat) (cs : List Cls) (U : List Nat) (i out : Value) (wr : World) : Prop :=
  ∃ (v : Int) (ks : List Nat), i = .int .i64 v ∧ ks.length ≤ 9 ∧ Aft w o wr ∧ wr.ownsRow (w.heap.size + 1) 3 1 out ks.length (nv ks) ∧
    ((v = -1 ∧ Hid (ks = U)) ∨ ∃ k : Nat, k < n ∧ v = k ∧ Hid (ks ++ up cs (9 - ks.length) k = U))
theorem up_step (cs : List Cls) (f k : Nat) : up cs (f + 1) k = k :: (match fnd cs (cs.getD k cls0).p with | .none => [] | .some j => up cs f j) := rfl
set_option maxHeartbeats 6400000 in
theorem cfUp_any (s : ByteArray) (ac af : Option Addr) (n cc m cf : Nat) (d : Int) (cs : List Cls) (q : Nat) (w : World) (HI : Hid (InX w ac n (clsCs cs))) (hn : Hid (cs.length = n)) (hm : n ≤ 1048576) (hq : q < n) :
    Calls Tryd.prog 25 #[(.agg #[.string s, .slice ac n cc, .slice af m cf, .int .i64 d]), .int .i64 q] w (SaysNs w (up cs 9 q)) := by
  obtain ⟨i0, hi, hz0, hz1, hz2⟩ := info_parts infoI
  obtain ⟨U, hU⟩ : ∃ U, up cs 9 q = U := ⟨_, rfl⟩
  have H0 : Hid ([] ++ up cs (9 - 0) q = U) := Lib.hid hU
  rw [hU]
  have HF := Lib.hid (fun id w HI => cfFind_any s ac af n cc m cf d cs id w HI hn hm)
  clear hU
  go_enter Tryd.func25, Tryd.ntmps25
  go_wp2_with fail
  go_loopw [1, 5] (fun i out wr => UpRel w (Obj.cells #[.string s, .slice ac n cc, .slice af m cf, .int .i64 d] 26) n cs U i out wr) (fun _ out _ => 10 - lenV out)
  case atStart => exact ⟨q, [], rfl, Nat.zero_le _, Aft.refl _ _, (World.ownsRow_nil _ _ _ _ : (w.alloc (Obj.cells #[.string s, .slice ac n cc, .slice af m cf, .int .i64 d] 26)).ownsRow _ 3 1 _ 0 []), .inr ⟨q, hq, rfl, H0⟩⟩
  case round =>
    obtain ⟨v, ks, rfl, hk9, hb, ho, hv⟩ := hrel
    have HB := Lib.hid hb
    have HO := Lib.hid ho
    obtain ⟨ad, cO, rfl, _⟩ := own_in ho
    rcases hv with ⟨rfl, HX⟩ | ⟨k, hkn, rfl, HX⟩
    · clear hb ho
      go_wp2_with fail
      go_ret
      exact ⟨_, rfl, by rw [← HX.out]; exact own_base HO.out (Nat.le_succ _), HB.out.all.2⟩
    · by_cases h9 : ks.length ≤ 8
      · obtain ⟨x, hx⟩ : ∃ x, cs.getD k cls0 = x := ⟨_, rfl⟩
        have hl1 : k < cs.length := by rw [hn.out]; exact hkn
        have hU : ks ++ k :: (match fnd cs x.p with | .none => [] | .some j => up cs (8 - ks.length) j) = U := by
          have := HX.out
          rw [show 9 - ks.length = (8 - ks.length) + 1 by omega, up_step, hx] at this
          exact this
        have HFx := Lib.hid (HF.out x.p)
        have HU := Lib.hid hU
        have d8 : decide ((ks.length : Int) ≤ 8) = true := is_le (by omega)
        have d0 : decide ((0 : Int) ≤ (k : Int)) = true := is_le (by omega)
        clear hb ho hU
        go_wp2_with (at_builtin; refine wpList_append_own _ rfl _ _ 29 rfl (w.heap.size + 1) 3 i0 (.int .i64 0) 1 8 Tryd.underlying29 hi hz0 hz1 hz2 rfl (by decide) _ _ _ rfl (World.ownsRow.alloc HO.out _) ⟨wr.heap.size, 0, none⟩ 1 1 [.int .i64 (k : Int)] rfl rfl (by have := one_int wr (.int .i64 (k : Int)) 3; simpa using this) (by intro u hu; simp at hu; subst hu; rfl) (by unfold maxLen; omega) (by omega) (by have := (HB.out.all).1.2.2.2.2; simp; omega) ?_; intro v' w3 hown1 hgrow1 _; have F := Lib.hid (own_snoc rfl ((Below.refl (w.heap.size + 1) wr).alloc (HB.out.all).1.2.2.2.2 (.cells #[.int .i64 (k : Int)] 3)) hown1 (by have := (HB.out.all).1.2.2.2.2; simp; omega) hgrow1 (fun g h => (World.ownsRow.lt HO.out g h).1)); have HB3 := Lib.hid (HB.out.up F.out.2); obtain ⟨ad3, c3, hv3, _⟩ := own_in F.out.1; clear hown1 hgrow1; refine Hid.out ?_)
        refine Lib.hid ?_
        have O3 : Hid (w3.ownsRow (w.heap.size + 1) 3 1 (.slice ad3 (ks.length + 1) c3) (ks ++ [k]).length (nv (ks ++ [k]))) := Lib.hid (by rw [← show v' = .slice ad3 (ks.length + 1) c3 by simpa using hv3]; exact F.out.1)
        obtain ⟨g, rfl, ht, hg⟩ := HI.out (by omega)
        obtain ⟨_, a1, _⟩ := (ht.below HB3.out.all.2 hg).cls k hl1 x hx
        obtain ⟨e0, e1, e2, e3, hgw⟩ := HB3.out.all.1
        have hI3 : InX w3 (some ⟨g, 0, none⟩) n (clsCs cs) := HI.out.below HB3.out.all.2
        have HI3 := Lib.hid hI3
        have hgr : g < w3.heap.size := Nat.lt_of_lt_of_le hg HB3.out.all.2.size
        cases hf : fnd cs x.p with
        | none =>
          rw [fndI_none hf] at HFx
          have HY : Hid (ks ++ [k] = U) := Lib.hid (by have := HU.out; rw [hf] at this; simpa using this)
          obtain ⟨xi, xp, xr, xe, xb, xu, xo, xl⟩ := x
          simp only at a1 HFx
          clear hx hl1 hf ht hI3
          go_wp2_with fail
          go_region_with (go_at_call 43; refine (HFx.out _ (Lib.hid (HI3.out.below (below_drewN (Below.refl _ _) _)))).mono ?_; rintro e w4 ⟨rfl, b4⟩; have B4 := Lib.hid ((below_drewN (Below.refl _ w3) 1).trans b4); clear b4)
          all_goals
            (try go_simp)
            go_wp2
            go_roundw
            case rel => exact ⟨-1, ks ++ [k], rfl, by simp; omega, HB3.out.on B4.out, own_low O3.out B4.out (Nat.le_refl _), .inl ⟨rfl, HY⟩⟩
            case measure => simp [lenV]; omega
        | some j =>
          rw [fndI_some hf] at HFx
          have hjn : j < n := by rw [← hn.out]; exact (fnd_get cs x.p j hf).1
          have HY : Hid ((ks ++ [k]) ++ up cs (9 - (ks ++ [k]).length) j = U) := Lib.hid (by
            have := HU.out
            rw [hf] at this
            rw [← this, show 9 - (ks ++ [k]).length = 8 - ks.length by simp only [List.length_append, List.length_cons, List.length_nil]; omega]
            simp)
          obtain ⟨xi, xp, xr, xe, xb, xu, xo, xl⟩ := x
          simp only at a1 HFx
          clear hx hl1 hf ht hI3
          go_wp2_with fail
          go_region_with (go_at_call 43; refine (HFx.out _ (Lib.hid (HI3.out.below (below_drewN (Below.refl _ _) _)))).mono ?_; rintro e w4 ⟨rfl, b4⟩; have B4 := Lib.hid ((below_drewN (Below.refl _ w3) 1).trans b4); clear b4)
          all_goals
            (try go_simp)
            go_wp2
            go_roundw
            case rel => exact ⟨j, ks ++ [k], rfl, by simp; omega, HB3.out.on B4.out, own_low O3.out B4.out (Nat.le_refl _), .inr ⟨j, hjn, rfl, HY⟩⟩
            case measure => simp [lenV]; omega
      · have HX2 : Hid (ks = U) := Lib.hid (by have := HX.out; rw [show 9 - ks.length = 0 by omega] at this; simpa [up] using this)
        have d8 : decide ((ks.length : Int) ≤ 8) = false := not_le (by omega)
        have d0 : decide ((0 : Int) ≤ (k : Int)) = true := is_le (by omega)
        clear hb ho
        go_wp2_with fail
        go_ret
        exact ⟨_, rfl, by rw [← HX2.out]; exact own_base HO.out (Nat.le_succ _), HB.out.all.2⟩
def ClsSelf (x : Cls) : Bool := inB x.i 1 999 && rateOk x
set_option maxHeartbeats 1600000 in
theorem cfClass_any (x : Cls) (w : World) : Calls Tryd.prog 70 #[clsV x] w (SaysB w (ClsSelf x)) := by
  have HX : Hid (ClsSelf x = (inB x.i 1 999 && (inB x.r 1 100000 && (inB x.e x.r 100000 && (inB x.b 1500 1000000 && (inB x.u 1500 1000000 && inB x.o 0 7)))))) := Lib.hid rfl
  have H1 := Lib.hid (fun w => l1In_any x.i 1 999 w)
  have H2 := Lib.hid (fun w => l1In_any x.r 1 100000 w)
  have H3 := Lib.hid (fun w => l1In_any x.e x.r 100000 w)
  have H4 := Lib.hid (fun w => l1In_any x.b 1500 1000000 w)
  have H5 := Lib.hid (fun w => l1In_any x.u 1500 1000000 w)
  have H6 := Lib.hid (fun w => l1In_any x.o 0 7 w)
  generalize inB x.i 1 999 = b1 at HX H1
  generalize inB x.r 1 100000 = b2 at HX H2
  generalize inB x.e x.r 100000 = b3 at HX H3
  generalize inB x.b 1500 1000000 = b4 at HX H4
  generalize inB x.u 1500 1000000 = b5 at HX H5
  generalize inB x.o 0 7 = b6 at HX H6
  generalize ClsSelf x = B at HX ⊢
  obtain ⟨xi, xp, xr, xe, xb, xu, xo, xl⟩ := x
  unfold clsV
  simp only at H1 H2 H3 H4 H5 H6 ⊢
  go_enter Tryd.func70, Tryd.ntmps70
  go_wp2_with (first | (go_at_call 42; (with_reducible refine (H1.out _).mono ?_); rintro e w' ⟨rfl, rfl⟩) | (go_at_call 42; (with_reducible refine (H2.out _).mono ?_); rintro e w' ⟨rfl, rfl⟩) | (go_at_call 42; (with_reducible refine (H3.out _).mono ?_); rintro e w' ⟨rfl, rfl⟩) | (go_at_call 42; (with_reducible refine (H4.out _).mono ?_); rintro e w' ⟨rfl, rfl⟩) | (go_at_call 42; (with_reducible refine (H5.out _).mono ?_); rintro e w' ⟨rfl, rfl⟩) | (go_at_call 42; (with_reducible refine (H6.out _).mono ?_); rintro e w' ⟨rfl, rfl⟩))
  all_goals
    go_ret
    exact ⟨ret_bool (by rw [HX.out]; simp_all), one_new2 _ _⟩
end Go.Proofs.YthgbhnedfdnfpaaDoor

/- The model's checks of single filters; bits of a mask; boxes of classes and filters. -/
namespace Go
set_option maxRecDepth 100000
theorem cfb_ofInt (a : Nat) (ha : a < 65536) : (BitVec.ofInt 64 (a : Int)).toNat = a := by
  rw [BitVec.ofInt_natCast, BitVec.toNat_ofNat]; exact Nat.mod_eq_of_lt (by omega)
theorem cfb_small (n : Nat) (h : n < 65536) : IntKind.i64.wrap (n : Int) = (n : Int) := by
  simp [IntKind.wrap, IntKind.bits, IntKind.signed]; omega
theorem cfb_and (v m : Nat) (hv : v < 65536) (hm : m < 65536) : bits .and .i64 (v : Int) (m : Int) = ((v &&& m : Nat) : Int) := by
  have hx : v &&& m ≤ v := Nat.and_le_left
  show IntKind.i64.wrap ((BitVec.ofInt 64 (v : Int) &&& BitVec.ofInt 64 (m : Int)).toNat : Int) = _
  rw [BitVec.toNat_and, cfb_ofInt v hv, cfb_ofInt m hm, cfb_small _ (by omega)]
theorem cfb_bv (x y : BitVec 64) : (x &&& ~~~y = 0#64) ↔ x &&& y = x := by
  constructor
  · intro h
    ext i hi
    have := congrArg (fun z => z.getLsbD i) h
    simp at this ⊢
    cases hx : x.getLsbD i <;> cases hy : y.getLsbD i <;> simp_all
  · intro h
    ext i hi
    have := congrArg (fun z => z.getLsbD i) h
    simp at this ⊢
    cases hx : x.getLsbD i <;> cases hy : y.getLsbD i <;> simp_all
theorem cfb_andNot (v m : Nat) (hv : v < 65536) (hm : m < 65536) : (bits .andNot .i64 (v : Int) (m : Int) == 0) = decide (v &&& m = v) := by
  show (IntKind.i64.wrap ((BitVec.ofInt 64 (v : Int) &&& ~~~BitVec.ofInt 64 (m : Int)).toNat : Int) == 0) = _
  have hx : (BitVec.ofInt 64 (v : Int) &&& ~~~BitVec.ofInt 64 (m : Int)).toNat ≤ v := by
    rw [BitVec.toNat_and, cfb_ofInt v hv]; exact Nat.and_le_left
  rw [cfb_small _ (by omega)]
  apply Bool.eq_iff_iff.2
  rw [beq_iff_eq, decide_eq_true_iff]
  have h1 : ((BitVec.ofInt 64 (v : Int) &&& ~~~BitVec.ofInt 64 (m : Int)).toNat : Int) = 0 ↔ (BitVec.ofInt 64 (v : Int) &&& ~~~BitVec.ofInt 64 (m : Int)) = 0#64 := by
    rw [show ((0 : Int)) = ((0 : Nat) : Int) from rfl, Int.ofNat_inj]
    constructor
    · intro h; apply BitVec.eq_of_toNat_eq; rw [h]; rfl
    · intro h; rw [h]; rfl
  rw [h1, cfb_bv, BitVec.toNat_eq, BitVec.toNat_and, cfb_ofInt v hv, cfb_ofInt m hm]
end Go
namespace Go.Proofs.YthgbhnedfdnfpaaDoor
open Go.RowKit
set_option linter.unusedVariables false

theorem and_bits {v m : Int} (h : 0 ≤ v ∧ v ≤ 65535) (k : 0 ≤ m ∧ m ≤ 65535) : (bits .and .i64 v m == v) = bitB v m := by
  obtain ⟨a, rfl⟩ := Int.eq_ofNat_of_zero_le h.1
  obtain ⟨b, rfl⟩ := Int.eq_ofNat_of_zero_le k.1
  rw [cfb_and a b (by omega) (by omega)]
  unfold bitB
  apply Bool.eq_iff_iff.2
  rw [beq_iff_eq, decide_eq_true_iff, Int.toNat_natCast, Int.toNat_natCast]
  omega
theorem andNot_bits {v m : Int} (h : 0 ≤ v ∧ v ≤ 65535) (k : 0 ≤ m ∧ m ≤ 65535) : (bits .andNot .i64 v m == 0) = bitB v m := by
  obtain ⟨a, rfl⟩ := Int.eq_ofNat_of_zero_le h.1
  obtain ⟨b, rfl⟩ := Int.eq_ofNat_of_zero_le k.1
  rw [cfb_andNot a b (by omega) (by omega)]
  unfold bitB
  rw [Int.toNat_natCast, Int.toNat_natCast]
def FltSelf (x : Flt) : Bool := inB x.o 1 99 && patOk x
theorem flt_self (x : Flt) (b : Int) (hb : 0 ≤ b) (h : FltSelf x = false) : (decide (b < x.o) && (decide (x.o ≤ 99) && patOk x)) = false := by
  unfold FltSelf at h
  rcases inBR_cases x.o 1 99 with ⟨a, c, e⟩ | ⟨a, e⟩ | ⟨a, c, e⟩
  · rw [e, Bool.true_and] at h; rw [h]; simp
  · rw [not_lt (show x.o ≤ b by omega)]; rfl
  · rw [not_le c]; simp
theorem flt_self_t (x : Flt) (b : Int) (h : FltSelf x = true) : 0 < x.o ∧ (decide (b < x.o) && (decide (x.o ≤ 99) && patOk x)) = decide (b < x.o) := by
  unfold FltSelf at h
  rw [Bool.and_eq_true] at h
  have := inBR_iff.1 h.1
  rw [h.2, is_le this.2]
  exact ⟨by omega, by simp⟩
theorem cls_self (x : Cls) (b : Int) (hb : 0 ≤ b) (h : ClsSelf x = false) : (decide (b < x.i) && (decide (x.i ≤ 999) && rateOk x)) = false := by
  unfold ClsSelf at h
  rcases inBR_cases x.i 1 999 with ⟨a, c, e⟩ | ⟨a, e⟩ | ⟨a, c, e⟩
  · rw [e, Bool.true_and] at h; rw [h]; simp
  · rw [not_lt (show x.i ≤ b by omega)]; rfl
  · rw [not_le c]; simp
theorem cls_self_t (x : Cls) (b : Int) (h : ClsSelf x = true) : 0 < x.i ∧ (decide (b < x.i) && (decide (x.i ≤ 999) && rateOk x)) = decide (b < x.i) := by
  unfold ClsSelf at h
  rw [Bool.and_eq_true] at h
  have := inBR_iff.1 h.1
  rw [h.2, is_le this.2]
  exact ⟨by omega, by simp⟩
/-! Boxes. -/
theorem box_at {w w1 : World} {a : Array Value} {t : TypeId} (b : Below (w.alloc (.cells a t)).heap.size (w.alloc (.cells a t)) w1) (k : Nat) (v : Value) (hv : a[k]? = some v) : w1.cell? ⟨w.heap.size, k, none⟩ = some v := by
  rw [(bcell b).1 w.heap.size k (by simp)]
  simp [go_sem, hv]
def EightB (w : World) (g : Nat) (x : Cls) : Prop := w.cell? ⟨g, 0, none⟩ = some (.int .i64 x.i) ∧ w.cell? ⟨g, 1, none⟩ = some (.int .i64 x.p) ∧ w.cell? ⟨g, 2, none⟩ = some (.int .i64 x.r) ∧ w.cell? ⟨g, 3, none⟩ = some (.int .i64 x.e) ∧
  w.cell? ⟨g, 4, none⟩ = some (.int .i64 x.b) ∧ w.cell? ⟨g, 5, none⟩ = some (.int .i64 x.u) ∧ w.cell? ⟨g, 6, none⟩ = some (.int .i64 x.o) ∧ w.cell? ⟨g, 7, none⟩ = some (.int .i64 x.l)
theorem box_eight {w w1 : World} {xi xp xr xe xb xu xo xl : Int} {t : TypeId} (b : Below (w.alloc (.cells #[.int .i64 xi, .int .i64 xp, .int .i64 xr, .int .i64 xe, .int .i64 xb, .int .i64 xu, .int .i64 xo, .int .i64 xl] t)).heap.size (w.alloc (.cells #[.int .i64 xi, .int .i64 xp, .int .i64 xr, .int .i64 xe, .int .i64 xb, .int .i64 xu, .int .i64 xo, .int .i64 xl] t)) w1) :
    EightB w1 w.heap.size ⟨xi, xp, xr, xe, xb, xu, xo, xl⟩ ∧ Below w.heap.size w w1 :=
  ⟨⟨box_at b 0 _ rfl, box_at b 1 _ rfl, box_at b 2 _ rfl, box_at b 3 _ rfl, box_at b 4 _ rfl, box_at b 5 _ rfl, box_at b 6 _ rfl, box_at b 7 _ rfl⟩, (one_new2 w _).trans (b.mono (by simp))⟩
def FiveB (w : World) (g : Nat) (x : Flt) : Prop := w.cell? ⟨g, 0, none⟩ = some (.int .i64 x.o) ∧ w.cell? ⟨g, 1, none⟩ = some (.int .i64 x.f) ∧ w.cell? ⟨g, 2, none⟩ = some (.int .i64 x.m) ∧ w.cell? ⟨g, 3, none⟩ = some (.int .i64 x.v) ∧ w.cell? ⟨g, 4, none⟩ = some (.int .i64 x.t)
theorem box_five {w w1 : World} {xo xf xm xv xt : Int} {t : TypeId} (b : Below (w.alloc (.cells #[.int .i64 xo, .int .i64 xf, .int .i64 xm, .int .i64 xv, .int .i64 xt] t)).heap.size (w.alloc (.cells #[.int .i64 xo, .int .i64 xf, .int .i64 xm, .int .i64 xv, .int .i64 xt] t)) w1) :
    FiveB w1 w.heap.size ⟨xo, xf, xm, xv, xt⟩ ∧ Below w.heap.size w w1 :=
  ⟨⟨box_at b 0 _ rfl, box_at b 1 _ rfl, box_at b 2 _ rfl, box_at b 3 _ rfl, box_at b 4 _ rfl⟩, (one_new2 w _).trans (b.mono (by simp))⟩
theorem drew_on {w w1 : World} (b : Below w.drew.heap.size w.drew w1) : Below w.heap.size w w1 := (below_drewN (Below.refl _ w) 1).trans b
set_option maxHeartbeats 1600000 in
theorem cfFilter_any (x : Flt) (w : World) : Calls Tryd.prog 71 #[fltV x] w (SaysB w (FltSelf x)) := by
  obtain ⟨b7, d7⟩ : ∃ b, (bits .and .i64 x.v x.m == x.v) = b := ⟨_, rfl⟩
  have HX : Hid (FltSelf x = (inB x.o 1 99 && (inB x.f 0 3 && (inB x.m 0 65535 && (inB x.v 0 65535 && b7))))) := Lib.hid (by
    unfold FltSelf patOk
    cases hm : inB x.m 0 65535
    · rfl
    cases hv : inB x.v 0 65535
    · rfl
    rw [← d7, and_bits (inBR_iff.1 hv) (inBR_iff.1 hm)])
  have H1 := Lib.hid (fun w => l1In_any x.o 1 99 w)
  have H2 := Lib.hid (fun w => l1In_any x.f 0 3 w)
  have H3 := Lib.hid (fun w => l1In_any x.m 0 65535 w)
  have H4 := Lib.hid (fun w => l1In_any x.v 0 65535 w)
  generalize inB x.o 1 99 = b1 at HX H1
  generalize inB x.f 0 3 = b2 at HX H2
  generalize inB x.m 0 65535 = b3 at HX H3
  generalize inB x.v 0 65535 = b4 at HX H4
  generalize FltSelf x = B at HX ⊢
  obtain ⟨xo, xf, xm, xv, xt⟩ := x
  unfold fltV
  simp only at d7 H1 H2 H3 H4 ⊢
  go_enter Tryd.func71, Tryd.ntmps71
  go_wp2_with (first | (go_at_call 42; (with_reducible refine (H1.out _).mono ?_); rintro e w' ⟨rfl, rfl⟩) | (go_at_call 42; (with_reducible refine (H2.out _).mono ?_); rintro e w' ⟨rfl, rfl⟩) | (go_at_call 42; (with_reducible refine (H3.out _).mono ?_); rintro e w' ⟨rfl, rfl⟩) | (go_at_call 42; (with_reducible refine (H4.out _).mono ?_); rintro e w' ⟨rfl, rfl⟩))
  all_goals
    go_ret
    exact ⟨ret_bool (by rw [HX.out]; simp_all), one_new2 _ _⟩
end Go.Proofs.YthgbhnedfdnfpaaDoor

/- A number in a range, two numbers compared: the program's. -/
namespace Go.Proofs.YthgbhnedfdnfpaaDoor
set_option maxRecDepth 100000
open Go.RowKit
set_option linter.unusedVariables false

theorem isIn_any (n lo hi : Int) (w : World) :
    Calls Tryd.prog 66 #[.int .i64 n, .int .i64 lo, .int .i64 hi] w fun e w' => e = .returned (.bool (inB n lo hi)) ∧ w = w' := by
  rcases Int.lt_or_le n lo with c0 | c0
  · have H : Hid (inB n lo hi = false) := Lib.hid (inB_low c0)
    have d := not_le c0
    go_enter Tryd.func66, Tryd.ntmps66
    go_wp2
    go_ret
    exact ⟨ret_bool (by rw [H.out]), rfl⟩
  rcases Int.lt_or_le hi n with c1 | c1
  · have H : Hid (inB n lo hi = false) := Lib.hid (inB_high c1)
    have d0 := is_le c0
    have d := not_le c1
    go_enter Tryd.func66, Tryd.ntmps66
    go_wp2
    go_ret
    exact ⟨ret_bool (by rw [H.out]), rfl⟩
  · have H : Hid (inB n lo hi = true) := Lib.hid (inB_true c0 c1)
    have d0 := is_le c0
    have d := is_le c1
    go_enter Tryd.func66, Tryd.ntmps66
    go_wp2
    go_ret
    exact ⟨ret_bool (by rw [H.out]), rfl⟩
/-- how two numbers compare -/
def cmpI (a b : Int) : Int := if a < b then -1 else if b < a then 1 else 0
theorem cmpI_lt {a b : Int} (h : a < b) : cmpI a b = -1 := by unfold cmpI; rw [if_pos h]
theorem cmpI_gt {a b : Int} (h : b < a) : cmpI a b = 1 := by unfold cmpI; rw [if_neg (by omega), if_pos h]
theorem cmpI_eq {a b : Int} (h : a = b) : cmpI a b = 0 := by unfold cmpI; rw [if_neg (by omega), if_neg (by omega)]
theorem isNaNI_any (a : Int) (w : World) : Calls Tryd.prog 61 #[.int .i64 a] w fun e w' => e = .returned (.bool false) ∧ w = w' := by
  go_enter Tryd.func61, Tryd.ntmps61
  go_wp2
  go_ret
  exact ⟨rfl, rfl⟩
theorem cmpInt_any (a b : Int) (w : World) : Calls Tryd.prog 41 #[.int .i64 a, .int .i64 b] w fun e w' => e = .returned (.int .i64 (cmpI a b)) ∧ w = w' := by
  rcases Int.lt_trichotomy a b with h | h | h
  · have H := Lib.hid (cmpI_lt h)
    have d := is_lt h
    go_enter Tryd.func41, Tryd.ntmps41
    go_wp2_with (go_at_call 61; refine (isNaNI_any _ _).mono ?_; rintro e w' ⟨rfl, rfl⟩)
    go_ret
    exact ⟨ret_int H.out.symm, rfl⟩
  · have H := Lib.hid (cmpI_eq h)
    subst h
    have d := not_lt (Int.le_refl a)
    go_enter Tryd.func41, Tryd.ntmps41
    go_wp2_with (go_at_call 61; refine (isNaNI_any _ _).mono ?_; rintro e w' ⟨rfl, rfl⟩)
    go_ret
    exact ⟨ret_int H.out.symm, rfl⟩
  · have H := Lib.hid (cmpI_gt h)
    have d := not_lt (Int.le_of_lt h)
    have d2 := is_lt h
    go_enter Tryd.func41, Tryd.ntmps41
    go_wp2_with (go_at_call 61; refine (isNaNI_any _ _).mono ?_; rintro e w' ⟨rfl, rfl⟩)
    go_ret
    exact ⟨ret_int H.out.symm, rfl⟩
end Go.Proofs.YthgbhnedfdnfpaaDoor
