/- Chapter 8: rates that can be added, overfull classes: both sides. -/
import Derived.Test.YtfijhgggljaomaaDoorVam
import Derived.Test.YtfijhgggljaomaaDoorVad
namespace Go.Proofs.YtfijhgggljaomaaDoor
set_option maxRecDepth 100000
open Go.RowKit
set_option linter.unusedVariables false

def RatesRaw (cs : List Cls) : Prop := ∀ k, k < cs.length → 0 ≤ (cs.getD k cls0).r ∧ (cs.getD k cls0).r ≤ 1000000000
def rawR (x : Cls) : Bool := inB x.r 0 1000000000
def ratesC (c : Cfg) : Bool := fromK (fun k => rawR (c.cs.getD k cls0)) c.cs.length 0
theorem rates_raw {c : Cfg} (h : ratesC c = true) : RatesRaw c.cs := fun k hk => inBR_iff.1 ((fromK_iff _ _).1 h k hk)
def selO (c : Cfg) : List Nat := if rawC c && ratesC c then selF (overP c) c.cs.length 0 else []
theorem selO_len (c : Cfg) : (selO c).length ≤ 40 := by
  unfold selO
  by_cases h : (rawC c && ratesC c) = true
  · rw [if_pos h]; have := selF_len (overP c) c.cs.length 0; have := (raw_of (Bool.and_eq_true_iff.1 h).1).1; omega
  · rw [if_neg h]; simp
theorem selO_raw {c : Cfg} (h : rawC c = false) : selO c = [] := by unfold selO; rw [h]; rfl
theorem selO_bad {c : Cfg} (h : rawC c = true) (h' : ratesC c = false) : selO c = [] := by unfold selO; rw [h, h']; rfl
theorem selO_ok {c : Cfg} (h : rawC c = true) (h' : ratesC c = true) : selO c = selF (overP c) c.cs.length 0 := by unfold selO; rw [h, h']; rfl
def SpRelR (cs : List Cls) (K : List Nat) (S : Int) (a i : Value) : Prop := ∃ (k : Nat) (z : Int), k ≤ K.length ∧ i = .int .i64 k ∧ a = .int .i64 z ∧ z ≤ 1000000000 ∧ -(1000000000 * (k : Int)) ≤ z ∧ Hid (spK cs z (K.drop k) = S)
set_option maxHeartbeats 3200000 in
theorem cfSpareR_any (s : ByteArray) (ac af : Option Addr) (n cc m cf : Nat) (d : Int) (cs : List Cls) (q : Nat) (w : World) (HI : Hid (InX w ac n (clsCs cs))) (hn : Hid (cs.length = n)) (hm : n ≤ 1048576) (hq : q < n) (h40 : n ≤ 40) (HR : Hid (RatesRaw cs)) :
    Calls Tryd.prog 67 #[(.agg #[.string s, .slice ac n cc, .slice af m cf, .int .i64 d]), .int .i64 q] w (SaysI w (spare cs (cs.getD q cls0))) := by
  have HK := Lib.hid (fun w HI => cfKids_any s ac af n cc m cf d cs q w HI hn hm hq)
  have hqn : q < cs.length := by rw [hn.out]; exact hq
  obtain ⟨y, hy⟩ : ∃ y, cs.getD q cls0 = y := ⟨_, rfl⟩
  have hyr := HR.out q hqn
  rw [hy] at HK hyr ⊢
  have HLT := Lib.hid (kids_lt cs y.i)
  have hKl : (kids cs y.i).length ≤ n := by have := kidsF_len y.i cs 0; unfold kids; rw [← hn.out]; exact this
  have H0 : Hid (spK cs y.r ((kids cs y.i).drop 0) = spare cs y) := Lib.hid (by rw [List.drop_zero]; exact spare_kids cs y)
  obtain ⟨K, hK⟩ : ∃ K, kids cs y.i = K := ⟨_, rfl⟩
  obtain ⟨S, hS⟩ : ∃ S, spare cs y = S := ⟨_, rfl⟩
  rw [hK] at HK hKl HLT H0
  rw [hS] at H0 ⊢
  obtain ⟨g, rfl, ht, hg⟩ := HI.out (by omega)
  have HT := Lib.hid ht
  obtain ⟨_, _, b2, _⟩ := ht.cls q hqn y hy
  have b2' := fun o => ((bcell (one_new2 w o)).1 g (q * 8 + 2) hg).trans b2
  obtain ⟨yi, yp, yr, ye, yb, yu, yo, yl⟩ := y
  simp only at b2' hyr H0
  clear hK hS hy ht b2
  go_enter Tryd.func67, Tryd.ntmps67
  go_wp2_with (go_at_call 89; refine (HK.out _ (Lib.hid (HI.out.below (one_new2 _ _)))).mono ?_; rintro e w1 ⟨v, rfl, o1, b1⟩; have B1 := Lib.hid (box_four b1).2; obtain ⟨c0, c1, c2, c3, _⟩ := (box_four b1).1; obtain ⟨ad, cK, rfl, iK⟩ := own_in o1; have HIK := Lib.hid iK; clear b1 o1 iK)
  go_loop [5, 18] (fun a i => SpRelR cs K S a i) (fun _ i => K.length - (intOf i).toNat)
  case atStart => exact ⟨0, yr, Nat.zero_le _, rfl, rfl, by omega, by omega, H0⟩
  case round =>
    obtain ⟨k, z, hk, rfl, rfl, z1, z2, HP⟩ := hrel
    by_cases hlt : k < K.length
    · obtain ⟨gk, rfl, hkt, hkg⟩ := HIK.out (by omega)
      obtain ⟨j, hj⟩ : ∃ j, K.getD k 0 = j := ⟨_, rfl⟩
      have e0 := hkt.nat k hlt j hj
      have hjl : j < cs.length := by rw [← hj]; exact HLT.out k hlt
      have hjn : j < n := by rw [← hn.out]; exact hjl
      obtain ⟨x, hx⟩ : ∃ x, cs.getD j cls0 = x := ⟨_, rfl⟩
      have hxr := HR.out j hjl
      rw [hx] at hxr
      obtain ⟨_, _, a2, _⟩ := (HT.out.below B1.out hg).cls j hjl x hx
      have HE := Lib.hid (spK_at cs z K k hlt j hj)
      rw [hx] at HE
      obtain ⟨xi, xp, xr, xe, xb, xu, xo, xl⟩ := x
      simp only at a2 hxr HE
      have HX : Hid (spK cs (z - xr) (K.drop (k + 1)) = S) := Lib.hid (HE.out.symm.trans HP.out)
      have k40 : (k : Int) < 40 := by omega
      clear hkt hj hx hjl
      go_wp2_with fail
      go_round
      case rel => exact ⟨k + 1, z - xr, by omega, by go_num, rfl, by omega, by omega, HX⟩
      case measure => simp [intOf]; omega
    · have HX : Hid (z = S) := Lib.hid (by rw [← HP.out, spK_end cs z K k (by omega)])
      go_wp2_with fail
      go_ret
      exact ⟨ret_int HX.out, B1.out⟩
def SpRelX (w : World) (o : Obj) (n : Nat) (cs : List Cls) (id S : Int) (a i : Value) (wr : World) : Prop :=
  ∃ (k : Nat) (z : Int), k ≤ n ∧ i = .int .i64 k ∧ a = .int .i64 z ∧ z ≤ 1000000000 ∧ -(1000000000 * (k : Int)) ≤ z ∧ Aft w o wr ∧ Hid (spF id z (cs.drop k) = S)
set_option maxHeartbeats 3200000 in
theorem spareRateR_any (ac : Option Addr) (n cc : Nat) (cs : List Cls) (y : Cls) (w : World) (HI : Hid (InX w ac n (clsCs cs))) (hn : Hid (cs.length = n)) (hm : n ≤ 1048576) (h40 : n ≤ 40) (HR : Hid (RatesRaw cs)) (hyr : 0 ≤ y.r ∧ y.r ≤ 1000000000) :
    Calls Tryd.prog 82 #[(.slice ac n cc), clsV y] w (SaysI w (spare cs y)) := by
  obtain ⟨S, hS⟩ : ∃ S, spare cs y = S := ⟨_, rfl⟩
  have H0 : Hid (spF y.i y.r (cs.drop 0) = S) := Lib.hid hS
  rw [hS]
  clear hS
  obtain ⟨yi, yp, yr, ye, yb, yu, yo, yl⟩ := y
  unfold clsV
  simp only at H0 hyr ⊢
  go_enter Tryd.func82, Tryd.ntmps82
  go_wp2_with fail
  go_loopw [5, 12] (fun a i wr => SpRelX w (Obj.cells #[.int .i64 yi, .int .i64 yp, .int .i64 yr, .int .i64 ye, .int .i64 yb, .int .i64 yu, .int .i64 yo, .int .i64 yl] 62) n cs yi S a i wr) (fun _ i _ => n - (intOf i).toNat)
  case atStart => exact ⟨0, yr, Nat.zero_le _, rfl, rfl, by omega, by omega, Aft.refl _ _, H0⟩
  case round =>
    obtain ⟨k, z, hk, rfl, rfl, z1, z2, hb, HP⟩ := hrel
    have HB := Lib.hid hb
    obtain ⟨⟨e0, _, _, _, _, _, _, _⟩, hbw⟩ := box_eight hb
    have HW := Lib.hid hbw
    have hgw : w.heap.size < wr.heap.size := by have := (show Below (w.alloc (Obj.cells #[.int .i64 yi, .int .i64 yp, .int .i64 yr, .int .i64 ye, .int .i64 yb, .int .i64 yu, .int .i64 yo, .int .i64 yl] 62)).heap.size (w.alloc (Obj.cells #[.int .i64 yi, .int .i64 yp, .int .i64 yr, .int .i64 ye, .int .i64 yb, .int .i64 yu, .int .i64 yo, .int .i64 yl] 62)) wr from hb).size; simp at this; omega
    by_cases hlt : k < n
    · obtain ⟨g, rfl, ht, hg⟩ := HI.out (by omega)
      obtain ⟨x, hx⟩ : ∃ x, cs.getD k cls0 = x := ⟨_, rfl⟩
      have hl1 : k < cs.length := by rw [hn.out]; exact hlt
      obtain ⟨a0, a1, a2, a3, a4, a5, a6, a7⟩ := (ht.below hbw hg).cls k hl1 x hx
      have hxr := HR.out k hl1
      rw [hx] at hxr
      have HE := Lib.hid (spF_at yi z cs k hl1 x hx)
      have e0' := fun o => ((bcell (one_new2 wr o)).1 _ 0 hgw).trans e0
      have k40 : (k : Int) < 40 := by omega
      obtain ⟨xi, xp, xr, xe, xb, xu, xo, xl⟩ := x
      simp only at a0 a1 a2 a3 a4 a5 a6 a7 hxr HE
      clear hb hx hl1 ht hbw e0
      by_cases he : xp = yi
      · have dq : (xp == yi) = true := by simpa using he
        have HX : Hid (spF yi (z - xr) (cs.drop (k + 1)) = S) := Lib.hid (by rw [← HP.out, HE.out, if_pos he])
        clear he
        go_wp2_with fail
        go_roundw
        case rel => exact ⟨k + 1, z - xr, by omega, by go_num, rfl, by omega, by omega, HB.out.alloc _, HX⟩
        case measure => simp [intOf]; omega
      · have dq : (xp == yi) = false := by simpa using he
        have HX : Hid (spF yi z (cs.drop (k + 1)) = S) := Lib.hid (by rw [← HP.out, HE.out, if_neg he])
        clear he
        go_wp2_with fail
        go_roundw
        case rel => exact ⟨k + 1, z, by omega, by go_num, rfl, by omega, by omega, HB.out.alloc _, HX⟩
        case measure => simp [intOf]; omega
    · have HX : Hid (z = S) := Lib.hid (by rw [← HP.out, spF_end _ z cs k (by rw [hn.out]; omega)])
      clear hb hbw
      go_wp2_with fail
      go_ret
      exact ⟨ret_int HX.out, HW.out⟩
set_option maxHeartbeats 3200000 in
theorem vaRates_any (s : ByteArray) (ac af : Option Addr) (n cc m cf : Nat) (d : Int) (cs : List Cls) (w : World) (HI : Hid (InX w ac n (clsCs cs))) (hn : Hid (cs.length = n)) (hm : n ≤ 1048576) :
    Calls Tryd.prog 31 #[(.agg #[.string s, .slice ac n cc, .slice af m cf, .int .i64 d])] w (SaysB w (fromK (fun k => rawR (cs.getD k cls0)) n 0)) := by
  obtain ⟨B, hB⟩ : ∃ B, fromK (fun k => rawR (cs.getD k cls0)) n 0 = B := ⟨_, rfl⟩
  have H0 := Lib.hid hB
  rw [hB]
  clear hB
  go_enter Tryd.func31, Tryd.ntmps31
  go_wp2_with fail
  go_loopw [8] (fun i wr => ∃ k : Nat, k ≤ n ∧ i = .int .i64 k ∧ Aft w (Obj.cells #[.string s, .slice ac n cc, .slice af m cf, .int .i64 d] 32) wr ∧ Hid (fromK (fun k => rawR (cs.getD k cls0)) n k = B)) (fun i _ => n - (intOf i).toNat)
  case atStart => exact ⟨0, Nat.zero_le _, rfl, Aft.refl _ _, H0⟩
  case round =>
    obtain ⟨k, hk, rfl, hbl, HP⟩ := hrel
    have HB := Lib.hid hbl
    by_cases hlt : k < n
    · have HGI := HI.out
      obtain ⟨g, rfl, ht, hg⟩ := HGI (by omega)
      obtain ⟨x, hx⟩ : ∃ x, cs.getD k cls0 = x := ⟨_, rfl⟩
      have hl1 : k < cs.length := by rw [hn.out]; exact hlt
      obtain ⟨a0, a1, a2, a3, a4, a5, a6, a7⟩ := (ht.below hbl.all.2 hg).cls k hl1 x hx
      have HE := Lib.hid (fromK_at (fun k => rawR (cs.getD k cls0)) n k hlt)
      have HEx : Hid (rawR (cs.getD k cls0) = rawR x) := Lib.hid (by rw [hx])
      have HC := Lib.hid (fun w' => l1In_any x.r 0 1000000000 w')
      have HCx : Hid (inB x.r 0 1000000000 = rawR x) := Lib.hid rfl
      rw [HCx.out] at HC
      have BA := Lib.hid (HB.out.alloc (Obj.cells #[.int .i64 x.i, .int .i64 x.p, .int .i64 x.r, .int .i64 x.e, .int .i64 x.b, .int .i64 x.u, .int .i64 x.o, .int .i64 x.l] 62))
      rcases Bool.eq_false_or_eq_true (rawR x) with hh | hh
      · have HX := Lib.hid (show fromK (fun k => rawR (cs.getD k cls0)) n (k + 1) = B by rw [← HP.out, HE.out, HEx.out, hh, Bool.true_and])
        rw [hh] at HC
        obtain ⟨xi, xp, xr, xe, xb, xu, xo, xl⟩ := x
        simp only at a0 a1 a2 a3 a4 a5 a6 a7 HC BA
        clear hbl hx hl1 ht hh HE HEx HCx
        go_wp2_with (go_at_call 19; refine (HC.out _).mono ?_; rintro e w9 ⟨rfl, rfl⟩)
        go_roundw
        case rel => exact ⟨k + 1, by omega, by go_num, BA.out, HX⟩
        case measure => simp [intOf]; omega
      · have HX : Hid (false = B) := Lib.hid (by rw [← HP.out, HE.out, HEx.out, hh, Bool.false_and])
        rw [hh] at HC
        obtain ⟨xi, xp, xr, xe, xb, xu, xo, xl⟩ := x
        simp only at a0 a1 a2 a3 a4 a5 a6 a7 HC BA
        clear hbl hx hl1 ht hh HE HEx HCx
        go_wp2_with (go_at_call 19; refine (HC.out _).mono ?_; rintro e w9 ⟨rfl, rfl⟩)
        go_ret
        exact ⟨ret_bool HX.out, BA.out.all.2⟩
    · have HX : Hid (true = B) := Lib.hid (by rw [← HP.out, fromK_end _ n k (by omega)])
      clear hbl
      go_wp2_with fail
      go_ret
      exact ⟨ret_bool HX.out, HB.out.all.2⟩
set_option maxHeartbeats 6400000 in
theorem vaOver_any (s : ByteArray) (ac af : Option Addr) (n cc m cf : Nat) (d : Int) (cs : List Cls) (fs : List Flt) (w : World) (HI : Hid (InX w ac n (clsCs cs))) (hn : Hid (cs.length = n)) (h40 : n ≤ 40) (HR : Hid (RatesRaw cs)) :
    Calls Tryd.prog 32 #[(.agg #[.string s, .slice ac n cc, .slice af m cf, .int .i64 d])] w (SaysNs w (selF (overP ⟨s, cs, fs, d⟩) n 0)) := by
  have q1 : n ≤ 1048576 := by omega
  obtain ⟨i0, hi, hz0, hz1, hz2⟩ := info_parts infoI
  have HCY := Lib.hid (fun k (hk : k < n) w' HI => cfSpareR_any s ac af n cc m cf d cs k w' HI hn q1 hk h40 HR)
  obtain ⟨P, hP⟩ : ∃ P, overP ⟨s, cs, fs, d⟩ = P := ⟨_, rfl⟩
  have HPD := Lib.hid (fun k => (congrFun hP k).symm)
  rw [hP]
  obtain ⟨K, hK⟩ : ∃ K, selF P n 0 = K := ⟨_, rfl⟩
  have H0 : Hid ([] ++ selF P n 0 = K) := Lib.hid hK
  rw [hK]
  clear hP hK
  go_enter Tryd.func32, Tryd.ntmps32
  go_wp2_with fail
  go_loopw [3, 8] (fun out i wr => VRel w (Obj.cells #[.string s, .slice ac n cc, .slice af m cf, .int .i64 d] 32) n P K out i wr) (fun _ i _ => n - (intOf i).toNat)
  case atStart => exact ⟨0, [], Nat.zero_le _, Nat.le_refl _, rfl, Aft.refl _ _, World.ownsRow_nil _ _ _ _, H0⟩
  case round =>
    obtain ⟨k, ks, hk, hkl, rfl, hb, ho, HP⟩ := hrel
    have HB := Lib.hid hb
    have HO := Lib.hid ho
    obtain ⟨ad, cO, rfl, _⟩ := own_in ho
    have hB0 : w.heap.size + 1 ≤ wr.heap.size := hb.all.1.2.2.2.2
    by_cases hlt : k < n
    · have hl1 : k < cs.length := by rw [hn.out]; exact hlt
      have HPk := Lib.hid (HPD.out k)
      have HCk := Lib.hid (fun w' HI => HCY.out k hlt w' HI)
      have HOV : Hid (decide (spare cs (cs.getD k cls0) < 0) = overP ⟨s, cs, fs, d⟩ k) := Lib.hid rfl
      generalize spare cs (cs.getD k cls0) = sp at HCk HOV
      have dsp := HOV.out
      obtain ⟨e0, e1, e2, e3, hgw⟩ := hb.all.1
      rcases Bool.eq_false_or_eq_true (overP ⟨s, cs, fs, d⟩ k) with hq | hq
      · have HX := Lib.hid (show (ks ++ [k]) ++ selF P n (k + 1) = K from by rw [← HP.out, selF_yes hlt (HPk.out.trans hq)]; simp)
        rw [hq] at dsp
        clear hb ho hq
        go_wp2_with (go_at_call 67; refine (HCk.out _ (Lib.hid (HI.out.below HB.out.all.2))).mono ?_; rintro e w2 ⟨rfl, b2⟩; have A2 := Lib.hid (HB.out.on b2); have O2 := Lib.hid (own_low HO.out b2 (Nat.le_refl _)); clear b2; refine Hid.out ?_)
        refine Lib.hid ?_
        have hB2 : w.heap.size + 1 ≤ w2.heap.size := A2.out.all.1.2.2.2.2
        go_wp2_with (at_builtin; refine wpList_append_own _ rfl _ _ 36 rfl (w.heap.size + 1) 3 i0 (.int .i64 0) 1 8 Tryd.underlying36 hi hz0 hz1 hz2 rfl (by decide) _ _ _ rfl (World.ownsRow.alloc O2.out _) ⟨w2.heap.size, 0, none⟩ 1 1 [.int .i64 (k : Int)] rfl rfl (by have := one_int w2 (.int .i64 (k : Int)) 3; simpa using this) (by intro u hu; simp at hu; subst hu; rfl) (by unfold maxLen; omega) (by omega) (by simp; omega) ?_; intro v' wA hown1 hgrow1 _; have F := Lib.hid (own_snoc rfl ((Below.refl (w.heap.size + 1) w2).alloc hB2 (.cells #[.int .i64 (k : Int)] 3)) hown1 (by simp; omega) hgrow1 (fun g h => (World.ownsRow.lt O2.out g h).1)); clear hown1 hgrow1)
        go_roundw
        case rel => exact ⟨k + 1, ks ++ [k], by omega, by simp; omega, by go_num, A2.out.up F.out.2, F.out.1, HX⟩
        case measure => simp [intOf]; omega
      · have HX := Lib.hid (show ks ++ selF P n (k + 1) = K from by rw [← HP.out, selF_no hlt (HPk.out.trans hq)])
        rw [hq] at dsp
        clear hb ho hq
        go_wp2_with (go_at_call 67; refine (HCk.out _ (Lib.hid (HI.out.below HB.out.all.2))).mono ?_; rintro e w2 ⟨rfl, b2⟩; have A2 := Lib.hid (HB.out.on b2); have O2 := Lib.hid (own_low HO.out b2 (Nat.le_refl _)); clear b2; refine Hid.out ?_)
        refine Lib.hid ?_
        have hB2 : w.heap.size + 1 ≤ w2.heap.size := A2.out.all.1.2.2.2.2
        go_wp2_with fail
        go_roundw
        case rel => exact ⟨k + 1, ks, by omega, by omega, by go_num, A2.out, O2.out, HX⟩
        case measure => simp [intOf]; omega
    · have HX : Hid (ks = K) := Lib.hid (by rw [← HP.out, selF_end _ (by omega), List.append_nil])
      clear hb ho
      go_wp2_with fail
      go_ret
      exact ⟨_, rfl, by rw [← HX.out]; exact own_base HO.out (Nat.le_succ _), HB.out.all.2⟩
set_option maxHeartbeats 1600000 in
theorem hasRawRate_any (x : Cls) (w : World) : Calls Tryd.prog 80 #[clsV x] w (SaysB w (rawR x)) := by
  have HN := Lib.hid (fun w => isIn_any x.r 0 1000000000 w)
  have HE : Hid (rawR x = inB x.r 0 1000000000) := Lib.hid rfl
  rw [HE.out]
  generalize inB x.r 0 1000000000 = b at HN ⊢
  obtain ⟨xi, xp, xr, xe, xb, xu, xo, xl⟩ := x
  unfold clsV
  simp only at HN ⊢
  clear HE
  go_enter Tryd.func80, Tryd.ntmps80
  go_wp2_with (go_at_call 72; refine (HN.out _).mono ?_; rintro e w' ⟨rfl, rfl⟩)
  go_ret
  exact ⟨rfl, one_new2 _ _⟩
set_option maxHeartbeats 3200000 in
theorem allOf_raw (ac : Option Addr) (n cc : Nat) (cs : List Cls) (w : World) (HI : Hid (InX w ac n (clsCs cs))) (hn : Hid (cs.length = n)) (hm : n ≤ 1048576) (HF : Hid (∀ x w', Calls Tryd.prog 80 #[clsV x] w' (SaysB w' (rawR x)))) :
    Calls Tryd.prog 49 #[(.slice ac n cc), .func (Fn.func 80) #[] #[]] w (SaysB w (fromK (fun k => rawR (cs.getD k cls0)) n 0)) := by
  obtain ⟨B, hB⟩ : ∃ B, fromK (fun k => rawR (cs.getD k cls0)) n 0 = B := ⟨_, rfl⟩
  have H0 := Lib.hid hB
  rw [hB]
  clear hB
  go_enter Tryd.func49, Tryd.ntmps49
  go_wp2_with fail
  go_loopw [9] (fun i wr => ∃ k : Nat, k ≤ n ∧ i = .int .i64 k ∧ Below w.heap.size w wr ∧ Hid (fromK (fun k => rawR (cs.getD k cls0)) n k = B)) (fun i _ => n - (intOf i).toNat)
  case atStart => exact ⟨0, Nat.zero_le _, rfl, Below.refl _ _, H0⟩
  case round =>
    obtain ⟨k, hk, rfl, hbl, HP⟩ := hrel
    have HB := Lib.hid hbl
    by_cases hlt : k < n
    · have HGI := HI.out
      obtain ⟨g, rfl, ht, hg⟩ := HGI (by omega)
      obtain ⟨x, hx⟩ : ∃ x, cs.getD k cls0 = x := ⟨_, rfl⟩
      have hl1 : k < cs.length := by rw [hn.out]; exact hlt
      obtain ⟨a0, a1, a2, a3, a4, a5, a6, a7⟩ := (ht.below hbl hg).cls k hl1 x hx
      have HE := Lib.hid (fromK_at (fun k => rawR (cs.getD k cls0)) n k hlt)
      have HEx : Hid (rawR (cs.getD k cls0) = rawR x) := Lib.hid (by rw [hx])
      have HC := Lib.hid (fun w' => HF.out x w')
      have BA := Lib.hid (one_new2 wr (Obj.cells #[.int .i64 x.i, .int .i64 x.p, .int .i64 x.r, .int .i64 x.e, .int .i64 x.b, .int .i64 x.u, .int .i64 x.o, .int .i64 x.l] 62))
      rcases Bool.eq_false_or_eq_true (rawR x) with hh | hh
      · have HX := Lib.hid (show fromK (fun k => rawR (cs.getD k cls0)) n (k + 1) = B by rw [← HP.out, HE.out, HEx.out, hh, Bool.true_and])
        rw [hh] at HC
        obtain ⟨xi, xp, xr, xe, xb, xu, xo, xl⟩ := x
        unfold clsV at HC
        simp only at a0 a1 a2 a3 a4 a5 a6 a7 HC BA
        clear hbl hx hl1 ht hh HE HEx
        go_wp2_with (go_at_call 80; refine (HC.out _).mono ?_; rintro e w1 ⟨rfl, b1⟩; have B1 := Lib.hid (HB.out.trans ((BA.out.trans (b1.mono BA.out.size)).mono HB.out.size)); clear b1)
        go_roundw
        case rel => exact ⟨k + 1, by omega, by go_num, B1.out, HX⟩
        case measure => simp [intOf]; omega
      · have HX : Hid (false = B) := Lib.hid (by rw [← HP.out, HE.out, HEx.out, hh, Bool.false_and])
        rw [hh] at HC
        obtain ⟨xi, xp, xr, xe, xb, xu, xo, xl⟩ := x
        unfold clsV at HC
        simp only at a0 a1 a2 a3 a4 a5 a6 a7 HC BA
        clear hbl hx hl1 ht hh HE HEx
        go_wp2_with (go_at_call 80; refine (HC.out _).mono ?_; rintro e w1 ⟨rfl, b1⟩; have B1 := Lib.hid (HB.out.trans ((BA.out.trans (b1.mono BA.out.size)).mono HB.out.size)); clear b1)
        go_ret
        exact ⟨ret_bool HX.out, B1.out⟩
    · have HX : Hid (true = B) := Lib.hid (by rw [← HP.out, fromK_end _ n k (by omega)])
      clear hbl
      go_wp2_with fail
      go_ret
      exact ⟨ret_bool HX.out, HB.out⟩
set_option maxHeartbeats 6400000 in
theorem OverfullClasses_cl (s : ByteArray) (ac af : Option Addr) (n cc m cf : Nat) (d : Int) (cs : List Cls) (fs : List Flt) (c0 k : Nat) (w : World) (HI : Hid (InX w ac n (clsCs cs))) (HJ : Hid (InX w af m (fltCs fs))) (hn : Hid (cs.length = n)) (hf : Hid (fs.length = m)) (h40 : n ≤ 40) (hf40 : m ≤ 40) (hk : k < n) (HR : Hid (RatesRaw cs)) (HFo : Hid (FourIs w c0 (.string s) (.slice ac n cc) (.slice af m cf) (.int .i64 d))) :
    Calls Tryd.prog 81 #[.int .i64 (k : Int), .pointer (some ⟨c0, 0, none⟩)] w (SaysB w (overP ⟨s, cs, fs, d⟩ k)) := by
  have q1 : n ≤ 1048576 := by omega
  obtain ⟨e0, e1, e2, e3, hgw⟩ := HFo.out
  obtain ⟨x, hx⟩ : ∃ x, cs.getD k cls0 = x := ⟨_, rfl⟩
  have hl1 : k < cs.length := by rw [hn.out]; exact hk
  have hxr := HR.out k hl1
  rw [hx] at hxr
  have HS := Lib.hid (fun w HI => spareRateR_any ac n cc cs x w HI hn q1 h40 HR hxr)
  have HGI := HI.out
  obtain ⟨g, rfl, ht, hg⟩ := HGI (by omega)
  obtain ⟨a0, a1, a2, a3, a4, a5, a6, a7⟩ := ht.cls k hl1 x hx
  have hX : overP ⟨s, cs, fs, d⟩ k = decide (spare cs x < 0) := by unfold overP; simp only; rw [hx]
  rw [hX]
  generalize spare cs x = sp at HS ⊢
  obtain ⟨q, hq⟩ : ∃ q, decide (sp < 0) = q := ⟨_, rfl⟩
  rw [hq]
  obtain ⟨xi, xp, xr, xe, xb, xu, xo, xl⟩ := x
  unfold clsV at HS
  simp only at a0 a1 a2 a3 a4 a5 a6 a7 HS
  clear hx ht hX
  go_enter Tryd.func81, Tryd.ntmps81
  go_wp2_with fail
  go_region_with (go_at_call 82; refine (HS.out _ (Lib.hid (HI.out.below (below_drewN (Below.refl _ _) _)))).mono ?_; rintro e w4 ⟨rfl, b4⟩; have B4 := Lib.hid ((below_drewN (Below.refl _ w) 1).trans b4); clear b4)
  all_goals
    (try go_simp)
    go_wp2
    go_ret
    exact ⟨rfl, B4.out⟩
set_option maxHeartbeats 3200000 in
theorem iw_OverfullClasses (c0 N : Nat) (P : Nat → Bool) (w : World) (hN : N ≤ 40) (HF : Hid (∀ k : Nat, k < N → ∀ w', Below w.heap.size w w' → Calls Tryd.prog 81 #[.int .i64 (k : Int), .pointer (some ⟨c0, 0, none⟩)] w' (SaysB w' (P k)))) :
    Calls Tryd.prog 73 #[.int .i64 (N : Int), .func (Fn.func 81) #[] #[.pointer (some ⟨c0, 0, none⟩)]] w (SaysNs w (selF P N 0)) := by
  obtain ⟨i0, hi, hz0, hz1, hz2⟩ := info_parts infoI
  obtain ⟨K, hK⟩ : ∃ K, selF P N 0 = K := ⟨_, rfl⟩
  have H0 : Hid ([] ++ selF P N 0 = K) := Lib.hid hK
  rw [hK]
  clear hK
  go_enter Tryd.func73, Tryd.ntmps73
  go_wp2_with fail
  go_loopw [5, 8] (fun out i wr => IwRel w N P K out i wr) (fun _ i _ => N - (intOf i).toNat)
  case atStart => exact ⟨0, [], Nat.zero_le _, Nat.le_refl _, rfl, Below.refl _ _, World.ownsRow_nil _ _ _ _, H0⟩
  case round =>
    obtain ⟨k, ks, hk, hkl, rfl, hb, ho, HP⟩ := hrel
    have HB := Lib.hid hb
    have HO := Lib.hid ho
    obtain ⟨ad, cO, rfl, _⟩ := own_in ho
    by_cases hlt : k < N
    · have HFk := Lib.hid (HF.out k hlt)
      rcases Bool.eq_false_or_eq_true (P k) with hq | hq
      · have HX : Hid ((ks ++ [k]) ++ selF P N (k + 1) = K) := Lib.hid (by rw [← HP.out, selF_yes hlt hq]; simp)
        rw [hq] at HFk
        clear hb ho hq
        go_wp2_with (go_at_call 81; refine (HFk.out _ HB.out).mono ?_; rintro e w2 ⟨rfl, b2⟩; have A2 := Lib.hid (HB.out.trans (b2.mono HB.out.size)); have O2 := Lib.hid (own_low HO.out b2 (Nat.le_refl _)); clear b2; refine Hid.out ?_)
        refine Lib.hid ?_
        have hB2 : w.heap.size ≤ w2.heap.size := A2.out.size
        go_wp2_with (at_builtin; refine wpList_append_own _ rfl _ _ 36 rfl (w.heap.size) 3 i0 (.int .i64 0) 1 8 Tryd.underlying36 hi hz0 hz1 hz2 rfl (by decide) _ _ _ rfl (World.ownsRow.alloc O2.out _) ⟨w2.heap.size, 0, none⟩ 1 1 [.int .i64 (k : Int)] rfl rfl (by have := one_int w2 (.int .i64 (k : Int)) 3; simpa using this) (by intro u hu; simp at hu; subst hu; rfl) (by unfold maxLen; omega) (by omega) (by simp; omega) ?_; intro v' wA hown1 hgrow1 _; have F := Lib.hid (own_snoc rfl ((Below.refl (w.heap.size) w2).alloc hB2 (.cells #[.int .i64 (k : Int)] 3)) hown1 (by simp; omega) hgrow1 (fun g h => (World.ownsRow.lt O2.out g h).1)); clear hown1 hgrow1)
        go_roundw
        case rel => exact ⟨k + 1, ks ++ [k], by omega, by simp; omega, by go_num, A2.out.trans F.out.2, F.out.1, HX⟩
        case measure => simp [intOf]; omega
      · have HX : Hid (ks ++ selF P N (k + 1) = K) := Lib.hid (by rw [← HP.out, selF_no hlt hq])
        rw [hq] at HFk
        clear hb ho hq
        go_wp2_with (go_at_call 81; refine (HFk.out _ HB.out).mono ?_; rintro e w2 ⟨rfl, b2⟩; have A2 := Lib.hid (HB.out.trans (b2.mono HB.out.size)); have O2 := Lib.hid (own_low HO.out b2 (Nat.le_refl _)); clear b2)
        go_roundw
        case rel => exact ⟨k + 1, ks, by omega, by omega, by go_num, A2.out, O2.out, HX⟩
        case measure => simp [intOf]; omega
    · have HX : Hid (ks = K) := Lib.hid (by rw [← HP.out, selF_end _ (by omega), List.append_nil])
      clear hb ho
      go_wp2_with fail
      go_ret
      exact ⟨_, rfl, by rw [← HX.out]; exact HO.out, HB.out⟩
set_option maxHeartbeats 6400000 in
theorem implOverfullClasses_any (v : Value) (c : Cfg) (w : World) (HV : Hid (CfgV w v c)) (HM : Hid (CfgM c)) :
    Calls Tryd.prog 52 #[v] w (SaysVS w (selO c) (rawC c && ratesC c)) := by
  obtain ⟨ac, cc, af, cf, rfl, ic, if_⟩ := HV.out
  obtain ⟨s, cs, fs, d⟩ := c
  have hM := HM.out
  unfold CfgM at hM
  simp only at ic if_ hM HV ⊢
  obtain ⟨q0, q1, q2⟩ := hM
  have HI := Lib.hid ic
  have HJ := Lib.hid if_
  have HVB := Lib.hid (fun w' (b : Below w.heap.size w w') => Lib.hid (HV.out.below b))
  have A0 := Lib.hid (Aft.refl w (Obj.cells #[.string s, .slice ac cs.length cc, .slice af fs.length cf, .int .i64 d] 32))
  clear ic if_
  have HAS := Lib.hid (fun w' (b : Below w.heap.size w w') => isRaw_any (.agg #[.string s, .slice ac cs.length cc, .slice af fs.length cf, .int .i64 d]) ⟨s, cs, fs, d⟩ w' (HVB.out w' b) HM)
  have HRT := Lib.hid (fun w' HI => allOf_raw ac cs.length cc cs w' HI (Lib.hid rfl) q1 (Lib.hid (fun x w' => hasRawRate_any x w')))
  have HRC : Hid (fromK (fun k => rawR (cs.getD k cls0)) cs.length 0 = ratesC ⟨s, cs, fs, d⟩) := Lib.hid rfl
  rw [HRC.out] at HRT
  cases hh : rawC ⟨s, cs, fs, d⟩
  · rw [selO_raw hh, Bool.false_and]
    rw [hh] at HAS
    clear hh
    go_enter Tryd.func52, Tryd.ntmps52
    go_wp2_with (go_at_call 23; refine (HAS.out _ A0.out.all.2).mono ?_; rintro e w1 ⟨rfl, b1⟩; have A1 := Lib.hid (A0.out.on b1); clear b1)
    go_ret2
    exact ⟨_, rfl, World.ownsRow_nil _ _ _ _, A1.out.all.2⟩
  obtain ⟨h40, hf40⟩ := raw_of hh
  simp only at h40 hf40
  rw [hh] at HAS
  cases hr : ratesC ⟨s, cs, fs, d⟩
  · rw [selO_bad hh hr, Bool.true_and]
    rw [hr] at HRT
    clear hh hr HRC
    go_enter Tryd.func52, Tryd.ntmps52
    go_wp2_with (go_at_call 23; refine (HAS.out _ A0.out.all.2).mono ?_; rintro e w1 ⟨rfl, b1⟩; have A1 := Lib.hid (A0.out.on b1); obtain ⟨c0, c1, c2, c3, _⟩ := A1.out.all.1; clear b1)
    go_wp2_with (go_at_call 49; refine (HRT.out _ (Lib.hid (HI.out.below A1.out.all.2))).mono ?_; rintro e w2 ⟨rfl, b2⟩; have A2 := Lib.hid (A1.out.on b2); clear b2)
    go_ret2
    exact ⟨_, rfl, World.ownsRow_nil _ _ _ _, A2.out.all.2⟩
  · rw [selO_ok hh hr, Bool.true_and]
    rw [hr] at HRT
    simp only
    have HCL := Lib.hid (fun (w1 : World) (A1 : Aft w (Obj.cells #[.string s, .slice ac cs.length cc, .slice af fs.length cf, .int .i64 d] 32) w1) => iw_OverfullClasses w.heap.size cs.length (overP ⟨s, cs, fs, d⟩) w1 h40 (Lib.hid (fun k hk w' b => OverfullClasses_cl s ac af cs.length cc fs.length cf d cs fs w.heap.size k w' (Lib.hid (HI.out.below (A1.on b).all.2)) (Lib.hid (HJ.out.below (A1.on b).all.2)) (Lib.hid rfl) (Lib.hid rfl) h40 hf40 hk (Lib.hid (rates_raw hr)) (Lib.hid (A1.on b).all.1))))
    generalize selF (overP ⟨s, cs, fs, d⟩) cs.length 0 = K at HCL ⊢
    clear hh hr HRC
    go_enter Tryd.func52, Tryd.ntmps52
    go_wp2_with (go_at_call 23; refine (HAS.out _ A0.out.all.2).mono ?_; rintro e w1 ⟨rfl, b1⟩; have A1 := Lib.hid (A0.out.on b1); obtain ⟨c0, c1, c2, c3, _⟩ := A1.out.all.1; clear b1)
    go_wp2_with (go_at_call 49; refine (HRT.out _ (Lib.hid (HI.out.below A1.out.all.2))).mono ?_; rintro e w2 ⟨rfl, b2⟩; have A2 := Lib.hid (A1.out.on b2); clear c0 c1 c2 c3; obtain ⟨c0, c1, c2, c3, _⟩ := A2.out.all.1; clear b2)
    go_wp2_with (go_at_call 73; refine (HCL.out _ A2.out).mono ?_; rintro e w3 ⟨v3, rfl, o3, b3⟩; have A3 := Lib.hid (A2.out.on b3); have O3 := Lib.hid (own_base o3 A2.out.all.2.size); clear b3 o3)
    go_ret2
    exact ⟨_, rfl, O3.out, A3.out.all.2⟩
end Go.Proofs.YtfijhgggljaomaaDoor
