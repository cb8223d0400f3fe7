/- The children of an attribute: contracts of both sides. -/
import Derived.Test.YthflehdboccloaaAte
import Derived.Test.YthflehdboccloaaOni
import Derived.Deep.AppendLies
namespace Go.Proofs.Ythflehdboccloaa
open Go.RowKit
set_option linter.unusedVariables false
set_option maxRecDepth 100000

def kidsN (l : List At) (i k : Nat) : List Nat := (List.range k).filter (fun j => decide (i < j ∧ (gA l j).d = (gA l i).d + 1))
theorem kidsN_succ (l : List At) (i k : Nat) : kidsN l i (k + 1) = kidsN l i k ++ if i < k ∧ (gA l k).d = (gA l i).d + 1 then [k] else [] := by
  unfold kidsN
  rw [List.range_succ, List.filter_append]
  by_cases h : i < k ∧ (gA l k).d = (gA l i).d + 1
  · simp [h]
  · simp [h]
theorem kidsN_start (l : List At) (i : Nat) : kidsN l i (i + 1) = [] := by
  unfold kidsN
  rw [List.filter_eq_nil_iff]
  intro j hj
  simp at hj ⊢
  omega
theorem kidsN_same {l : List At} {i k e : Nat} (hke : k ≤ e) (h : ∀ j, k ≤ j → j < e → (gA l j).d ≠ (gA l i).d + 1) : kidsN l i e = kidsN l i k := by
  induction e with
  | zero => rw [Nat.le_zero.1 hke]
  | succ e ih =>
    rcases Nat.lt_or_eq_of_le hke with q | q
    · rw [kidsN_succ, ih (by omega) (fun j a b => h j a (by omega)), if_neg (fun x => h e (by omega) (by omega) x.2), List.append_nil]
    · rw [q]
theorem kidN_next {l : List At} (V : Va l) {i k : Nat} (hi : i < l.length) (hk : i < k) (hk2 : k < enA l i) (hd : (gA l k).d = (gA l i).d + 1) :
    kidsN l i (enA l k) = kidsN l i k ++ [k] ∧ enA l k ≤ enA l i ∧ (enA l k < enA l i → (gA l (enA l k)).d = (gA l i).d + 1) := by
  obtain ⟨a, b, c, d⟩ := enA_is hi
  obtain ⟨a', b', c', d'⟩ := enA_is (show k < l.length by omega)
  refine ⟨?_, en_in hi hk hk2, fun h => ?_⟩
  · rw [kidsN_same (k := k + 1) a' (fun j h1 h2 => by have := c' j (by omega) h2; omega), kidsN_succ, if_pos ⟨hk, hd⟩]
  · have := c (enA l k) (by omega) h
    have := d' (by omega)
    omega
theorem kidsN_len (l : List At) (i k : Nat) : (kidsN l i k).length ≤ k := by
  unfold kidsN
  exact Nat.le_trans (List.length_filter_le _ _) (by simp)
def resKids (l : List At) (i : Int) : List Nat := if hasA l i then kidsN l i.toNat (enA l i.toNat) else []
theorem resKids_len (l : List At) (i : Int) : (resKids l i).length ≤ 400 := by
  unfold resKids
  split
  · rename_i h
    obtain ⟨hl, k, rfl, hk⟩ := hasA_of h
    have := kidsN_len l k (enA l k)
    have := (enA_is hk).2.1
    have := (va hl).len
    rw [Int.toNat_natCast]
    omega
  · simp
theorem own_snoc {w wx w1 : World} {B k : Nat} {v v' : Value} {ks : List Nat} {u : Value} (hu : u = .int .i64 (k : Int)) (hb : Below B w wx) (h' : w1.ownsRow B 3 1 v' (ks.length + 1) (nv ks ++ [u])) (hB : B ≤ wx.heap.size) (hg : wx.grownBy w1 v.ownBlock) (hl : ∀ g, v.ownBlock = some g → B ≤ g) :
    w1.ownsRow B 3 1 v' (ks ++ [k]).length (nv (ks ++ [k])) ∧ Below B w w1 := by
  subst hu
  refine ⟨?_, hb.grown hg hB hl⟩
  rw [nv_snoc, List.length_append]
  exact h'
/-- a row of indices, and whether there is one -/
def SaysNB (w : World) (K : List Nat) (q : Bool) (e : Ending) (w' : World) : Prop := ∃ v, e = .returned (.tuple #[v, .bool q]) ∧ w'.ownsRow w.heap.size 3 1 v K.length (nv K) ∧ Below w.heap.size w w'
def SaysNs (w : World) (K : List Nat) (e : Ending) (w' : World) : Prop := ∃ v, e = .returned v ∧ w'.ownsRow w.heap.size 3 1 v K.length (nv K) ∧ Below w.heap.size w w'
theorem own_nil0 (w w' : World) : w'.ownsRow w.heap.size 3 1 (.slice none 0 0) (([] : List Nat)).length (nv []) := World.ownsRow_nil _ _ _ _
def TkRel (w : World) (l : List At) (i e : Nat) (out v : Value) (wr : World) : Prop :=
  ∃ (k : Nat) (ks : List Nat), i < k ∧ k ≤ e ∧ v = .int .i64 k ∧ BX w wr ∧ wr.ownsRow w.heap.size 3 1 out ks.length (nv ks) ∧ Hid (ks = kidsN l i k) ∧ Hid (k < e → (gA l k).d = (gA l i).d + 1)
set_option maxHeartbeats 6400000 in
theorem tvKids_any (ad : Option Addr) (n cap : Nat) (l : List At) (i : Nat) (w : World) (HI : Hid (InX w ad n (atCs l))) (hn : Hid (l.length = n)) (HV : Hid (Va l)) (hm : n ≤ 1048576) (hi1 : i < n) :
    Calls Try.prog 65 #[.slice ad n cap, .int .i64 (i : Int)] w (SaysNs w (kidsN l i (enA l i))) := by
  obtain ⟨i0, hi, hz0, hz1, hz2⟩ := info_parts infoI
  have hil : i < l.length := by rw [hn.out]; exact hi1
  obtain ⟨e, he⟩ : ∃ e, enA l i = e := ⟨_, rfl⟩
  obtain ⟨e1, e2, _⟩ := enA_is hil
  rw [he, hn.out] at e2
  rw [he] at e1
  have HF := Lib.hid (kid_first HV.out hil)
  have HE := Lib.hid (fun w h => tvEnd_any ad n cap l i w (Lib.hid h) hn hm hi1)
  have HEk := Lib.hid (fun k hk w h => tvEnd_any ad n cap l k w (Lib.hid h) hn hm hk)
  have HK := Lib.hid (fun k h1 h2 h3 => kidN_next HV.out (i := i) (k := k) hil h1 h2 h3)
  rw [he] at HF HE HK ⊢
  have HZ := Lib.hid he
  clear he
  go_enter Try.func65, Try.ntmps65
  go_wp2_with fail
  go_loopw [5, 6] (fun out v wr => TkRel w l i e out v wr) (fun _ v _ => n - (intOf v).toNat)
  case atStart => exact ⟨i + 1, [], by omega, by omega, by go_num, BX.refl w, own_nil0 w w, Lib.hid (kidsN_start l i).symm, Lib.hid (fun h => HF.out h)⟩
  case round =>
    obtain ⟨k, ks, hik, hke, rfl, hb, ho, HKS, HD⟩ := hrel
    have X1 := Lib.hid hb
    have O1 := Lib.hid ho
    clear hb ho
    by_cases hlt : k < e
    · have hkn : k < n := by omega
      obtain ⟨e', he'⟩ : ∃ e', enA l k = e' := ⟨_, rfl⟩
      have HEK := Lib.hid (fun w h => HEk.out k hkn w h)
      have HN := HK.out k hik hlt (HD.out hlt)
      have HL : Hid (ks.length ≤ k) := Lib.hid (by rw [HKS.out]; exact kidsN_len l i k)
      have hks := HL.out
      rw [he'] at HN HEK
      rw [← HKS.out] at HN
      have HNN := Lib.hid HN
      have hke' : k < e' := by rw [← he']; exact (enA_is (by rw [hn.out]; exact hkn)).1
      have hee : e' ≤ e := HN.2.1
      clear HN he'
      go_wp2_with (go_at_call 63; refine (HE.out _ (HI.out.below X1.out)).mono ?_; rintro _ w1 ⟨rfl, q, hq⟩; have X2 : Hid (BX w w1) := Lib.hid (by rw [hq]; exact bx_drew X1.out q); have O2 := Lib.hid (own_low O1.out (by rw [hq]; exact below_drewN (Below.refl _ _) q : Below wr.heap.size wr w1) (Nat.le_refl _)); clear hq; refine Hid.out ?_)
      refine Lib.hid ?_
      go_wp2_with (at_builtin; refine wpList_append_own _ rfl _ _ 41 rfl w.heap.size 3 i0 (.int .i64 0) 1 8 Try.underlying41 hi hz0 hz1 hz2 rfl (by decide) _ _ _ rfl (World.ownsRow.alloc (w := w1) O2.out _) ⟨(w1).heap.size, 0, none⟩ 1 1 [.int .i64 (k : Int)] rfl rfl (by have := one_int (w1) (.int .i64 (k : Int)) 3; simpa using this) (by intro u hu; simp at hu; subst hu; rfl) (by unfold maxLen; omega) (by omega) (by have := BX.size X2.out; simp; omega) ?_; intro v' w3 hown1 hgrow1 _)
      have F := Lib.hid (own_snoc rfl (Below.alloc X2.out (BX.size X2.out) _) hown1 (by have := BX.size X2.out; simp; omega) hgrow1 (fun g h => (World.ownsRow.lt O2.out g h).1))
      clear hown1 hgrow1
      go_wp2_with (go_at_call 63; refine (HEK.out _ (HI.out.below F.out.2)).mono ?_; rintro _ w4 ⟨rfl, q, hq⟩; have X4 : Hid (BX w w4) := Lib.hid (by rw [hq]; exact bx_drew F.out.2 q); have O4 := Lib.hid (own_low F.out.1 (by rw [hq]; exact below_drewN (Below.refl _ _) q : Below w3.heap.size w3 w4) (Nat.le_refl _)); clear hq)
      go_roundw
      case rel => exact ⟨e', ks ++ [k], by omega, hee, rfl, X4.out, O4.out, Lib.hid HNN.out.1.symm, Lib.hid HNN.out.2.2⟩
      case measure => simp [intOf]; omega
    · have hkn : k = e := by omega
      go_wp2_with (go_at_call 63; refine (HE.out _ (HI.out.below X1.out)).mono ?_; rintro _ w1 ⟨rfl, q, hq⟩; have X2 : Hid (BX w w1) := Lib.hid (by rw [hq]; exact bx_drew X1.out q); have O2 := Lib.hid (own_low O1.out (by rw [hq]; exact below_drewN (Below.refl _ _) q : Below wr.heap.size wr w1) (Nat.le_refl _)); clear hq)
      go_ret
      subst hkn
      rw [← HKS.out]
      exact ⟨_, rfl, O2.out, X2.out⟩
set_option maxHeartbeats 3200000 in
theorem specChildren_any (ad : Option Addr) (n cap : Nat) (l : List At) (i : Int) (w : World) (HI : Hid (InX w ad n (atCs l))) (hn : Hid (l.length = n)) (HM : Hid (SzM l)) (hm : n ≤ 1048576) :
    Calls Try.prog 30 #[.slice ad n cap, .int .i64 i] w (SaysNB w (resKids l i) (hasA l i)) := by
  have HG := Lib.hid (tvHas_any ad n cap l i w HI hn HM hm)
  cases hA : hasA l i
  · have HX : Hid (resKids l i = []) := Lib.hid (by unfold resKids; rw [hA]; rfl)
    rw [hA] at HG
    rw [HX.out]
    clear hA
    go_enter Try.func30, Try.ntmps30
    go_wp2_with (go_at_call 59; refine (HG.out).mono ?_; rintro e w1 ⟨rfl, b⟩; have B1 := Lib.hid b; clear b)
    go_ret2
    exact ⟨_, rfl, own_nil0 w _, B1.out⟩
  · obtain ⟨hl, k, rfl, hk⟩ := hasA_of hA
    have HX : Hid (resKids l k = kidsN l k (enA l k)) := Lib.hid (by unfold resKids; rw [hA, if_pos rfl, Int.toNat_natCast])
    rw [hA] at HG
    have HE := Lib.hid (fun w h => tvKids_any ad n cap l k w (Lib.hid h) hn (Lib.hid (va hl)) hm (by rw [← hn.out]; exact hk))
    rw [HX.out]
    generalize kidsN l k (enA l k) = R at HE ⊢
    clear hA HX
    go_enter Try.func30, Try.ntmps30
    go_wp2_with (first | (go_at_call 59; refine (HG.out).mono ?_; rintro e w1 ⟨rfl, b⟩; have B1 := Lib.hid b; have I1 := Lib.hid (HI.out.below b); clear b) | (go_at_call 65; refine (HE.out _ I1.out).mono ?_; rintro e w2 ⟨v, rfl, o, b⟩; have O2 := Lib.hid (own_base o B1.out.size); have B2 := Lib.hid (B1.out.trans (b.mono B1.out.size)); clear o b))
    go_ret2
    exact ⟨_, rfl, O2.out, B2.out⟩
def CkRel (w : World) (l : List At) (i e : Nat) (out v : Value) (wr : World) : Prop :=
  ∃ (k : Nat) (ks : List Nat), i < k ∧ k ≤ e ∧ v = .int .i64 k ∧ BX w wr ∧ wr.ownsRow w.heap.size 3 1 out ks.length (nv ks) ∧ Hid (ks = kidsN l i k)
set_option maxHeartbeats 6400000 in
theorem implChildren_any (ad : Option Addr) (n cap : Nat) (l : List At) (i : Int) (w : World) (HI : Hid (InX w ad n (atCs l))) (hn : Hid (l.length = n)) (HM : Hid (SzM l)) (hm : n ≤ 1048576) :
    Calls Try.prog 31 #[.slice ad n cap, .int .i64 i] w (SaysNB w (resKids l i) (hasA l i)) := by
  have HG := Lib.hid (implEndOf_any ad n cap l i w HI hn HM hm)
  cases hA : hasA l i
  · have HX : Hid (resKids l i = []) := Lib.hid (by unfold resKids; rw [hA]; rfl)
    rw [hA] at HG
    rw [HX.out]
    generalize resEn l i = R at HG
    clear hA
    go_enter Try.func31, Try.ntmps31
    go_wp2_with (go_at_call 29; refine (HG.out).mono ?_; rintro e w1 ⟨rfl, b⟩; have B1 := Lib.hid b; clear b)
    go_ret2
    exact ⟨_, rfl, own_nil0 w _, B1.out⟩
  obtain ⟨hl, i', rfl, hil⟩ := hasA_of hA
  obtain ⟨i0, hi, hz0, hz1, hz2⟩ := info_parts infoI
  have HX : Hid (resKids l i' = kidsN l i' (enA l i')) := Lib.hid (by unfold resKids; rw [hA, if_pos rfl, Int.toNat_natCast])
  have HEN : resEn l i' = enA l i' := by unfold resEn; rw [hA, if_pos rfl, Int.toNat_natCast]
  rw [hA, HEN] at HG
  rw [HX.out]
  have VV := Lib.hid (va hl)
  obtain ⟨e, he⟩ : ∃ e, enA l i' = e := ⟨_, rfl⟩
  obtain ⟨e1, e2, _⟩ := enA_is hil
  rw [he] at HG e1 e2 ⊢
  rw [hn.out] at e2
  have hin : i' < n := by rw [← hn.out]; exact hil
  obtain ⟨g, rfl, ht, hg⟩ := HI.out (by omega)
  have HT := Lib.hid ht
  obtain ⟨x, hx⟩ : ∃ x, gA l i' = x := ⟨_, rfl⟩
  have HXX := Lib.hid hx
  have hx1 := VV.out.pos i' hil
  have hx8 := VV.out.top i' hil
  rw [hx] at hx1 hx8
  clear hA HX HEN he ht hl hx
  go_enter Try.func31, Try.ntmps31
  go_wp2_with (go_at_call 29; refine (HG.out).mono ?_; rintro _ w1 ⟨rfl, b⟩; have B1 := Lib.hid b; have X0 : Hid (BX w w1) := Lib.hid b; clear b)
  go_loopw [8, 9] (fun out v wr => CkRel w l i' e out v wr) (fun _ v _ => n - (intOf v).toNat)
  case atStart => exact ⟨i' + 1, [], by omega, by omega, by go_num, X0.out, own_nil0 w _, Lib.hid (kidsN_start l i').symm⟩
  case round =>
    obtain ⟨k, ks, hik, hke, rfl, hb, ho, HKS⟩ := hrel
    have X1 := Lib.hid hb
    have O1 := Lib.hid ho
    clear hb ho
    by_cases hlt : k < e
    · have hkn : k < n := by omega
      have hkl : k < l.length := by rw [hn.out]; exact hkn
      obtain ⟨a0, _⟩ := (HT.out.below X1.out hg).atr i' hil x HXX.out
      obtain ⟨y, hy⟩ : ∃ y, gA l k = y := ⟨_, rfl⟩
      obtain ⟨b0, _⟩ := (HT.out.below X1.out hg).atr k hkl y hy
      have HL : Hid (ks.length ≤ k) := Lib.hid (by rw [HKS.out]; exact kidsN_len l i' k)
      have hks := HL.out
      have HS := Lib.hid (kidsN_succ l i' k)
      rw [hy, HXX.out, ← HKS.out] at HS
      obtain ⟨xd, xt, xn, xs⟩ := x
      obtain ⟨yd, yt, yn, ys⟩ := y
      simp only at a0 b0 HS hx1 hx8
      clear hy
      by_cases hxy : yd = xd + 1
      · have dq : (yd == xd + 1) = true := by simpa using hxy
        have HZ : Hid (ks ++ [k] = kidsN l i' (k + 1)) := Lib.hid (by rw [HS.out, if_pos ⟨hik, hxy⟩])
        clear HS hxy
        go_wp2_with fail
        go_quiet (fail)
        obtain ⟨wq, hwq⟩ : ∃ u, wr.drewN nq = u := ⟨_, rfl⟩
        have X2 : Hid (BX w wq) := Lib.hid (by rw [← hwq]; exact bx_drew X1.out nq)
        have O2 := Lib.hid (own_low O1.out (by rw [← hwq]; exact below_drewN (Below.refl _ _) nq : Below wr.heap.size wr wq) (Nat.le_refl _))
        rw [hwq]
        clear hwq
        go_wp2_with (at_builtin; refine wpList_append_own _ rfl _ _ 41 rfl w.heap.size 3 i0 (.int .i64 0) 1 8 Try.underlying41 hi hz0 hz1 hz2 rfl (by decide) _ _ _ rfl (World.ownsRow.alloc (w := wq) O2.out _) ⟨(wq).heap.size, 0, none⟩ 1 1 [.int .i64 (k : Int)] rfl rfl (by have := one_int (wq) (.int .i64 (k : Int)) 3; simpa using this) (by intro u hu; simp at hu; subst hu; rfl) (by unfold maxLen; omega) (by omega) (by have := BX.size X2.out; simp; omega) ?_; intro v' w3 hown1 hgrow1 _)
        have F := Lib.hid (own_snoc rfl (Below.alloc X2.out (BX.size X2.out) _) hown1 (by have := BX.size X2.out; simp; omega) hgrow1 (fun g h => (World.ownsRow.lt O2.out g h).1))
        clear hown1 hgrow1
        go_roundw
        case rel => exact ⟨k + 1, ks ++ [k], by omega, by omega, by go_num, F.out.2, F.out.1, HZ⟩
        case measure => simp [intOf]; omega
      · have dq : (yd == xd + 1) = false := by simpa using hxy
        have HZ : Hid (ks = kidsN l i' (k + 1)) := Lib.hid (by rw [HS.out, if_neg (fun q => hxy q.2), List.append_nil])
        clear HS hxy
        go_wp2_with fail
        go_quiet (fail)
        go_wp2_with fail
        go_roundw
        case rel => exact ⟨k + 1, ks, by omega, by omega, by go_num, bx_drew X1.out _, own_low O1.out (below_drewN (Below.refl _ _) nq) (Nat.le_refl _), HZ⟩
        case measure => simp [intOf]; omega
    · have hkn : k = e := by omega
      go_wp2_with fail
      go_ret2
      subst hkn
      rw [← HKS.out]
      exact ⟨_, rfl, O1.out, X1.out⟩
end Go.Proofs.Ythflehdboccloaa
