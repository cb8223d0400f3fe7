/- Sizes and offsets of attributes: contracts of both sides. -/
import Derived.Test.YthflehdboccloaaAtk
import Derived.StillTailTactics
namespace Go.Proofs.Ythflehdboccloaa
open Go.RowKit
set_option linter.unusedVariables false
set_option maxRecDepth 100000

theorem tvPad_any (s : Nat) (w : World) (h : s ≤ 1000000) : Calls Try.prog 86 #[.int .i64 (s : Int)] w fun e w' => e = .returned (.int .i64 ((padA s : Nat) : Int)) ∧ w = w' := by
  have HX : Hid (((padA s : Nat) : Int) = ((s : Int) + 3) / 4 * 4) := Lib.hid (by unfold padA; omega)
  have h1 : 0 ≤ ((s : Int) + 3) / 4 ∧ ((s : Int) + 3) / 4 ≤ 1000000 := by omega
  generalize ((padA s : Nat) : Int) = R at HX ⊢
  go_enter Try.func86, Try.ntmps86
  go_wp2
  go_ret
  exact ⟨ret_int2 HX.out.symm, rfl⟩
theorem pad_le {s : Nat} (h : s ≤ 1000) : padA (4 + s) ≤ 1004 := by unfold padA; omega
theorem sz_le {l : List At} (V : Va l) {p q : Nat} (h : q ≤ l.length) : ofA l q - ofA l p ≤ 401600 := by
  have := ofA_le V q h
  have := V.len
  omega
/-- the walk over a part -/
def LenAll (l : List At) (ad : Option Addr) (n cap N : Nat) : Prop := ∀ (p q : Nat) (w : World), InX w ad n (atCs l) → Thru l p q → q - p ≤ N → Calls Try.prog 60 #[.slice ad n cap, .int .i64 (p : Int), .int .i64 (q : Int)] w (SaysQ w (.int .i64 ((ofA l q - ofA l p : Nat) : Int)))
set_option maxHeartbeats 6400000 in
theorem tvSize_of (ad : Option Addr) (n cap N : Nat) (l : List At) (i : Nat) (w : World) (HL : Hid (LenAll l ad n cap N)) (HI : Hid (InX w ad n (atCs l))) (hn : Hid (l.length = n)) (HV : Hid (Va l)) (hm : n ≤ 1048576) (hi : i < n) (hN : enA l i - (i + 1) ≤ N) :
    Calls Try.prog 61 #[.slice ad n cap, .int .i64 (i : Int)] w (SaysQ w (.int .i64 ((szA l i : Nat) : Int))) := by
  obtain ⟨g, rfl, ht, hg⟩ := HI.out (by omega)
  have hil : i < l.length := by rw [hn.out]; exact hi
  obtain ⟨x, hx⟩ : ∃ x, gA l i = x := ⟨_, rfl⟩
  obtain ⟨a0, a1, a2, a3⟩ := ht.atr i hil x hx
  have hsz := HV.out.sz i hil
  have HE := Lib.hid (fun w h => tvEnd_any (some ⟨g, 0, none⟩) n cap l i w (Lib.hid h) hn hm hi)
  cases hnn : x.n
  · have HZ : Hid (szA l i = padA (4 + x.s.size)) := Lib.hid (by rw [sz_flat HV.out hil (by rw [hx]; exact hnn), hx])
    rw [hx] at hsz
    rw [HZ.out]
    obtain ⟨xd, xt, xn, s⟩ := x
    simp only at a0 a1 a2 a3 hsz hnn ⊢
    subst hnn
    have HP := Lib.hid (fun w => tvPad_any (4 + s.size) w (by omega))
    rw [show ((4 + s.size : Nat) : Int) = 4 + (s.size : Int) by omega] at HP
    generalize padA (4 + s.size) = Z at HP ⊢
    clear hx HZ ht
    go_enter Try.func61, Try.ntmps61
    go_wp2_with (go_at_call 86; refine (HP.out _).mono ?_; rintro e w1 ⟨rfl, rfl⟩)
    go_ret
    exact ⟨rfl, 0, rfl⟩
  · have hZ := sz_nested HV.out hil (by rw [hx]; exact hnn)
    have HL2 := Lib.hid (fun w h => HL.out (i + 1) (enA l i) w h (thru_in hil) hN)
    rw [show ((i + 1 : Nat) : Int) = (i : Int) + 1 by omega] at HL2
    have hb := sz_le HV.out (p := i + 1) (enA_is hil).2.1
    rw [hZ]
    generalize ofA l (enA l i) - ofA l (i + 1) = Z at HL2 hb ⊢
    generalize enA l i = e' at HL2 HE
    obtain ⟨xd, xt, xn, s⟩ := x
    simp only at a0 a1 a2 a3 hnn
    subst hnn
    clear hx hZ ht hsz
    go_enter Try.func61, Try.ntmps61
    go_wp2_with (go_at_call 63; refine (HE.out _ HI.out).mono ?_; rintro _ w1 ⟨rfl, q, hq⟩; have X1 : Hid (BX w w1) := Lib.hid (by rw [hq]; exact bx_drew (BX.refl w) q); have Q1 := Lib.hid hq; clear hq; refine Hid.out ?_)
    refine Lib.hid ?_
    go_wp2_with (go_at_call 60; refine (HL2.out _ (HI.out.below X1.out)).mono ?_; rintro _ w2 ⟨rfl, q2, hq2⟩; have Q2 := Lib.hid hq2; clear hq2)
    go_ret
    exact ⟨ret_int2 (by omega), _, by rw [Q2.out, Q1.out, World.drewN_drewN]⟩
def LnRel (w : World) (l : List At) (p q : Nat) (m v : Value) (wr : World) : Prop := ∃ k M d : Nat, p ≤ k ∧ Hid (Thru l k q) ∧ v = .int .i64 k ∧ m = .int .i64 M ∧ Hid (M + ofA l p = ofA l k) ∧ Hid (wr = w.drewN d)
set_option maxHeartbeats 6400000 in
theorem tvLength_all (ad : Option Addr) (n cap : Nat) (l : List At) (hn : Hid (l.length = n)) (HV : Hid (Va l)) (hm : n ≤ 1048576) : ∀ N, LenAll l ad n cap N
  | 0 => by
    intro p q w hI hT hN
    have hpq : q = p := by have := hT.1; omega
    subst hpq
    have e0 : ofA l q - ofA l q = 0 := by omega
    rw [e0]
    clear hT e0 hN hI
    go_enter Try.func60, Try.ntmps60
    go_wp2_with fail
    refine wp_loop_rounds 1 ?_
    rw [rounds_succ]
    go_wp2_with fail
    go_ret
    exact ⟨rfl, 0, rfl⟩
  | N + 1 => by
    intro p q w hI hT hN
    have HI := Lib.hid hI
    have HT := Lib.hid hT
    have HL := Lib.hid (tvLength_all ad n cap l hn HV hm N)
    have hq : q ≤ n := by rw [← hn.out]; exact hT.2.1
    have HM := Lib.hid (ofA_mono (l := l) hT.1 hT.2.1)
    clear hI hT
    go_enter Try.func60, Try.ntmps60
    go_wp2_with fail
    go_loopw [7, 8] (fun m v wr => LnRel w l p q m v wr) (fun _ v _ => n - (intOf v).toNat)
    case atStart => exact ⟨p, 0, 0, Nat.le_refl _, HT, rfl, rfl, Lib.hid (by omega), Lib.hid rfl⟩
    case round =>
      obtain ⟨k, M, d, hpk, HK, rfl, rfl, HMM, HW⟩ := hrel
      have X1 : Hid (BX w wr) := Lib.hid (by rw [HW.out]; exact bx_drew (BX.refl w) d)
      have hkq := HK.out.1
      have hMb : M ≤ 401600 := by
        have := ofA_le HV.out k (Nat.le_trans hkq HK.out.2.1)
        have := HV.out.len
        have := HMM.out
        have := HK.out.2.1
        omega
      by_cases hlt : k < q
      · have hkn : k < n := by omega
        have hkl : k < l.length := by rw [hn.out]; exact hkn
        obtain ⟨e1, e2, _⟩ := enA_is hkl
        have hek := HK.out.2.2 k (Nat.le_refl _) hlt
        have HS := Lib.hid (fun w h => tvSize_of ad n cap N l k w HL (Lib.hid h) hn HV hm hkn (by omega))
        have HE := Lib.hid (fun w h => tvEnd_any ad n cap l k w (Lib.hid h) hn hm hkn)
        have HZ := Lib.hid (of_end hkl)
        have HTn := Lib.hid (HK.out.next hlt)
        have hzb : szA l k ≤ 401600 := sz_le HV.out e2
        generalize szA l k = Z at HS HZ hzb
        generalize enA l k = e' at HE HZ HTn e1 e2 hek
        go_wp2_with (go_at_call 61; refine (HS.out _ (HI.out.below X1.out)).mono ?_; rintro _ w1 ⟨rfl, q1, hq1⟩; have X2 : Hid (BX w w1) := Lib.hid (by rw [hq1]; exact bx_drew X1.out q1); have Q1 := Lib.hid hq1; clear hq1; refine Hid.out ?_)
        refine Lib.hid ?_
        go_wp2_with (go_at_call 63; refine (HE.out _ (HI.out.below X2.out)).mono ?_; rintro _ w2 ⟨rfl, q2, hq2⟩; have Q2 := Lib.hid hq2; clear hq2)
        go_roundw
        case rel => exact ⟨e', M + Z, d + q1 + q2, by omega, HTn, rfl, by simp, Lib.hid (by have := HMM.out; have := HZ.out; omega), Lib.hid (by rw [Q2.out, Q1.out, HW.out, World.drewN_drewN, World.drewN_drewN, Nat.add_assoc])⟩
        case measure => simp [intOf]; omega
      · have hkq2 : k = q := by omega
        subst hkq2
        go_wp2_with fail
        go_ret
        exact ⟨ret_int2 (by have := HMM.out; omega), d, HW.out⟩
theorem tvLength_any (ad : Option Addr) (n cap : Nat) (l : List At) (hn : Hid (l.length = n)) (HV : Hid (Va l)) (hm : n ≤ 1048576) (p q : Nat) (w : World) (hI : InX w ad n (atCs l)) (hT : Thru l p q) :
    Calls Try.prog 60 #[.slice ad n cap, .int .i64 (p : Int), .int .i64 (q : Int)] w (SaysQ w (.int .i64 ((ofA l q - ofA l p : Nat) : Int))) :=
  tvLength_all ad n cap l hn HV hm (q - p) p q w hI hT (Nat.le_refl _)
theorem tvSize_any (ad : Option Addr) (n cap : Nat) (l : List At) (i : Nat) (w : World) (HI : Hid (InX w ad n (atCs l))) (hn : Hid (l.length = n)) (HV : Hid (Va l)) (hm : n ≤ 1048576) (hi : i < n) :
    Calls Try.prog 61 #[.slice ad n cap, .int .i64 (i : Int)] w (SaysQ w (.int .i64 ((szA l i : Nat) : Int))) :=
  tvSize_of ad n cap _ l i w (Lib.hid (tvLength_all ad n cap l hn HV hm (enA l i - (i + 1)))) HI hn HV hm hi (Nat.le_refl _)
set_option maxHeartbeats 6400000 in
theorem tvOffset_all (ad : Option Addr) (n cap : Nat) (l : List At) (hn : Hid (l.length = n)) (HV : Hid (Va l)) (hm : n ≤ 1048576) : ∀ (N i : Nat) (w : World), i < N → i < n → InX w ad n (atCs l) →
    Calls Try.prog 71 #[.slice ad n cap, .int .i64 (i : Int)] w (SaysQ w (.int .i64 ((ofA l i : Nat) : Int)))
  | 0, i, w, h, _, _ => absurd h (Nat.not_lt_zero _)
  | N + 1, i, w, hN, hi, hI => by
    have HI := Lib.hid hI
    have hil : i < l.length := by rw [hn.out]; exact hi
    have HP := Lib.hid (fun w h => tvParent_any ad n cap l i w (Lib.hid h) hn hm hi)
    have HT := thru_up hil
    rcases Int.lt_or_le (upA l i) 0 with hu | hu
    · have hu1 : upA l i = -1 := by have := (upG_is l (gA l i).d i).1; unfold upA at hu ⊢; omega
      rw [hu1] at HT HP
      have HL := Lib.hid (fun w h => tvLength_any ad n cap l hn HV hm 0 i w h HT)
      rw [ofA_zero, Nat.sub_zero] at HL
      generalize ofA l i = Z at HL ⊢
      clear hI HT
      go_enter Try.func71, Try.ntmps71
      go_wp2_with (go_at_call 66; refine (HP.out _ HI.out).mono ?_; rintro _ w1 ⟨rfl, q, hq⟩; have X1 : Hid (BX w w1) := Lib.hid (by rw [hq]; exact bx_drew (BX.refl w) q); have Q1 := Lib.hid hq; clear hq; refine Hid.out ?_)
      refine Lib.hid ?_
      go_wp2_with (go_at_call 60; refine (HL.out _ (HI.out.below X1.out)).mono ?_; rintro _ w2 ⟨rfl, q2, hq2⟩; have Q2 := Lib.hid hq2; clear hq2)
      go_ret
      exact ⟨rfl, _, by rw [Q2.out, Q1.out, World.drewN_drewN]⟩
    · have hne := up_nested HV.out hil hu
      obtain ⟨u, hu2⟩ : ∃ u : Nat, upA l i = (u : Int) := ⟨(upA l i).toNat, by omega⟩
      have hlt : u < i := by have := (upG_is l (gA l i).d i).2.1; unfold upA at hu2; omega
      rw [hu2] at HT HP hne
      rw [Int.toNat_natCast] at hne
      rw [show ((u : Int) + 1).toNat = u + 1 by omega] at HT
      have HL := Lib.hid (fun w h => tvLength_any ad n cap l hn HV hm (u + 1) i w h HT)
      rw [show ((u + 1 : Nat) : Int) = (u : Int) + 1 by omega] at HL
      have HO := Lib.hid (fun w h => tvOffset_all ad n cap l hn HV hm N u w (by omega) (by omega) h)
      have hs := of_nested HV.out (show u < l.length by omega) hne
      have hmono := ofA_mono (l := l) HT.1 HT.2.1
      have hb := ofA_le HV.out i (by omega)
      have hlen := HV.out.len
      obtain ⟨Z, hZ⟩ : ∃ Z, ofA l u = Z := ⟨_, rfl⟩
      obtain ⟨Y, hY⟩ : ∃ Y, ofA l i - ofA l (u + 1) = Y := ⟨_, rfl⟩
      have HX : Hid (ofA l i = Z + 4 + Y) := Lib.hid (by omega)
      have hzb : Z ≤ 401600 ∧ Y ≤ 401600 := by omega
      obtain ⟨hzb1, hzb2⟩ := hzb
      rw [hZ] at HO
      rw [hY] at HL
      generalize ofA l i = R at HX ⊢
      have d0 : decide ((u : Int) < 0) = false := not_lt (by omega)
      clear hI HT hs hmono hb hlen hZ hY hne hu hu2
      go_enter Try.func71, Try.ntmps71
      go_wp2_with (go_at_call 66; refine (HP.out _ HI.out).mono ?_; rintro _ w1 ⟨rfl, q, hq⟩; have X1 : Hid (BX w w1) := Lib.hid (by rw [hq]; exact bx_drew (BX.refl w) q); have Q1 := Lib.hid hq; clear hq; refine Hid.out ?_)
      refine Lib.hid ?_
      go_wp2_with (go_at_call 71; refine (HO.out _ (HI.out.below X1.out)).mono ?_; rintro _ w2 ⟨rfl, q2, hq2⟩; have X2 : Hid (BX w w2) := Lib.hid (by rw [hq2]; exact bx_drew X1.out q2); have Q2 := Lib.hid hq2; clear hq2; refine Hid.out ?_)
      refine Lib.hid ?_
      go_wp2_with (go_at_call 60; refine (HL.out _ (HI.out.below X2.out)).mono ?_; rintro _ w3 ⟨rfl, q3, hq3⟩; have Q3 := Lib.hid hq3; clear hq3)
      go_ret
      exact ⟨ret_int2 (by have := HX.out; omega), _, by rw [Q3.out, Q2.out, Q1.out, World.drewN_drewN, World.drewN_drewN]⟩
/-! SizeOf and OffsetOf. -/
def okS (l : List At) (i : Int) : Bool := hasA l i && decide (ofA l l.length ≤ 6000)
def resSz (l : List At) (i : Int) : Int := if okS l i then ((szA l i.toNat : Nat) : Int) else 0
def resOf (l : List At) (i : Int) : Int := if okS l i then ((ofA l i.toNat : Nat) : Int) else 0
theorem okS_no {l : List At} {i : Int} (h : hasA l i = false) : okS l i = false := by unfold okS; rw [h]; rfl
theorem okS_big {l : List At} {i : Int} (h : ¬ ofA l l.length ≤ 6000) : okS l i = false := by unfold okS; rw [decide_eq_false h, Bool.and_false]
theorem okS_yes {l : List At} {i : Int} (h : hasA l i = true) (h2 : ofA l l.length ≤ 6000) : okS l i = true := by unfold okS; rw [h, decide_eq_true h2]; rfl
set_option maxHeartbeats 6400000 in
theorem specSizeOf_any (ad : Option Addr) (n cap : Nat) (l : List At) (i : Int) (w : World) (HI : Hid (InX w ad n (atCs l))) (hn : Hid (l.length = n)) (HM : Hid (SzM l)) (hm : n ≤ 1048576) :
    Calls Try.prog 26 #[.slice ad n cap, .int .i64 i] w (SaysT2 w (.int .i64 (resSz l i)) (.bool (okS l i))) := by
  have HG := Lib.hid (tvHas_any ad n cap l i w HI hn HM hm)
  cases hA : hasA l i
  · have hk := okS_no hA
    have HX : Hid (resSz l i = 0) := Lib.hid (by unfold resSz; rw [hk]; rfl)
    rw [hA] at HG
    rw [hk]
    generalize resSz l i = R at HX ⊢
    clear hA hk
    go_enter Try.func26, Try.ntmps26
    go_wp2_with (go_at_call 59; refine (HG.out).mono ?_; rintro e w1 ⟨rfl, b⟩; have B1 := Lib.hid b; clear b)
    go_ret2
    exact ⟨ret_ib HX.out.symm rfl, B1.out⟩
  obtain ⟨hl, k, rfl, hk⟩ := hasA_of hA
  rw [hA] at HG
  have hkn : k < n := by rw [← hn.out]; exact hk
  have HV := Lib.hid (va hl)
  have HL := Lib.hid (fun w h => tvLength_any ad n cap l hn HV hm 0 l.length w h (thru_all l))
  rw [ofA_zero, Nat.sub_zero] at HL
  have hb := ofA_le HV.out l.length (Nat.le_refl _)
  have hlen := HV.out.len
  by_cases h6 : ofA l l.length ≤ 6000
  · have hok := okS_yes hA h6
    have HX : Hid (resSz l k = ((szA l k : Nat) : Int)) := Lib.hid (by unfold resSz; rw [hok, if_pos rfl, Int.toNat_natCast])
    have HS := Lib.hid (fun w h => tvSize_any ad n cap l k w (Lib.hid h) hn HV hm hkn)
    rw [hok]
    rw [hn.out] at HL h6
    have d6 : decide ((6000 : Int) < ((ofA l n : Nat) : Int)) = false := not_lt (by omega)
    generalize ofA l n = M at HL h6 d6
    generalize resSz l k = R at HX ⊢
    generalize szA l k = Z at HX HS
    clear hA hl hok hb hlen
    go_enter Try.func26, Try.ntmps26
    go_wp2_with (go_at_call 59; refine (HG.out).mono ?_; rintro e w1 ⟨rfl, b⟩; have B1 := Lib.hid b; have I1 := Lib.hid (HI.out.below b); clear b; refine Hid.out ?_)
    refine Lib.hid ?_
    go_wp2_with (go_at_call 60; refine (HL.out _ I1.out).mono ?_; rintro _ w2 ⟨rfl, q, hq⟩; have B2 : Hid (Below w.heap.size w w2) := Lib.hid (by rw [hq]; exact B1.out.trans ((below_drewN (Below.refl _ _) q).mono B1.out.size)); clear hq; refine Hid.out ?_)
    refine Lib.hid ?_
    go_wp2_with (go_at_call 61; refine (HS.out _ (HI.out.below B2.out)).mono ?_; rintro _ w3 ⟨rfl, q, hq⟩; have B3 : Hid (Below w.heap.size w w3) := Lib.hid (by rw [hq]; exact B2.out.trans ((below_drewN (Below.refl _ _) q).mono B2.out.size)); clear hq)
    go_ret2
    exact ⟨ret_ib HX.out.symm rfl, B3.out⟩
  · have hok := okS_big (i := (k : Int)) h6
    have HX : Hid (resSz l k = 0) := Lib.hid (by unfold resSz; rw [hok]; rfl)
    rw [hok]
    rw [hn.out] at HL h6
    have hb2 : ofA l n ≤ 401600 := by rw [hn.out] at hb hlen; omega
    have d6 : decide ((6000 : Int) < ((ofA l n : Nat) : Int)) = true := is_lt (by omega)
    generalize ofA l n = M at HL h6 d6 hb2
    generalize resSz l k = R at HX ⊢
    clear hA hl hok hb hlen
    go_enter Try.func26, Try.ntmps26
    go_wp2_with (go_at_call 59; refine (HG.out).mono ?_; rintro e w1 ⟨rfl, b⟩; have B1 := Lib.hid b; have I1 := Lib.hid (HI.out.below b); clear b; refine Hid.out ?_)
    refine Lib.hid ?_
    go_wp2_with (go_at_call 60; refine (HL.out _ I1.out).mono ?_; rintro _ w2 ⟨rfl, q, hq⟩; have B2 : Hid (Below w.heap.size w w2) := Lib.hid (by rw [hq]; exact B1.out.trans ((below_drewN (Below.refl _ _) q).mono B1.out.size)); clear hq)
    go_ret2
    exact ⟨ret_ib HX.out.symm rfl, B2.out⟩
set_option maxHeartbeats 6400000 in
theorem specOffsetOf_any (ad : Option Addr) (n cap : Nat) (l : List At) (i : Int) (w : World) (HI : Hid (InX w ad n (atCs l))) (hn : Hid (l.length = n)) (HM : Hid (SzM l)) (hm : n ≤ 1048576) :
    Calls Try.prog 40 #[.slice ad n cap, .int .i64 i] w (SaysT2 w (.int .i64 (resOf l i)) (.bool (okS l i))) := by
  have HG := Lib.hid (tvHas_any ad n cap l i w HI hn HM hm)
  cases hA : hasA l i
  · have hk := okS_no hA
    have HX : Hid (resOf l i = 0) := Lib.hid (by unfold resOf; rw [hk]; rfl)
    rw [hA] at HG
    rw [hk]
    generalize resOf l i = R at HX ⊢
    clear hA hk
    go_enter Try.func40, Try.ntmps40
    go_wp2_with (go_at_call 59; refine (HG.out).mono ?_; rintro e w1 ⟨rfl, b⟩; have B1 := Lib.hid b; clear b)
    go_ret2
    exact ⟨ret_ib HX.out.symm rfl, B1.out⟩
  obtain ⟨hl, k, rfl, hk⟩ := hasA_of hA
  rw [hA] at HG
  have hkn : k < n := by rw [← hn.out]; exact hk
  have HV := Lib.hid (va hl)
  have HL := Lib.hid (fun w h => tvLength_any ad n cap l hn HV hm 0 l.length w h (thru_all l))
  rw [ofA_zero, Nat.sub_zero] at HL
  have hb := ofA_le HV.out l.length (Nat.le_refl _)
  have hlen := HV.out.len
  by_cases h6 : ofA l l.length ≤ 6000
  · have hok := okS_yes hA h6
    have HX : Hid (resOf l k = ((ofA l k : Nat) : Int)) := Lib.hid (by unfold resOf; rw [hok, if_pos rfl, Int.toNat_natCast])
    have HS := Lib.hid (fun w h => tvOffset_all ad n cap l hn HV hm (k + 1) k w (by omega) hkn h)
    rw [hok]
    rw [hn.out] at HL h6
    have d6 : decide ((6000 : Int) < ((ofA l n : Nat) : Int)) = false := not_lt (by omega)
    generalize ofA l n = M at HL h6 d6
    generalize resOf l k = R at HX ⊢
    generalize ofA l k = Z at HX HS
    clear hA hl hok hb hlen
    go_enter Try.func40, Try.ntmps40
    go_wp2_with (go_at_call 59; refine (HG.out).mono ?_; rintro e w1 ⟨rfl, b⟩; have B1 := Lib.hid b; have I1 := Lib.hid (HI.out.below b); clear b; refine Hid.out ?_)
    refine Lib.hid ?_
    go_wp2_with (go_at_call 60; refine (HL.out _ I1.out).mono ?_; rintro _ w2 ⟨rfl, q, hq⟩; have B2 : Hid (Below w.heap.size w w2) := Lib.hid (by rw [hq]; exact B1.out.trans ((below_drewN (Below.refl _ _) q).mono B1.out.size)); clear hq; refine Hid.out ?_)
    refine Lib.hid ?_
    go_wp2_with (go_at_call 71; refine (HS.out _ (HI.out.below B2.out)).mono ?_; rintro _ w3 ⟨rfl, q, hq⟩; have B3 : Hid (Below w.heap.size w w3) := Lib.hid (by rw [hq]; exact B2.out.trans ((below_drewN (Below.refl _ _) q).mono B2.out.size)); clear hq)
    go_ret2
    exact ⟨ret_ib HX.out.symm rfl, B3.out⟩
  · have hok := okS_big (i := (k : Int)) h6
    have HX : Hid (resOf l k = 0) := Lib.hid (by unfold resOf; rw [hok]; rfl)
    rw [hok]
    rw [hn.out] at HL h6
    have hb2 : ofA l n ≤ 401600 := by rw [hn.out] at hb hlen; omega
    have d6 : decide ((6000 : Int) < ((ofA l n : Nat) : Int)) = true := is_lt (by omega)
    generalize ofA l n = M at HL h6 d6 hb2
    generalize resOf l k = R at HX ⊢
    clear hA hl hok hb hlen
    go_enter Try.func40, Try.ntmps40
    go_wp2_with (go_at_call 59; refine (HG.out).mono ?_; rintro e w1 ⟨rfl, b⟩; have B1 := Lib.hid b; have I1 := Lib.hid (HI.out.below b); clear b; refine Hid.out ?_)
    refine Lib.hid ?_
    go_wp2_with (go_at_call 60; refine (HL.out _ I1.out).mono ?_; rintro _ w2 ⟨rfl, q, hq⟩; have B2 : Hid (Below w.heap.size w w2) := Lib.hid (by rw [hq]; exact B1.out.trans ((below_drewN (Below.refl _ _) q).mono B1.out.size)); clear hq)
    go_ret2
    exact ⟨ret_ib HX.out.symm rfl, B2.out⟩
end Go.Proofs.Ythflehdboccloaa
