/- The types on the way to an attribute; FindAttr: contracts of both sides. -/
import Derived.Test.YthflehdboccloaaAtk
namespace Go.Proofs.Ythflehdboccloaa
open Go.RowKit
set_option linter.unusedVariables false
set_option maxRecDepth 100000

/-! The types on a way. -/
def wyA (l : List At) : Nat → List Int
  | 0 => []
  | k + 1 => (wyA l k).take ((gA l k).d - 1).toNat ++ [(gA l k).t]
theorem wy_len {l : List At} (V : Va l) : ∀ k, k < l.length → (wyA l (k + 1)).length = (gA l k).d.toNat
  | 0, h => by
    have := V.fst h
    rw [wyA, wyA, this]
    rfl
  | k + 1, h => by
    have ih := wy_len V k (by omega)
    have := V.up k h
    have := V.pos (k + 1) h
    rw [wyA, List.length_append, List.length_take, ih]
    simp only [List.length_cons, List.length_nil]
    omega
theorem wy_pre {l : List At} (V : Va l) {k : Nat} (h : k < l.length) : ((gA l k).d - 1).toNat ≤ (wyA l k).length := by
  match k, h with
  | 0, h => rw [V.fst h]; exact Nat.zero_le _
  | k + 1, h =>
    rw [wy_len V k (by omega)]
    have := V.up k h
    omega
theorem wy_take {l : List At} (V : Va l) {i : Nat} (hi : i < l.length) : ∀ f k, (upA l i + 1).toNat + f = k → k ≤ i → (wyA l k).take ((gA l i).d - 1).toNat = wyA l (upA l i + 1).toNat
  | 0, k, hk, _ => by
    obtain ⟨a, b, c, d⟩ := upG_is l (gA l i).d i
    rw [Nat.add_zero] at hk
    rw [hk]
    refine List.take_of_length_le ?_
    rcases Int.lt_or_le (upA l i) 0 with hu | hu
    · have : k = 0 := by unfold upA at hu hk; omega
      rw [this]
      exact Nat.zero_le _
    · obtain ⟨u, hu2⟩ : ∃ u : Nat, upA l i = (u : Int) := ⟨(upA l i).toNat, by omega⟩
      have e := up_depth V hi hu
      rw [hu2, Int.toNat_natCast] at e
      have hk2 : k = u + 1 := by omega
      have hul : u < l.length := by unfold upA at hu2; omega
      rw [hk2, wy_len V u hul, e]
      exact Nat.le_refl _
  | f + 1, k, hk, hki => by
    obtain ⟨a, b, c, d⟩ := upG_is l (gA l i).d i
    obtain ⟨j, rfl⟩ : ∃ j, k = j + 1 := ⟨k - 1, by omega⟩
    have ih := wy_take V hi f j (by omega) (by omega)
    have hc : (gA l i).d ≤ (gA l j).d := c j (by unfold upA at hk; omega) (by omega)
    have hp := wy_pre V (show j < l.length by omega)
    rw [wyA, List.take_append_of_le_length (by rw [List.length_take]; omega), List.take_take, Nat.min_eq_left (by omega)]
    exact ih
theorem wy_step {l : List At} (V : Va l) {i : Nat} (hi : i < l.length) : wyA l (i + 1) = wyA l (upA l i + 1).toNat ++ [(gA l i).t] := by
  have hb := (upG_is l (gA l i).d i).2.1
  rw [wyA, wy_take V hi (i - (upA l i + 1).toNat) i (by unfold upA; omega) (Nat.le_refl _)]
theorem wy_rng {l : List At} (V : Va l) : ∀ k, k ≤ l.length → ∀ t ∈ wyA l k, 0 ≤ t ∧ t ≤ 32767
  | 0, _, t, ht => by cases ht
  | k + 1, h, t, ht => by
    rw [wyA, List.mem_append] at ht
    rcases ht with ht | ht
    · exact wy_rng V k (by omega) t (List.mem_of_mem_take ht)
    · rw [List.mem_singleton] at ht
      rw [ht]
      exact ⟨V.t0 k (by omega), V.t1 k (by omega)⟩
def isA (l : List At) (ts : List Int) (i : Nat) : Bool := decide (wyA l (i + 1) = ts)
theorem isA_len {l : List At} (V : Va l) {ts : List Int} {i : Nat} (hi : i < l.length) (h : (gA l i).d ≠ ts.length) : isA l ts i = false := by
  unfold isA
  refine decide_eq_false fun e => h ?_
  have := wy_len V i hi
  rw [e] at this
  have := V.pos i hi
  omega
def fdG (l : List At) (ts : List Int) : Nat → Nat → Int
  | 0, _ => -1
  | f + 1, k => if isA l ts k then (k : Int) else fdG l ts f (k + 1)
def fdA (l : List At) (ts : List Int) : Int := if lsA l then fdG l ts l.length 0 else -1
def resF1 (l : List At) (ts : List Int) : Int := if fdA l ts < 0 then 0 else fdA l ts
def resF2 (l : List At) (ts : List Int) : Bool := decide (0 ≤ fdA l ts)
theorem fdG_low (l : List At) (ts : List Int) : ∀ f k, -1 ≤ fdG l ts f k
  | 0, _ => by simp [fdG]
  | f + 1, k => by
    unfold fdG
    split
    · omega
    · exact fdG_low l ts f (k + 1)
theorem resF_no {l : List At} {ts : List Int} (h : fdA l ts = -1) : resF1 l ts = 0 ∧ resF2 l ts = false := by
  unfold resF1 resF2; rw [h]; exact ⟨rfl, rfl⟩
theorem resF_at {l : List At} {ts : List Int} {k : Nat} (h : fdA l ts = k) : resF1 l ts = k ∧ resF2 l ts = true := by
  unfold resF1 resF2; rw [h, if_neg (by omega), decide_eq_true (by omega)]; exact ⟨rfl, rfl⟩
theorem fdG_none {l : List At} {ts : List Int} : ∀ f k, k + f = l.length → (∀ j, j < l.length → isA l ts j = false) → fdG l ts f k = -1
  | 0, _, _, _ => rfl
  | f + 1, k, hk, h => by
    rw [fdG, h k (by omega)]
    exact fdG_none f (k + 1) (by omega) h
def okT (ts : List Int) : Bool := inB ts.length 1 8 && ts.all (fun t => inB t 0 32767)
theorem fd_bad {l : List At} {ts : List Int} (h : okT ts = false) : fdA l ts = -1 := by
  unfold fdA
  cases hl : lsA l
  · rfl
  rw [if_pos rfl]
  have V := va hl
  refine fdG_none _ _ (by omega) fun j hj => decide_eq_false fun e => ?_
  have hlen := wy_len V j hj
  rw [e] at hlen
  have := V.pos j hj
  have := V.top j hj
  have hr := wy_rng V (j + 1) hj
  rw [e] at hr
  have h1 : okT ts = true := by
    unfold okT inB
    simp only [Bool.and_eq_true, decide_eq_true_eq, List.all_eq_true]
    exact ⟨by omega, fun t ht => hr t ht⟩
  rw [h] at h1
  cases h1
theorem getD_take {ts : List Int} {e : Nat} (h : e < ts.length) : ts.take (e + 1) = ts.take e ++ [ts.getD e 0] := by
  rw [List.take_succ_eq_append_getElem h]
  simp [List.getD_eq_getElem?_getD, h]
theorem AtC.int {w : World} {g : Nat} {zs : List Int} (h : AtC w g (iv zs)) (k : Nat) (hk : k < zs.length) (c : Int) (hc : zs.getD k 0 = c) : w.cell? ⟨g, k, none⟩ = some (.int .i64 c) := by
  subst hc
  exact h.at k (iv_get zs k hk)
theorem ret_bool2 {a b : Bool} (h : a = b) : Ending.returned (.bool a) = .returned (.bool b) := by rw [h]
/-! All numbers in a range. -/
def LaRel (ts : List Int) (n : Nat) (lo hi : Int) (R : Bool) (v : Value) : Prop := ∃ k : Nat, k ≤ n ∧ v = .int .i64 k ∧ Hid ((ts.drop k).all (fun t => inB t lo hi) = R)
set_option maxHeartbeats 3200000 in
theorem l1All_any (ad : Option Addr) (n cap : Nat) (ts : List Int) (lo hi : Int) (w : World) (HI : Hid (InX w ad n (iv ts))) (hn : Hid (ts.length = n)) (hm : n ≤ 1048576) :
    Calls Try.prog 68 #[.slice ad n cap, .int .i64 lo, .int .i64 hi] w fun e w' => e = .returned (.bool (ts.all (fun t => inB t lo hi))) ∧ w = w' := by
  obtain ⟨R, hR⟩ : ∃ R, ts.all (fun t => inB t lo hi) = R := ⟨_, rfl⟩
  have H0 : Hid ((ts.drop 0).all (fun t => inB t lo hi) = R) := Lib.hid hR
  rw [hR]
  clear hR
  go_enter Try.func68, Try.ntmps68
  go_wp2_with fail
  go_loop [11] (fun v => LaRel ts n lo hi R v) (fun v => n - (intOf v).toNat)
  case atStart => exact ⟨0, Nat.zero_le _, rfl, H0⟩
  case round =>
    obtain ⟨k, hk, rfl, HP⟩ := hrel
    by_cases hlt : k < n
    · obtain ⟨g, rfl, ht, hg⟩ := HI.out (by omega)
      have hl1 : k < ts.length := by rw [hn.out]; exact hlt
      obtain ⟨c, hc⟩ : ∃ c, ts.getD k 0 = c := ⟨_, rfl⟩
      have a0 := ht.int k hl1 c hc
      have HE : Hid ((ts.drop k).all (fun t => inB t lo hi) = (inB c lo hi && (ts.drop (k + 1)).all (fun t => inB t lo hi))) := Lib.hid (by
        rw [List.drop_eq_getElem_cons hl1, List.all_cons, show ts[k] = c by rw [← hc]; simp [List.getD_eq_getElem?_getD, hl1]])
      have HN := Lib.hid (fun w => l1In_any c lo hi w)
      cases hb : inB c lo hi
      · rw [hb] at HN HE
        have HZ : Hid (R = false) := Lib.hid (by rw [← HP.out, HE.out]; rfl)
        clear hc ht hb
        go_wp2_with (go_at_call 67; refine (HN.out _).mono ?_; rintro e w' ⟨rfl, rfl⟩)
        go_ret
        exact ⟨ret_bool2 HZ.out.symm, rfl⟩
      · rw [hb] at HN HE
        have HZ : Hid ((ts.drop (k + 1)).all (fun t => inB t lo hi) = R) := Lib.hid (by rw [← HP.out, HE.out, Bool.true_and])
        clear hc ht hb
        go_wp2_with (go_at_call 67; refine (HN.out _).mono ?_; rintro e w' ⟨rfl, rfl⟩)
        go_round
        case rel => exact ⟨k + 1, by omega, by go_num, HZ⟩
        case measure => simp [intOf]; omega
    · have HZ : Hid (R = true) := Lib.hid (by rw [← HP.out, List.drop_eq_nil_of_le (by rw [hn.out]; omega)]; rfl)
      go_wp2_with fail
      go_ret
      exact ⟨ret_bool2 HZ.out.symm, rfl⟩
/-! Two slices of numbers. -/
def EiRel (w : World) (X Y : List Int) (n : Nat) (v : Value) (wr : World) : Prop := ∃ k q : Nat, k ≤ n ∧ v = .int .i64 k ∧ Hid (X.take k = Y.take k) ∧ Hid (wr = w.drewN q)
set_option maxHeartbeats 3200000 in
theorem equalI_any (ad bd : Option Addr) (n m ca cb : Nat) (X Y : List Int) (w : World) (HA : Hid (InX w ad n (iv X))) (HB : Hid (InX w bd m (iv Y))) (hx : Hid (X.length = n)) (hy : Hid (Y.length = m)) (hn : n ≤ 1048576) (hm : m ≤ 1048576) :
    Calls Try.prog 70 #[.slice ad n ca, .slice bd m cb] w (SaysQ w (.bool (decide (X = Y)))) := by
  by_cases hnm : n = m
  · subst hnm
    go_enter Try.func70, Try.ntmps70
    go_wp2_with fail
    go_loopw [13] (fun v wr => EiRel w X Y n v wr) (fun v _ => n - (intOf v).toNat)
    case atStart => exact ⟨0, 0, Nat.zero_le _, rfl, Lib.hid rfl, Lib.hid rfl⟩
    case round =>
      obtain ⟨k, q, hk, rfl, HP, HW⟩ := hrel
      have X1 : Hid (BX w wr) := Lib.hid (by rw [HW.out]; exact bx_drew (BX.refl w) q)
      by_cases hlt : k < n
      · obtain ⟨ga, rfl, hta, hga⟩ := HA.out (by omega)
        obtain ⟨gb, rfl, htb, hgb⟩ := HB.out (by omega)
        have hkx : k < X.length := by rw [hx.out]; exact hlt
        have hky : k < Y.length := by rw [hy.out]; exact hlt
        obtain ⟨a, ha⟩ : ∃ a, X.getD k 0 = a := ⟨_, rfl⟩
        obtain ⟨b, hb⟩ : ∃ b, Y.getD k 0 = b := ⟨_, rfl⟩
        have a0 := (hta.below X1.out hga).int k hkx a ha
        have b0 := (htb.below X1.out hgb).int k hky b hb
        have HX := Lib.hid (getD_take hkx)
        have HY := Lib.hid (getD_take hky)
        rw [ha] at HX
        rw [hb] at HY
        by_cases hab : a = b
        · subst hab
          have HZ : Hid (X.take (k + 1) = Y.take (k + 1)) := Lib.hid (by rw [HX.out, HY.out, HP.out])
          clear ha hb hta htb
          go_wp2_with fail
          go_quiet (fail)
          go_wp2_with fail
          go_roundw
          case rel => exact ⟨k + 1, q + nq, by omega, by go_num, HZ, Lib.hid (by rw [HW.out, World.drewN_drewN])⟩
          case measure => simp [intOf]; omega
        · have dq : (a == b) = false := by simpa using hab
          have dq2 : (a != b) = true := by simpa using hab
          have HZ : Hid (decide (X = Y) = false) := Lib.hid (decide_eq_false fun e => hab (by rw [← ha, ← hb, e]))
          clear ha hb hta htb hab
          go_wp2_with fail
          go_quiet (fail)
          go_wp2_with fail
          go_ret
          exact ⟨ret_bool2 HZ.out.symm, q_of HW.out⟩
      · have hkn : k = n := by omega
        have HZ : Hid (decide (X = Y) = true) := Lib.hid (decide_eq_true (by
          have := HP.out
          rw [List.take_of_length_le (by rw [hx.out]; omega), List.take_of_length_le (by rw [hy.out]; omega)] at this
          exact this))
        go_wp2_with fail
        go_ret
        exact ⟨ret_bool2 HZ.out.symm, q, HW.out⟩
  · have HZ : Hid (decide (X = Y) = false) := Lib.hid (decide_eq_false fun e => hnm (by rw [← hx.out, ← hy.out, e]))
    have dq : ((n : Int) != (m : Int)) = true := by simp; omega
    generalize decide (X = Y) = R at HZ ⊢
    go_enter Try.func70, Try.ntmps70
    go_wp2_with fail
    go_ret
    exact ⟨ret_bool2 HZ.out.symm, 0, rfl⟩
/-! The model. -/
def TiRel (w : World) (l : List At) (ts : List Int) (n m : Nat) (R : Bool) (a b : Value) (wr : World) : Prop :=
  ∃ ie e q : Nat, ie < n ∧ e ≤ m ∧ a = .int .i64 ie ∧ b = .int .i64 ((e : Int) - 1) ∧ Hid (0 < e → (gA l ie).d = e) ∧ Hid ((if e = 0 then true else decide (wyA l (ie + 1) = ts.take e)) = R) ∧ Hid (wr = w.drewN q)
theorem wy_one {l : List At} (V : Va l) {i : Nat} (hi : i < l.length) (h1 : (gA l i).d = 1) : wyA l (i + 1) = [(gA l i).t] := by
  rw [wy_step V hi, up_top V hi h1]; rfl
theorem app_eq {X Y : List Int} {a b : Int} (h : X.length = Y.length) : decide (X ++ [a] = Y ++ [b]) = (decide (X = Y) && decide (a = b)) := by
  rw [Bool.eq_iff_iff]
  simp only [decide_eq_true_eq, Bool.and_eq_true]
  constructor
  · intro e
    obtain ⟨e1, e2⟩ := List.append_inj e h
    exact ⟨e1, by simpa using e2⟩
  · rintro ⟨rfl, rfl⟩; rfl
set_option maxHeartbeats 12800000 in
theorem tvIs_any (ad bd : Option Addr) (n m ca cb : Nat) (l : List At) (ts : List Int) (i : Nat) (w : World) (HI : Hid (InX w ad n (atCs l))) (HJ : Hid (InX w bd m (iv ts))) (hn : Hid (l.length = n)) (ht : Hid (ts.length = m)) (HV : Hid (Va l)) (hm : n ≤ 1048576) (hm2 : m ≤ 1048576) (hi : i < n) :
    Calls Try.prog 69 #[.slice ad n ca, .int .i64 (i : Int), .slice bd m cb] w (SaysQ w (.bool (isA l ts i))) := by
  obtain ⟨g, rfl, hta, hg⟩ := HI.out (by omega)
  have HT := Lib.hid hta
  have hil : i < l.length := by rw [hn.out]; exact hi
  obtain ⟨x, hx⟩ : ∃ x, gA l i = x := ⟨_, rfl⟩
  obtain ⟨a0, _⟩ := hta.atr i hil x hx
  have hx1 := HV.out.pos i hil
  have hx8 := HV.out.top i hil
  rw [hx] at hx1 hx8
  by_cases hd : x.d = (m : Int)
  · obtain ⟨R, hR⟩ : ∃ R, isA l ts i = R := ⟨_, rfl⟩
    have H0 : Hid ((if m = 0 then true else decide (wyA l (i + 1) = ts.take m)) = R) := Lib.hid (by
      rw [if_neg (by omega), ← hR, List.take_of_length_le (by rw [ht.out]; exact Nat.le_refl _)]
      rfl)
    have HD : Hid (0 < m → (gA l i).d = m) := Lib.hid (fun _ => by rw [hx]; exact hd)
    rw [hR]
    obtain ⟨xd, xt, xn, s⟩ := x
    simp only at a0 hd hx1 hx8
    subst hd
    clear hta hx hR
    go_enter Try.func69, Try.ntmps69
    go_wp2_with fail
    go_loopw [1, 7] (fun a b wr => TiRel w l ts n m R a b wr) (fun _ b _ => (intOf b + 1).toNat)
    case atStart => exact ⟨i, m, 0, hi, Nat.le_refl _, rfl, by go_num, HD, H0, Lib.hid rfl⟩
    case round =>
      obtain ⟨ie, e, q, hie, hem, rfl, rfl, HDe, HP, HW⟩ := hrel
      have X1 : Hid (BX w wr) := Lib.hid (by rw [HW.out]; exact bx_drew (BX.refl w) q)
      rcases Nat.eq_zero_or_pos e with he0 | he0
      · subst he0
        have HZ : Hid (R = true) := Lib.hid HP.out.symm
        go_wp2_with fail
        go_ret
        exact ⟨ret_bool2 HZ.out.symm, q, HW.out⟩
      · obtain ⟨j, rfl⟩ : ∃ j, e = j + 1 := ⟨e - 1, by omega⟩
        have hiel : ie < l.length := by rw [hn.out]; exact hie
        obtain ⟨y, hy⟩ : ∃ y, gA l ie = y := ⟨_, rfl⟩
        obtain ⟨b0, b1, _⟩ := (HT.out.below X1.out hg).atr ie hiel y hy
        obtain ⟨gb, rfl, htb, hgb⟩ := HJ.out (by omega)
        have hjt : j < ts.length := by rw [ht.out]; omega
        obtain ⟨z, hz⟩ : ∃ z, ts.getD j 0 = z := ⟨_, rfl⟩
        have z0 := (htb.below X1.out hgb).int j hjt z hz
        have HS := Lib.hid (wy_step HV.out hiel)
        have HTk := Lib.hid (getD_take hjt)
        have HDy : Hid (y.d = (j + 1 : Nat)) := Lib.hid (by rw [← hy]; exact HDe.out (by omega))
        have HL := Lib.hid (wy_len HV.out ie hiel)
        rw [hy] at HS HL
        rw [hz] at HTk
        have HQ : Hid ((decide (wyA l (upA l ie + 1).toNat = ts.take j) && decide (y.t = z)) = R) := Lib.hid (by
          rw [← HP.out, if_neg (by omega), HS.out, HTk.out, app_eq]
          have h1 := HL.out
          rw [HS.out, List.length_append] at h1
          have h2 := HDy.out
          rw [List.length_take]
          simp at h1
          omega)
        have e1 : ((j + 1 : Nat) : Int) - 1 = (j : Int) := by omega
        rw [e1]
        by_cases htz : y.t = z
        · have HQ2 : Hid (decide (wyA l (upA l ie + 1).toNat = ts.take j) = R) := Lib.hid (by rw [← HQ.out, decide_eq_true htz, Bool.and_true])
          rcases Nat.eq_zero_or_pos j with hj0 | hj0
          · subst hj0
            have HZ : Hid ((if 0 = 0 then true else decide (wyA l (ie + 1) = ts.take 0)) = R) := Lib.hid (by
              rw [if_pos rfl, ← HQ2.out]
              refine (decide_eq_true ?_).symm
              have h2 := HDy.out
              rw [up_top HV.out hiel (by rw [hy]; omega)]
              rfl)
            obtain ⟨yd, yt, yn, ys⟩ := y
            simp only at b0 b1 htz
            subst htz
            clear hy hz htb e1 HQ HQ2 HS HTk HP
            go_wp2_with fail
            go_quiet (fail)
            go_wp2_with fail
            go_roundw
            case rel => exact ⟨ie, 0, q + nq, hie, Nat.zero_le _, rfl, by go_num, Lib.hid (fun h => absurd h (by omega)), HZ, Lib.hid (by rw [HW.out, World.drewN_drewN])⟩
            case measure => simp [intOf] <;> omega
          · have hu := up_some HV.out hiel (by have := HDy.out; rw [hy]; omega)
            obtain ⟨u, hu2⟩ : ∃ u : Nat, upA l ie = (u : Int) := ⟨(upA l ie).toNat, by omega⟩
            have hlt : u < ie := by have := (upG_is l (gA l ie).d ie).2.1; unfold upA at hu2; omega
            have hud := up_depth HV.out hiel hu
            have HPa := Lib.hid (fun w h => tvParent_any (some ⟨g, 0, none⟩) n ca l ie w (Lib.hid h) hn hm hie)
            rw [hu2] at HPa hud HQ2
            rw [Int.toNat_natCast, hy] at hud
            have HDu : Hid (0 < j → (gA l u).d = j) := Lib.hid (fun _ => by have := HDy.out; omega)
            have HZ : Hid ((if j = 0 then true else decide (wyA l (u + 1) = ts.take j)) = R) := Lib.hid (by
              rw [if_neg (by omega), ← HQ2.out, show ((u : Int) + 1).toNat = u + 1 by omega])
            obtain ⟨yd, yt, yn, ys⟩ := y
            simp only at b0 b1 htz
            subst htz
            clear hy hz htb e1 HQ HQ2 HS HTk HP hud hu hu2
            go_wp2_with fail
            go_quiet (fail)
            go_wp2_with (go_at_call 66; refine (HPa.out _ (HI.out.below (bx_drew X1.out _))).mono ?_; rintro _ w2 ⟨rfl, q2, hq2⟩; have Q2 := Lib.hid hq2; clear hq2)
            go_roundw
            case rel => exact ⟨u, j, q + nq + q2, by omega, by omega, rfl, by go_num, HDu, HZ, Lib.hid (by rw [Q2.out, HW.out, World.drewN_drewN, World.drewN_drewN, Nat.add_assoc])⟩
            case measure => simp [intOf] <;> omega
        · have dq : (y.t == z) = false := by simpa using htz
          have dq2 : (y.t != z) = true := by simpa using htz
          have HZ : Hid (R = false) := Lib.hid (by rw [← HQ.out, decide_eq_false htz, Bool.and_false])
          obtain ⟨yd, yt, yn, ys⟩ := y
          simp only at b0 b1 dq dq2
          clear hy hz htb e1 HQ HS HTk HP htz
          go_wp2_with fail
          go_quiet (fail)
          go_wp2_with fail
          go_ret
          exact ⟨ret_bool2 HZ.out.symm, q_of HW.out⟩
  · have HZ : Hid (isA l ts i = false) := Lib.hid (isA_len HV.out hil (by rw [hx, ht.out]; exact hd))
    obtain ⟨xd, xt, xn, s⟩ := x
    simp only at a0 hd hx1 hx8
    have dq : (xd == (m : Int)) = false := by simpa using hd
    have dq2 : (xd != (m : Int)) = true := by simpa using hd
    generalize isA l ts i = R at HZ ⊢
    clear hta hx hd
    go_enter Try.func69, Try.ntmps69
    go_wp2_with fail
    go_ret
    exact ⟨ret_bool2 HZ.out.symm, 0, rfl⟩
def FdRel (w : World) (l : List At) (ts : List Int) (n : Nat) (R : Int) (v : Value) (wr : World) : Prop := ∃ k : Nat, k ≤ n ∧ v = .int .i64 k ∧ BX w wr ∧ Hid (fdG l ts (n - k) k = R)
theorem fdG_at (l : List At) (ts : List Int) {n k : Nat} (h : k < n) : fdG l ts (n - k) k = if isA l ts k then (k : Int) else fdG l ts (n - (k + 1)) (k + 1) := by
  rw [show n - k = (n - (k + 1)) + 1 by omega, fdG]
set_option maxHeartbeats 12800000 in
theorem specFind_any (ad bd : Option Addr) (n m ca cb : Nat) (l : List At) (ts : List Int) (w : World) (HI : Hid (InX w ad n (atCs l))) (HJ : Hid (InX w bd m (iv ts))) (hn : Hid (l.length = n)) (ht : Hid (ts.length = m)) (HM : Hid (SzM l)) (hm : n ≤ 1048576) (hm2 : m ≤ 1048576) :
    Calls Try.prog 37 #[.slice ad n ca, .slice bd m cb] w (SaysT2 w (.int .i64 (resF1 l ts)) (.bool (resF2 l ts))) := by
  have HG := Lib.hid (tvGood_any ad n ca l w HI hn HM hm)
  cases hl : lsA l
  · have HX := Lib.hid (resF_no (l := l) (ts := ts) (by unfold fdA; rw [hl]; rfl))
    rw [hl] at HG
    generalize resF1 l ts = R1 at HX ⊢
    generalize resF2 l ts = R2 at HX ⊢
    clear hl
    go_enter Try.func37, Try.ntmps37
    go_wp2_with (go_at_call 47; refine (HG.out).mono ?_; rintro e w1 ⟨rfl, b⟩; have B1 := Lib.hid b; clear b)
    go_ret2
    exact ⟨ret_ib HX.out.1.symm HX.out.2.symm, B1.out⟩
  rw [hl] at HG
  have HN := Lib.hid (fun w => l1In_any (m : Int) 1 8 w)
  have HA := Lib.hid (fun w h => l1All_any bd m cb ts 0 32767 w (Lib.hid h) ht hm2)
  have HK : Hid (okT ts = (inB (m : Int) 1 8 && ts.all (fun t => inB t 0 32767))) := Lib.hid (by unfold okT; rw [ht.out])
  cases hb : inB (m : Int) 1 8
  · have HX := Lib.hid (resF_no (l := l) (ts := ts) (fd_bad (by rw [HK.out, hb]; rfl)))
    rw [hb] at HN
    generalize resF1 l ts = R1 at HX ⊢
    generalize resF2 l ts = R2 at HX ⊢
    clear hl hb
    go_enter Try.func37, Try.ntmps37
    go_wp2_with (first | (go_at_call 47; refine (HG.out).mono ?_; rintro e w1 ⟨rfl, b⟩; have B1 := Lib.hid b; clear b) | (go_at_call 67; refine (HN.out _).mono ?_; rintro e w2 ⟨rfl, rfl⟩))
    go_ret2
    exact ⟨ret_ib HX.out.1.symm HX.out.2.symm, B1.out⟩
  rw [hb] at HN
  cases hc : ts.all (fun t => inB t 0 32767)
  · have HX := Lib.hid (resF_no (l := l) (ts := ts) (fd_bad (by rw [HK.out, hb, hc]; rfl)))
    rw [hc] at HA
    generalize resF1 l ts = R1 at HX ⊢
    generalize resF2 l ts = R2 at HX ⊢
    clear hl hb hc
    go_enter Try.func37, Try.ntmps37
    go_wp2_with (first | (go_at_call 47; refine (HG.out).mono ?_; rintro e w1 ⟨rfl, b⟩; have B1 := Lib.hid b; have J1 := Lib.hid (HJ.out.below b); clear b) | (go_at_call 67; refine (HN.out _).mono ?_; rintro e w2 ⟨rfl, rfl⟩) | (go_at_call 68; refine (HA.out _ J1.out).mono ?_; rintro e w2 ⟨rfl, rfl⟩))
    go_ret2
    exact ⟨ret_ib HX.out.1.symm HX.out.2.symm, B1.out⟩
  rw [hc] at HA
  have HV := Lib.hid (va hl)
  obtain ⟨R, hR⟩ : ∃ R, fdG l ts n 0 = R := ⟨_, rfl⟩
  have hfd : fdA l ts = R := by unfold fdA; rw [hl, if_pos rfl, hn.out]; exact hR
  have H0 : Hid (fdG l ts (n - 0) 0 = R) := Lib.hid hR
  have HNo := Lib.hid (fun h => resF_no (l := l) (ts := ts) (hfd.trans h))
  have HAt := Lib.hid (fun k h => resF_at (l := l) (ts := ts) (k := k) (hfd.trans h))
  have HIs := Lib.hid (fun i hi w h h' => tvIs_any ad bd n m ca cb l ts i w (Lib.hid h) (Lib.hid h') hn ht HV hm hm2 hi)
  generalize resF1 l ts = R1 at HNo HAt ⊢
  generalize resF2 l ts = R2 at HNo HAt ⊢
  clear hl hb hc hR hfd
  go_enter Try.func37, Try.ntmps37
  go_wp2_with (first | (go_at_call 47; refine (HG.out).mono ?_; rintro e w1 ⟨rfl, b⟩; have B1 := Lib.hid b; have X0 : Hid (BX w w1) := Lib.hid b; have J1 := Lib.hid (HJ.out.below b); clear b) | (go_at_call 67; refine (HN.out _).mono ?_; rintro e w2 ⟨rfl, rfl⟩) | (go_at_call 68; refine (HA.out _ J1.out).mono ?_; rintro e w2 ⟨rfl, rfl⟩))
  go_loopw [23] (fun v wr => FdRel w l ts n R v wr) (fun v _ => n - (intOf v).toNat)
  case atStart => exact ⟨0, Nat.zero_le _, rfl, X0.out, H0⟩
  case round =>
    obtain ⟨k, hk, rfl, hb, HP⟩ := hrel
    have X1 := Lib.hid hb
    clear hb
    by_cases hlt : k < n
    · have HE := Lib.hid (fdG_at l ts hlt)
      have HI1 := Lib.hid (fun w h h' => HIs.out k hlt w h h')
      cases hq : isA l ts k
      · rw [hq] at HI1
        have HZ : Hid (fdG l ts (n - (k + 1)) (k + 1) = R) := Lib.hid (by rw [← HP.out, HE.out, hq]; rfl)
        clear hq
        go_wp2_with (go_at_call 69; refine (HI1.out _ (HI.out.below X1.out) (HJ.out.below X1.out)).mono ?_; rintro _ w2 ⟨rfl, q, hq⟩; have X2 : Hid (BX w w2) := Lib.hid (by rw [hq]; exact bx_drew X1.out q); clear hq)
        go_roundw
        case rel => exact ⟨k + 1, by omega, by go_num, X2.out, HZ⟩
        case measure => simp [intOf]; omega
      · rw [hq] at HI1
        have HZ : Hid (R = k) := Lib.hid (by rw [← HP.out, HE.out, hq]; rfl)
        clear hq
        go_wp2_with (go_at_call 69; refine (HI1.out _ (HI.out.below X1.out) (HJ.out.below X1.out)).mono ?_; rintro _ w2 ⟨rfl, q, hq⟩; have X2 : Hid (BX w w2) := Lib.hid (by rw [hq]; exact bx_drew X1.out q); clear hq)
        go_ret2
        exact ⟨ret_ib (HAt.out k HZ.out).1.symm (HAt.out k HZ.out).2.symm, X2.out⟩
    · have HZ : Hid (R = -1) := Lib.hid (by rw [← HP.out, show n - k = 0 by omega]; rfl)
      go_wp2_with fail
      go_ret2
      exact ⟨ret_ib (HNo.out HZ.out).1.symm (HNo.out HZ.out).2.symm, X1.out⟩
/-! The program. -/
def FwRel (w : World) (l : List At) (ts : List Int) (n gw : Nat) (R : Int) (v : Value) (wr : World) : Prop :=
  ∃ (k : Nat) (W : List Int), k ≤ n ∧ v = .int .i64 k ∧ BX w wr ∧ wr.ownsRow w.heap.size 74 1 (.slice (some ⟨gw, 0, none⟩) 8 8) 8 (iv W) ∧ Hid (W.take (wyA l k).length = wyA l k) ∧ Hid (fdG l ts (n - k) k = R)
theorem way_new (w : World) (B : Nat) (hB : B ≤ w.heap.size) (Z : Array Value) (hZ : Z.toList = iv (List.replicate 8 0)) : (w.alloc (.cells Z 74)).ownsRow B 74 1 (.slice (some ⟨w.heap.size, 0, none⟩) 8 8) 8 (iv (List.replicate 8 0)) := by
  rw [← hZ]
  exact World.ownsRow_lit w Z 8 hB (by unfold maxLen; omega) (by have := congrArg List.length hZ; simpa [iv] using this)
theorem way_next {l : List At} (V : Va l) {k d : Nat} {W : List Int} (hk : k < l.length) (hd : (gA l k).d = (d : Int) + 1) (hW : W.length = 8) (hd8 : d < 8) (h : W.take (wyA l k).length = wyA l k) : (W.set d (gA l k).t).take (d + 1) = wyA l (k + 1) := by
  have hp := wy_pre V hk
  rw [hd] at hp
  have hp2 : d ≤ (wyA l k).length := by omega
  rw [wyA, hd, show ((d : Int) + 1 - 1).toNat = d by omega, ← h, List.take_take, Nat.min_eq_left hp2, List.take_succ_eq_append_getElem (by rw [List.length_set]; omega), List.getElem_set_self, List.take_set_of_le (Nat.le_refl d)]
theorem way_al : Try.prog.arrayLen 74 = 8 := by kernel_rfl
theorem way_slice (g d : Nat) (hd : d < 8) (w : World) : (Instr.sliceAt 74 (.pointer (some ⟨g, 0, none⟩)) none (some (.int .i64 ((d : Int) + 1))) none).run Try.prog w = .ok (.slice (some ⟨g, 0, none⟩) (d + 1) 8) w := by
  have h := run_sliceAt_array_h (P := Try.prog) w 74 ⟨g, 0, none⟩ (by kernel_rfl) .i64 ((d : Int) + 1) (by omega) (by rw [way_al]; omega)
  rw [h, way_al, show ((d : Int) + 1).toNat = d + 1 by omega]
  have e : (sizeOf (Try.prog.elem 74)).run Try.prog w = .ok 1 w := by kernel_rfl
  rw [e]
  rfl
theorem way_in {w : World} {B g d : Nat} {W X : List Int} (h : w.ownsRow B 74 1 (.slice (some ⟨g, 0, none⟩) 8 8) 8 (iv W)) (hX : W.take (d + 1) = X) (hd : d < 8) : InX w (some ⟨g, 0, none⟩) (d + 1) (iv X) := fun _ => ⟨g, rfl, fun j hj => by
  have hl : W.length = 8 := by have := h.1; rw [iv_length] at this; omega
  rw [iv_length, ← hX, List.length_take] at hj
  rw [World.ownsRow.cellAt h j (by omega), ← hX]
  unfold iv
  rw [List.getElem?_map, List.getElem?_map, List.getElem?_take, if_pos (by omega)], (World.ownsRow.lt h g rfl).2⟩
set_option maxHeartbeats 12800000 in
theorem implFind_any (ad bd : Option Addr) (n m ca cb : Nat) (l : List At) (ts : List Int) (w : World) (HI : Hid (InX w ad n (atCs l))) (HJ : Hid (InX w bd m (iv ts))) (hn : Hid (l.length = n)) (ht : Hid (ts.length = m)) (HM : Hid (SzM l)) (hm : n ≤ 1048576) (hm2 : m ≤ 1048576) :
    Calls Try.prog 39 #[.slice ad n ca, .slice bd m cb] w (SaysT2 w (.int .i64 (resF1 l ts)) (.bool (resF2 l ts))) := by
  have HG := Lib.hid (areAttrs_any ad n ca l w HI hn HM hm)
  cases hl : lsA l
  · have HX := Lib.hid (resF_no (l := l) (ts := ts) (by unfold fdA; rw [hl]; rfl))
    rw [hl] at HG
    generalize resF1 l ts = R1 at HX ⊢
    generalize resF2 l ts = R2 at HX ⊢
    clear hl
    go_enter Try.func39, Try.ntmps39
    go_wp2_with (go_at_call 17; refine (HG.out).mono ?_; rintro e w1 ⟨rfl, b⟩; have B1 := Lib.hid b; clear b)
    go_ret2
    exact ⟨ret_ib HX.out.1.symm HX.out.2.symm, B1.out⟩
  rw [hl] at HG
  have HV := Lib.hid (va hl)
  obtain ⟨R, hR⟩ : ∃ R, fdG l ts n 0 = R := ⟨_, rfl⟩
  have hfd : fdA l ts = R := by unfold fdA; rw [hl, if_pos rfl, hn.out]; exact hR
  have H0 : Hid (fdG l ts (n - 0) 0 = R) := Lib.hid hR
  have HNo := Lib.hid (fun h => resF_no (l := l) (ts := ts) (hfd.trans h))
  have HAt := Lib.hid (fun k h => resF_at (l := l) (ts := ts) (k := k) (hfd.trans h))
  generalize resF1 l ts = R1 at HNo HAt ⊢
  generalize resF2 l ts = R2 at HNo HAt ⊢
  clear hl hR hfd
  go_enter Try.func39, Try.ntmps39
  go_wp2_with (go_at_call 17; refine (HG.out).mono ?_; rintro e w1 ⟨rfl, b⟩; have B1 := Lib.hid b; have X0 : Hid (BX w w1) := Lib.hid b; clear b)
  have HW0 := Lib.hid (way_new w1 w.heap.size (BX.size X0.out) #[.int .i64 0, .int .i64 0, .int .i64 0, .int .i64 0, .int .i64 0, .int .i64 0, .int .i64 0, .int .i64 0] rfl)
  go_loopw [14] (fun v wr => FwRel w l ts n w1.heap.size R v wr) (fun v _ => n - (intOf v).toNat)
  case atStart => exact ⟨0, _, Nat.zero_le _, rfl, X0.out.alloc _, HW0.out, Lib.hid rfl, H0⟩
  case round =>
    obtain ⟨k, W, hk, rfl, hb, ho, HPre, HP⟩ := hrel
    have X1 := Lib.hid hb
    have O1 := Lib.hid ho
    generalize w1.heap.size = gw at O1 ho ⊢
    clear hb HW0
    by_cases hlt : k < n
    · obtain ⟨g, rfl, hta, hg⟩ := HI.out (by omega)
      obtain ⟨x, hx⟩ : ∃ x, gA l k = x := ⟨_, rfl⟩
      have hl1 : k < l.length := by rw [hn.out]; exact hlt
      obtain ⟨a0, a1, a2, a3⟩ := (hta.below X1.out hg).atr k hl1 x hx
      have hx1 := HV.out.pos k hl1
      have hx8 := HV.out.top k hl1
      have hWl : W.length = 8 := by have := ho.1; rw [iv_length] at this; omega
      rw [hx] at hx1 hx8
      obtain ⟨d, hd⟩ : ∃ d : Nat, x.d = (d : Int) + 1 := ⟨(x.d - 1).toNat, by omega⟩
      have hd8 : d < 8 := by omega
      have HNx := Lib.hid (way_next HV.out hl1 (by rw [hx]; exact hd) hWl hd8 HPre.out)
      rw [hx] at HNx
      have HE := Lib.hid (fdG_at l ts hlt)
      have HLn : Hid ((wyA l (k + 1)).length = d + 1) := Lib.hid (by rw [wy_len HV.out k hl1, hx, hd]; omega)
      have HEq := Lib.hid (fun wz ca' (hA : InX wz (some ⟨gw, 0, none⟩) (d + 1) (iv (wyA l (k + 1)))) (hB : InX wz bd m (iv ts)) => equalI_any (some ⟨gw, 0, none⟩) bd (d + 1) m ca' cb (wyA l (k + 1)) ts wz (Lib.hid hA) (Lib.hid hB) HLn ht (by omega) hm2)
      rw [show (decide (wyA l (k + 1) = ts)) = isA l ts k from rfl] at HEq
      obtain ⟨xd, xt, xn, s⟩ := x
      simp only at a0 a1 a2 a3 hd hx1 hx8 HNx
      subst hd
      have hgw := World.ownsRow.lt O1.out gw rfl
      obtain ⟨u0, c0⟩ := own_cell O1.out d (by omega)
      have c0' := fun o => ((bcell (one_new2 wr o)).1 gw d hgw.2).trans c0
      have f0' := fun o => World.ownsRow.frozenAt (own_low O1.out (one_new2 wr o) (Nat.le_refl _)) d
      have hne : ¬ gw = wr.heap.size := by omega
      have hne2 : ¬ wr.heap.size = gw := by omega
      have hdd : (d : Int) < 8 := by omega
      have hdd2 : (d : Int) + 1 ≤ 8 := by omega
      have hsl := way_slice gw d hd8
      have O2 := Lib.hid (World.ownsRow.alloc (w := wr.setCell ⟨gw, d, none⟩ (.int .i64 xt)) (own_store O1.out d (.int .i64 xt)) (Obj.cells #[.int .i64 ((d : Int) + 1), .int .i64 xt, .bool xn, .string s] 56))
      rw [iv_set] at O2
      have X2 : Hid (BX w ((wr.setCell ⟨gw, d, none⟩ (.int .i64 xt)).alloc (Obj.cells #[.int .i64 ((d : Int) + 1), .int .i64 xt, .bool xn, .string s] 56))) := Lib.hid ((X1.out.set hgw.1 _).alloc _)
      have HPn : Hid ((W.set d xt).take (wyA l (k + 1)).length = wyA l (k + 1)) := Lib.hid (by rw [HLn.out]; exact HNx.out)
      clear hta hx hx1 hx8 ho c0
      cases hq : isA l ts k
      · rw [hq] at HEq
        have HZ : Hid (fdG l ts (n - (k + 1)) (k + 1) = R) := Lib.hid (by rw [← HP.out, HE.out, hq]; rfl)
        clear hq
        go_wp2_with (go_at_call 70; refine (HEq.out _ _ (way_in O2.out HNx.out hd8) (HJ.out.below X2.out)).mono ?_; rintro _ w2 ⟨rfl, q, hq⟩; have X3 : Hid (BX w w2) := Lib.hid (by rw [hq]; exact bx_drew X2.out q); have O3 := Lib.hid (own_low O2.out (by rw [hq]; exact below_drewN (Below.refl _ _) q : Below (((wr.setCell ⟨gw, d, none⟩ (.int .i64 xt)).alloc (Obj.cells #[.int .i64 ((d : Int) + 1), .int .i64 xt, .bool xn, .string s] 56))).heap.size ((wr.setCell ⟨gw, d, none⟩ (.int .i64 xt)).alloc (Obj.cells #[.int .i64 ((d : Int) + 1), .int .i64 xt, .bool xn, .string s] 56)) w2) (Nat.le_refl _)); clear hq)
        go_roundw
        case rel => exact ⟨k + 1, W.set d xt, by omega, by go_num, X3.out, O3.out, HPn, HZ⟩
        case measure => simp [intOf]; omega
      · rw [hq] at HEq
        have HZ : Hid (R = k) := Lib.hid (by rw [← HP.out, HE.out, hq]; rfl)
        clear hq
        go_wp2_with (go_at_call 70; refine (HEq.out _ _ (way_in O2.out HNx.out hd8) (HJ.out.below X2.out)).mono ?_; rintro _ w2 ⟨rfl, q, hq⟩; have X3 : Hid (BX w w2) := Lib.hid (by rw [hq]; exact bx_drew X2.out q); have O3 := Lib.hid (own_low O2.out (by rw [hq]; exact below_drewN (Below.refl _ _) q : Below (((wr.setCell ⟨gw, d, none⟩ (.int .i64 xt)).alloc (Obj.cells #[.int .i64 ((d : Int) + 1), .int .i64 xt, .bool xn, .string s] 56))).heap.size ((wr.setCell ⟨gw, d, none⟩ (.int .i64 xt)).alloc (Obj.cells #[.int .i64 ((d : Int) + 1), .int .i64 xt, .bool xn, .string s] 56)) w2) (Nat.le_refl _)); clear hq)
        go_ret2
        exact ⟨ret_ib (HAt.out k HZ.out).1.symm (HAt.out k HZ.out).2.symm, X3.out⟩
    · have HZ : Hid (R = -1) := Lib.hid (by rw [← HP.out, show n - k = 0 by omega]; rfl)
      go_wp2_with fail
      go_ret2
      exact ⟨ret_ib (HNo.out HZ.out).1.symm (HNo.out HZ.out).2.symm, X1.out⟩
section
open Go.Joins Go.ChangeShapes Go.WideShapes Go.Deep
variable {H : Type} {enc : TypeId × Value → H} {w : World} {base : Nat} {spare : Nat → Bool} {held : Bool}
theorem open_introw {fuel : Nat} {cs : List Value} {x : DataW H × List MemPlace} (h : DataW.trod enc Try.prog w base spare held fuel 41 cs = some x) :
    ∃ (a : Option Addr) (len cap : Nat) (l : List Int), cs = [.slice a len cap] ∧ len ≤ maxLen ∧ l.length = len ∧ InI w a l := by
  rcases open_ints Try.underlying41 Try.underlying3 (by kernel_rfl) h with ⟨h0, _⟩ | ⟨a, len, cap, zs, hcs, hb, hl, hm, hz, hx, hcell, hwf⟩
  · exact ⟨none, 0, 0, [], h0, Nat.zero_le _, rfl, .inl rfl⟩
  · have hlz : len ≤ zs.length := by rw [hz]; split <;> omega
    refine ⟨some a, len, cap, zs.take len, hcs, Nat.le_trans hl hm, by simp; omega, ?_⟩
    rcases Nat.eq_zero_or_pos len with rfl | hp
    · exact .inl (by simp)
    · obtain ⟨b, off, spot⟩ := a
      have hspot : spot = none := by simpa [Addr.add] using World.cell?_spot (hcell 0 (by omega))
      subst hspot
      refine .inr ⟨b, off, rfl, fun i hi => ?_, fun n hn => wf_i64 (hwf n (List.mem_of_mem_take hn))⟩
      simp at hi
      have := hcell i (by omega)
      rw [show (⟨b, off, none⟩ : Addr).add i = ⟨b, off + i, none⟩ by unfold Addr.add; split <;> simp_all] at this
      rw [this]
      simp [List.getD_eq_getElem?_getD]
      rw [List.getElem?_take, if_pos (by omega)]
end
end Go.Proofs.Ythflehdboccloaa
