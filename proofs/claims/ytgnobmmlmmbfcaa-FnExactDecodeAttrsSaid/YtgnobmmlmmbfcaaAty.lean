/- One attribute read: the program's. -/
import Derived.Test.YtgnobmmlmmbfcaaAtx
namespace Go.Proofs.Ytgnobmmlmmbfcaa
open Go.RowKit
set_option linter.unusedVariables false
set_option linter.unusedSimpArgs false
set_option maxRecDepth 100000

/-- one attribute read -/
def OS (s : ByteArray) (dp a en : Nat) (out : List At) : List At × (Nat × Nat) :=
  if 0 < (hdF s out.length dp a en).1 then (out, hdF s out.length dp a en)
  else if rdS s (a + 2) < 32768 then (out ++ [⟨(dp : Int), (rdS s (a + 2) : Int), false, s.extract (a + 4) (a + rdS s a)⟩], (0, 0))
  else LS s (dp + 1) (a + 4) (a + rdS s a) (out ++ [⟨(dp : Int), (rdS s (a + 2) : Int) - 32768, true, ⟨#[]⟩⟩])
theorem OS_bad {s : ByteArray} {dp a en : Nat} {out : List At} {p : Nat × Nat} (hp : hdF s out.length dp a en = p) (hf : 0 < p.1) : OS s dp a en out = (out, p) := by
  unfold OS; rw [hp, if_pos hf]
theorem OS_flat {s : ByteArray} {dp a en : Nat} {out : List At} (hp : hdF s out.length dp a en = (0, 0)) (hk : rdS s (a + 2) < 32768) : OS s dp a en out = (out ++ [⟨(dp : Int), (rdS s (a + 2) : Int), false, s.extract (a + 4) (a + rdS s a)⟩], (0, 0)) := by
  unfold OS; rw [hp, if_neg (Nat.lt_irrefl 0), if_pos hk]
theorem OS_nest {s : ByteArray} {dp a en : Nat} {out : List At} (hp : hdF s out.length dp a en = (0, 0)) (hk : ¬ rdS s (a + 2) < 32768) : OS s dp a en out = LS s (dp + 1) (a + 4) (a + rdS s a) (out ++ [⟨(dp : Int), (rdS s (a + 2) : Int) - 32768, true, ⟨#[]⟩⟩]) := by
  unfold OS; rw [hp, if_neg (Nat.lt_irrefl 0), if_neg hk]
theorem LS_step {s : ByteArray} {dp a en : Nat} {out : List At} {r : List At × (Nat × Nat)} (h : a < en) (hr : OS s dp a en out = r) : LS s dp a en out = if 0 < r.2.1 then r else LS s dp (a + padA (rdS s a)) en r.1 := by
  subst hr
  by_cases hf : 0 < (hdF s out.length dp a en).1
  · rw [OS_bad rfl hf, if_pos hf, LS_bad h rfl hf]
  · have h0 : (hdF s out.length dp a en).1 = 0 := by omega
    unfold OS
    rw [if_neg hf]
    by_cases hk : rdS s (a + 2) < 32768
    · rw [if_pos hk, if_neg (Nat.lt_irrefl 0), LS_flat h h0 hk]
    · rw [if_neg hk, LS_nest h h0 hk rfl]
theorem OS_len {s : ByteArray} {dp a en : Nat} {out : List At} (h : out.length ≤ 400) : (OS s dp a en out).1.length ≤ 400 := by
  unfold OS
  split
  · exact h
  · rename_i hf
    obtain ⟨_, h2, _⟩ := hd_none (show (hdF s out.length dp a en).1 = 0 by omega)
    split
    · simp; omega
    · exact LS_len (by simp; omega)
theorem hzR_one (o : Option Nat) : 0 < (hzR o).1 → ∃ k, hzR o = (1, k) := by
  cases o with
  | none => intro h; cases h
  | some k => exact fun _ => ⟨k, rfl⟩
/-- what a part that may panic says -/
def SaysP (g : Nat) (s : ByteArray) (v : Value) (w : World) (R : List At × (Nat × Nat)) (ok : Value) (e : Ending) (w' : World) : Prop :=
  (R.2.1 = 0 ∧ e = .returned ok ∧ ∃ v', RdrAt w' g s 45 v' R.1 ∧ Kp g v v' w w') ∨ (0 < R.2.1 ∧ e = pnE R.2 ∧ Below g w w')
theorem SaysP.ok {g : Nat} {s : ByteArray} {v : Value} {w : World} {R : List At × (Nat × Nat)} {ok : Value} {e : Ending} {w' : World} (h : SaysP g s v w R ok e w') (hf : ¬ 0 < R.2.1) : e = .returned ok ∧ ∃ v', RdrAt w' g s 45 v' R.1 ∧ Kp g v v' w w' := by
  rcases h with ⟨_, a, b⟩ | ⟨a, _⟩
  · exact ⟨a, b⟩
  · exact absurd a hf
theorem SaysP.bad {g : Nat} {s : ByteArray} {v : Value} {w : World} {R : List At × (Nat × Nat)} {ok : Value} {e : Ending} {w' : World} (h : SaysP g s v w R ok e w') (hf : 0 < R.2.1) : e = pnE R.2 ∧ Below g w w' := by
  rcases h with ⟨a, _⟩ | ⟨_, a, b⟩
  · rw [a] at hf; cases hf
  · exact ⟨a, b⟩
def ZpRel (w2 : World) (s : ByteArray) (a n P : Nat) (p : Nat × Nat) (v : Value) (wr : World) : Prop := ∃ j : Nat, a + n ≤ j ∧ j ≤ a + P ∧ v = .int .i64 (j : Int) ∧ Hid (wr = w2) ∧ Hid (hzR (nzF s (a + P - j) j) = p)
theorem nestp_app {wx w7 w1 : World} {g : Nat} {s : ByteArray} {v v0 v7 : Value} {out : List At} {x : At} (R : RdrAt wx g s 45 v out) (K : Kp g v0 v w1 wx) (hown : w7.ownsRow (g + 1) 35 4 v7 (out.length + 1) (atCs out ++ atC x)) (hgrow : wx.grownBy w7 v.ownBlock) (hat : ∀ k, v7.ownBlock = some k → v.ownBlock = some k ∨ wx.heap.size ≤ k) :
    RdrAt (w7.setCell ⟨g, 1, none⟩ v7) g s 45 v7 (out ++ [x]) ∧ Kp g v0 v7 w1 (w7.setCell ⟨g, 1, none⟩ v7) ∧ BoxAt w7 g #[.string s, v] 45 := by
  exact ⟨R.app hown hgrow, K.trans (R.kp hgrow hat), R.1.grown hgrow (fun q => by have := (World.ownsRow.lt R.2 g q).1; omega)⟩
def ListP (g M : Nat) (s : ByteArray) : Prop := ∀ (dp a en : Nat) (out : List At) (v : Value) (w : World), en - a ≤ M → RdrAt w g s 45 v out → en ≤ s.size → a ≤ en → dp ≤ 9 → out.length ≤ 400 → Calls Try.prog 18 #[.pointer (some ⟨g, 0, none⟩), .int .i64 (a : Int), .int .i64 (en : Int), .int .i64 (dp : Int)] w (SaysP g s v w (LS s dp a en out) (.tuple #[]))
set_option maxHeartbeats 25600000 in
theorem attr_of (g M dp a en : Nat) (out : List At) (s : ByteArray) (v : Value) (w : World) (HIH : Hid (∀ M', M' < M → ListP g M' s)) (hlt : a < en) (hM : en - a ≤ M) (H0 : Hid (RdrAt w g s 45 v out)) (hs : s.size ≤ 6000) (hen : en ≤ s.size) (hdp : dp ≤ 9) (hlen : out.length ≤ 400) :
    Calls Try.prog 22 #[.pointer (some ⟨g, 0, none⟩), .int .i64 (a : Int), .int .i64 (en : Int), .int .i64 (dp : Int)] w (SaysP g s v w (OS s dp a en out) (.int .i64 ((a + padA (rdS s a) : Nat) : Int))) := by
  obtain ⟨i0, hi, hz0, hz1, hz2⟩ := info_parts infoAt
  obtain ⟨R, hR⟩ : ∃ R, OS s dp a en out = R := ⟨_, rfl⟩
  have HR := Lib.hid hR
  rw [hR]
  obtain ⟨p, hp⟩ : ∃ p, hdF s out.length dp a en = p := ⟨_, rfl⟩
  have HP := Lib.hid hp
  unfold hdF at hp
  have hgw := H0.out.lt
  obtain ⟨ad, cc, rfl, _⟩ := own_in H0.out.2
  have k1 : w.cell? ⟨g, 1, none⟩ = some (.slice ad out.length cc) := H0.out.1.cell 1
  have HBX := Lib.hid H0.out.1
  clear hR
  by_cases h1 : 8 < dp
  · rw [if_pos h1] at hp
    subst hp
    have d1 : decide ((8 : Int) < (dp : Int)) = true := is_lt (by omega)
    have HO : Hid (R = (out, (4, a))) := Lib.hid (HR.out.symm.trans (OS_bad HP.out (Nat.succ_pos _)))
    obtain rfl := HO.out
    clear HR HP HO HIH h1
    go_enter Try.func22, Try.ntmps22
    go_wp2_with (first | (go_at_call 17; refine (refuse_yes 4 a _).mono ?_; rintro e w' ⟨rfl, rfl⟩; unfold pnE fuV))
    exact ⟨rfl, .inr ⟨Nat.succ_pos _, rfl, Below.refl _ _⟩⟩
  rw [if_neg h1] at hp
  have d1 : decide ((8 : Int) < (dp : Int)) = false := not_lt (by omega)
  by_cases h2 : 400 ≤ out.length
  · rw [if_pos h2] at hp
    subst hp
    have d2 : ((out.length : Int) == 400) = true := by simp; omega
    have HO : Hid (R = (out, (5, a))) := Lib.hid (HR.out.symm.trans (OS_bad HP.out (Nat.succ_pos _)))
    obtain rfl := HO.out
    clear HR HP HO HIH h1 h2
    go_enter Try.func22, Try.ntmps22
    go_wp2_with (first | (go_at_call 17; (with_reducible refine (refuse_no _ _ _).mono ?_); rintro e w' ⟨rfl, rfl⟩) | (go_at_call 17; refine (refuse_yes 5 a _).mono ?_; rintro e w' ⟨rfl, rfl⟩; unfold pnE fuV))
    exact ⟨rfl, .inr ⟨Nat.succ_pos _, rfl, Below.refl _ _⟩⟩
  rw [if_neg h2] at hp
  have d2 : ((out.length : Int) == 400) = false := by simp; omega
  by_cases h3 : en < a + 4
  · rw [if_pos h3] at hp
    subst hp
    have d3 : decide ((en : Int) - (a : Int) < 4) = true := is_lt (by omega)
    have HO : Hid (R = (out, (6, a))) := Lib.hid (HR.out.symm.trans (OS_bad HP.out (Nat.succ_pos _)))
    obtain rfl := HO.out
    clear HR HP HO HIH h1 h2 h3
    go_enter Try.func22, Try.ntmps22
    go_wp2_with (first | (go_at_call 17; (with_reducible refine (refuse_no _ _ _).mono ?_); rintro e w' ⟨rfl, rfl⟩) | (go_at_call 17; refine (refuse_yes 6 a _).mono ?_; rintro e w' ⟨rfl, rfl⟩; unfold pnE fuV))
    exact ⟨rfl, .inr ⟨Nat.succ_pos _, rfl, Below.refl _ _⟩⟩
  rw [if_neg h3] at hp
  have d3 : decide ((en : Int) - (a : Int) < 4) = false := not_lt (by omega)
  have HN := Lib.hid (fun (hk : rdS s (a + 2) < 32768) hq => (OS_flat (s := s) (dp := dp) (a := a) (en := en) (out := out) hq hk).symm.trans HR.out)
  have HNn := Lib.hid (fun (hk : ¬ rdS s (a + 2) < 32768) hq => (OS_nest (s := s) (dp := dp) (a := a) (en := en) (out := out) hq hk).symm.trans HR.out)
  obtain ⟨n, hn⟩ : ∃ n, rdS s a = n := ⟨_, rfl⟩
  obtain ⟨kd, hkd⟩ : ∃ k, rdS s (a + 2) = k := ⟨_, rfl⟩
  have hn6 := rdS_lt s a
  have hk6 := rdS_lt s (a + 2)
  have HPa := Lib.hid (fun w h => pairAt_any g a (.slice ad out.length cc) s w (Lib.hid h) (by omega) hs)
  have HPk := Lib.hid (fun w h => pairAt_any g (a + 2) (.slice ad out.length cc) s w (Lib.hid h) (by omega) hs)
  rw [show ((a + 2 : Nat) : Int) = (a : Int) + 2 by omega] at HPk
  rw [hn] at hp hn6 HPa HN HNn ⊢
  rw [hkd] at hp hk6 HPk HN HNn
  have hpd := (show n ≤ padA n ∧ padA n ≤ n + 3 by unfold padA; omega)
  obtain ⟨P, hP⟩ : ∃ P, padA n = P := ⟨_, rfl⟩
  have HPd := Lib.hid (fun w => paddedSize_any n w (by omega))
  rw [hP] at hp hpd HPd ⊢
  obtain ⟨hp1, hp2⟩ := hpd
  clear hn hkd hP
  by_cases h4 : n < 4
  · rw [if_pos h4] at hp
    subst hp
    have d4 : decide ((n : Int) < 4) = true := is_lt (by omega)
    have HO : Hid (R = (out, (3, a))) := Lib.hid (HR.out.symm.trans (OS_bad HP.out (Nat.succ_pos _)))
    obtain rfl := HO.out
    clear HR HP HO HIH h1 h2 h3 h4
    go_enter Try.func22, Try.ntmps22
    go_wp2_with (first | (go_at_call 23; (with_reducible refine (HPa.out w HBX.out).mono ?_); rintro e w1 ⟨rfl, b1⟩; have C1 := Lib.hid b1; clear b1) | (go_at_call 23; (with_reducible refine (HPk.out _ (HBX.out.below C1.out)).mono ?_); rintro e w2 ⟨rfl, b2⟩; have C2 := Lib.hid (C1.out.trans (b2.mono C1.out.size)); clear b2) | (go_at_call 17; (with_reducible refine (refuse_no _ _ _).mono ?_); rintro e w' ⟨rfl, rfl⟩) | (go_at_call 17; refine (refuse_yes 3 a _).mono ?_; rintro e w' ⟨rfl, rfl⟩; unfold pnE fuV))
    exact ⟨rfl, .inr ⟨Nat.succ_pos _, rfl, C2.out.mono (by omega)⟩⟩
  rw [if_neg h4] at hp
  have d4 : decide ((n : Int) < 4) = false := not_lt (by omega)
  by_cases h5 : en < a + P
  · rw [if_pos h5] at hp
    subst hp
    have d5 : decide ((en : Int) < (a : Int) + (P : Int)) = true := is_lt (by omega)
    have HO : Hid (R = (out, (6, a))) := Lib.hid (HR.out.symm.trans (OS_bad HP.out (Nat.succ_pos _)))
    obtain rfl := HO.out
    clear HR HP HO HIH h1 h2 h3 h4 h5
    go_enter Try.func22, Try.ntmps22
    go_wp2_with (first | (go_at_call 23; (with_reducible refine (HPa.out w HBX.out).mono ?_); rintro e w1 ⟨rfl, b1⟩; have C1 := Lib.hid b1; clear b1) | (go_at_call 23; (with_reducible refine (HPk.out _ (HBX.out.below C1.out)).mono ?_); rintro e w2 ⟨rfl, b2⟩; have C2 := Lib.hid (C1.out.trans (b2.mono C1.out.size)); clear b2) | (go_at_call 24; (with_reducible refine (HPd.out _).mono ?_); rintro e w' ⟨rfl, hw⟩; rw [hw]; clear hw) | (go_at_call 17; (with_reducible refine (refuse_no _ _ _).mono ?_); rintro e w' ⟨rfl, rfl⟩) | (go_at_call 17; refine (refuse_yes 6 a _).mono ?_; rintro e w' ⟨rfl, rfl⟩; unfold pnE fuV))
    exact ⟨rfl, .inr ⟨Nat.succ_pos _, rfl, C2.out.mono (by omega)⟩⟩
  rw [if_neg h5] at hp
  have d5 : decide ((en : Int) < (a : Int) + (P : Int)) = false := not_lt (by omega)
  by_cases h6 : kd < 32768 ∧ 1004 < n
  · rw [if_pos h6] at hp
    subst hp
    have d6 : decide ((32768 : Int) ≤ (kd : Int)) = false := not_le (by omega)
    have d7 : decide ((1004 : Int) < (n : Int)) = true := is_lt (by omega)
    have HO : Hid (R = (out, (5, a))) := Lib.hid (HR.out.symm.trans (OS_bad HP.out (Nat.succ_pos _)))
    obtain rfl := HO.out
    clear HR HP HO HIH h1 h2 h3 h4 h5 h6
    go_enter Try.func22, Try.ntmps22
    go_wp2_with (first | (go_at_call 23; (with_reducible refine (HPa.out w HBX.out).mono ?_); rintro e w1 ⟨rfl, b1⟩; have C1 := Lib.hid b1; clear b1) | (go_at_call 23; (with_reducible refine (HPk.out _ (HBX.out.below C1.out)).mono ?_); rintro e w2 ⟨rfl, b2⟩; have C2 := Lib.hid (C1.out.trans (b2.mono C1.out.size)); clear b2) | (go_at_call 24; (with_reducible refine (HPd.out _).mono ?_); rintro e w' ⟨rfl, hw⟩; rw [hw]; clear hw) | (go_at_call 17; (with_reducible refine (refuse_no _ _ _).mono ?_); rintro e w' ⟨rfl, rfl⟩) | (go_at_call 17; refine (refuse_yes 5 a _).mono ?_; rintro e w' ⟨rfl, rfl⟩; unfold pnE fuV))
    exact ⟨rfl, .inr ⟨Nat.succ_pos _, rfl, C2.out.mono (by omega)⟩⟩
  rw [if_neg h6] at hp
  have Z0 : Hid (hzR (nzF s (a + P - (a + n)) (a + n)) = p) := Lib.hid (by rw [Nat.add_sub_add_left]; exact hp)
  have HB : Hid (∀ k, p = (1, k) → R = (out, (1, k))) := Lib.hid (fun k hk => HR.out.symm.trans (OS_bad (HP.out.trans hk) (Nat.succ_pos _)))
  have HZ0 : Hid (p = (0, 0) → hdF s out.length dp a en = (0, 0)) := Lib.hid (fun h => HP.out.trans h)
  clear hp HR HP
  by_cases h7 : kd < 32768
  · skip
    have d6 : decide ((32768 : Int) ≤ (kd : Int)) = false := not_le (by omega)
    have d7 : decide ((1004 : Int) < (n : Int)) = false := not_lt (by omega)
    go_enter Try.func22, Try.ntmps22
    go_wp2_with (first | (go_at_call 23; (with_reducible refine (HPa.out w HBX.out).mono ?_); rintro e w1 ⟨rfl, b1⟩; have C1 := Lib.hid b1; clear b1) | (go_at_call 23; (with_reducible refine (HPk.out _ (HBX.out.below C1.out)).mono ?_); rintro e w2 ⟨rfl, b2⟩; have C2 := Lib.hid (C1.out.trans (b2.mono C1.out.size)); clear b2) | (go_at_call 24; (with_reducible refine (HPd.out _).mono ?_); rintro e w' ⟨rfl, hw⟩; rw [hw]; clear hw) | (go_at_call 17; (with_reducible refine (refuse_no _ _ _).mono ?_); rintro e w' ⟨rfl, rfl⟩))
    go_loopw [15] (fun z wr => ZpRel w2 s a n P p z wr) (fun z _ => a + P - (intOf z).toNat)
    case atStart => exact ⟨a + n, Nat.le_refl _, by omega, by go_num, Lib.hid rfl, Z0⟩
    case round =>
      obtain ⟨j, hj0, hj, rfl, hw, HQ⟩ := hrel
      have hwe := hw.out
      subst hwe
      clear hw
      have k0 : wr.cell? ⟨g, 0, none⟩ = some (.string s) := (H0.out.1.below C2.out).cell 0
      by_cases hjl : j < a + P
      · have hjs : j < s.size := by omega
        have hix := byte_at s j hjs (j : Int) rfl
        have hby := Lib.hid (byS_eq hjs)
        obtain ⟨z, hz⟩ : ∃ z : Nat, (s[j]'hjs).toNat = z := ⟨_, rfl⟩
        rw [hz] at hix hby
        have HE := Lib.hid (nzF_at s hjl)
        rw [hby.out] at HE
        have dl : decide ((j : Int) < (a : Int) + (P : Int)) = true := is_lt (by omega)
        clear hz hby
        by_cases hz0 : z = 0
        · have HZ : Hid (hzR (nzF s (a + P - (j + 1)) (j + 1)) = p) := Lib.hid (by rw [← HQ.out, HE.out, if_pos hz0])
          have dz2 : ((z : Int) != 0) = false := by simp; omega
          clear HE HQ hz0
          go_wp2_with (go_at_call 17; (with_reducible refine (refuse_no _ _ _).mono ?_); rintro e w' ⟨rfl, rfl⟩)
          go_roundw
          case rel => exact ⟨j + 1, by omega, by omega, by go_num, Lib.hid rfl, HZ⟩
          case measure => simp [intOf]; omega
        · have HZ : Hid (p = (1, j)) := Lib.hid (by rw [← HQ.out, HE.out, if_neg hz0]; rfl)
          have HO := Lib.hid (HB.out j HZ.out)
          have dz2 : ((z : Int) != 0) = true := by simp; omega
          clear HE HQ hz0 HIH
          obtain rfl := HO.out
          go_wp2_with (go_at_call 17; refine (refuse_yes 1 j _).mono ?_; rintro e w' ⟨rfl, rfl⟩; unfold pnE fuV)
          exact ⟨rfl, .inr ⟨Nat.succ_pos _, rfl, C2.out.mono (by omega)⟩⟩
      · have hjP : j = a + P := by omega
        have HZ : Hid (p = (0, 0)) := Lib.hid (by rw [← HQ.out, hjP, Nat.sub_self]; rfl)
        have dl : decide ((j : Int) < (a : Int) + (P : Int)) = false := not_lt (by omega)
        have R2 := Lib.hid (H0.out.on C2.out)
        have K2 := Lib.hid ((Kp.refl g (.slice ad out.length cc) w).call hgw C2.out)
        have hg2 : g < wr.heap.size := R2.out.lt
        have HO := Lib.hid (HN.out h7 (HZ0.out HZ.out)).symm
        have HSl := Lib.hid (fun w => slice_at2 s (a + 4) (a + n) ((a : Int) + 4) ((a : Int) + (n : Int)) (by omega) (by omega) (by omega) (by omega) w)
        have sz : (s.extract (a + 4) (a + n)).size ≤ 6000 := by rw [ByteArray.size_extract]; omega
        have HC := Lib.hid (fun w => strClone_any (s.extract (a + 4) (a + n)) w (by omega))
        clear HN HNn HB HZ0 HZ HQ h7 h6 hk6 hn6 HIH k0 hjl hj
        generalize s.extract (a + 4) (a + n) = sx at HSl sz HC HO
        obtain rfl := HO.out
        clear HO
        go_upto_region 17 with fail
        refine AnyL.begin (S := fun w' => w'.cell? ⟨g, 0, none⟩ = some (.string s)) (T := fun w' => w'.cell? ⟨g, 1, none⟩ = some (.slice ad out.length cc)) (b := 20) (by kernel_rfl) ?_
        have XD : Hid (Below wr.heap.size wr wr.drew) := Lib.hid (below_drewN (Below.refl _ _) 1)
        obtain ⟨w5, hw5⟩ : ∃ w5, wr.drew = w5 := ⟨_, rfl⟩
        rw [hw5] at XD ⊢
        have R5 := Lib.hid (R2.out.on XD.out)
        have K5 := Lib.hid (K2.out.call hgw XD.out)
        have hB : w5.cell? ⟨g, 0, none⟩ = some (.string s) ∧ w5.cell? ⟨g, 1, none⟩ = some (.slice ad out.length cc) := ⟨R5.out.1.cell 0, R5.out.1.cell 1⟩
        clear hw5 XD R2 K2
        refine AnyL.tS (i := 0) (d := 104) (v := ?_) rfl rfl (by kernel_rfl) (by kernel_rfl) (by kernel_rfl) (by decide) (fun _ _ _ h => h) (by rfl) ?_ (by assumption) ?_
        rotate_left
        · intro w' hSw
          (try dsimp only at hSw)
          go_simp
          try with_reducible rfl
        try simp only [Act.put, List.setIfInBounds_toArray, List.set_cons_zero, List.set_cons_succ]
        refine AnyL.tS (i := 1) (d := 105) (v := ?_) rfl rfl (by kernel_rfl) (by kernel_rfl) (by kernel_rfl) (by decide) (fun _ _ _ h => h) (by rfl) ?_ (by assumption) ?_
        rotate_left
        · intro w' hSw
          (try dsimp only at hSw)
          go_simp
          try with_reducible rfl
        try simp only [Act.put, List.setIfInBounds_toArray, List.set_cons_zero, List.set_cons_succ]
        refine AnyL.tS (i := 2) (d := 106) (v := ?_) rfl rfl (by kernel_rfl) (by kernel_rfl) (by kernel_rfl) (by decide) (fun _ _ _ h => h) (by rfl) ?_ (by assumption) ?_
        rotate_left
        · intro w' hSw
          (try dsimp only at hSw)
          go_simp
          try with_reducible rfl
        try simp only [Act.put, List.setIfInBounds_toArray, List.set_cons_zero, List.set_cons_succ]
        refine AnyL.tS (i := 3) (d := 107) (v := ?_) rfl rfl (by kernel_rfl) (by kernel_rfl) (by kernel_rfl) (by decide) (fun _ _ _ h => h) (by rfl) ?_ (by assumption) ?_
        rotate_left
        · intro w' hSw
          (try dsimp only at hSw)
          go_simp
          try with_reducible rfl
        try simp only [Act.put, List.setIfInBounds_toArray, List.set_cons_zero, List.set_cons_succ]
        refine AnyL.tT (i := 4) (d := 108) (v := ?_) rfl rfl (by kernel_rfl) (by kernel_rfl) (by kernel_rfl) (by decide) (by kernel_rfl) (by kernel_rfl) (fun _ _ _ h => h) (by rfl) ?_ (by assumption) ?_
        rotate_left
        · intro w' hSw
          (try dsimp only at hSw)
          go_simp
          try with_reducible rfl
        try simp only [Act.put, List.setIfInBounds_toArray, List.set_cons_zero, List.set_cons_succ]
        refine AnyL.tS (i := 5) (d := 109) (v := ?_) rfl rfl (by kernel_rfl) (by kernel_rfl) (by kernel_rfl) (by decide) (fun _ _ _ h => h) (by rfl) ?_ (by assumption) ?_
        rotate_left
        · intro w' hSw
          (try dsimp only at hSw)
          go_simp
          try with_reducible rfl
        try simp only [Act.put, List.setIfInBounds_toArray, List.set_cons_zero, List.set_cons_succ]
        refine AnyL.tS (i := 6) (d := 110) (v := ?_) rfl rfl (by kernel_rfl) (by kernel_rfl) (by kernel_rfl) (by decide) (fun _ _ _ h => h) (by rfl) ?_ (by assumption) ?_
        rotate_left
        · intro w' hSw
          (try dsimp only at hSw)
          go_simp
          try with_reducible rfl
        try simp only [Act.put, List.setIfInBounds_toArray, List.set_cons_zero, List.set_cons_succ]
        refine AnyL.tS (i := 7) (d := 111) (v := ?_) rfl rfl (by kernel_rfl) (by kernel_rfl) (by kernel_rfl) (by decide) (fun _ _ _ h => h) (by rfl) ?_ (by assumption) ?_
        rotate_left
        · intro w' hSw
          (try dsimp only at hSw)
          go_simp
          try with_reducible rfl
        try simp only [Act.put, List.setIfInBounds_toArray, List.set_cons_zero, List.set_cons_succ]
        refine AnyL.tS (i := 8) (d := 112) (v := ?_) rfl rfl (by kernel_rfl) (by kernel_rfl) (by kernel_rfl) (by decide) (fun _ _ _ h => h) (by rfl) ?_ (by assumption) ?_
        rotate_left
        · intro w' hSw
          (try dsimp only at hSw)
          go_simp
          try with_reducible rfl
        try simp only [Act.put, List.setIfInBounds_toArray, List.set_cons_zero, List.set_cons_succ]
        refine AnyL.tS (i := 9) (d := 113) (v := ?_) rfl rfl (by kernel_rfl) (by kernel_rfl) (by kernel_rfl) (by decide) (fun _ _ _ h => h) (by rfl) ?_ (by assumption) ?_
        rotate_left
        · intro w' hSw
          (try dsimp only at hSw)
          go_simp
          try with_reducible rfl
        try simp only [Act.put, List.setIfInBounds_toArray, List.set_cons_zero, List.set_cons_succ]
        refine AnyL.tS (i := 10) (d := 114) (v := ?_) rfl rfl (by kernel_rfl) (by kernel_rfl) (by kernel_rfl) (by decide) (fun _ _ _ h => h) (by rfl) ?_ (by assumption) ?_
        rotate_left
        · intro w' hSw
          (try dsimp only at hSw)
          go_simp
          try with_reducible rfl
        try simp only [Act.put, List.setIfInBounds_toArray, List.set_cons_zero, List.set_cons_succ]
        refine AnyL.tS (i := 11) (d := 115) (v := ?_) rfl rfl (by kernel_rfl) (by kernel_rfl) (by kernel_rfl) (by decide) (fun _ _ _ h => h) (by rfl) ?_ (by assumption) ?_
        rotate_left
        · intro w' hSw
          (try dsimp only at hSw)
          go_simp
          try with_reducible rfl
        try simp only [Act.put, List.setIfInBounds_toArray, List.set_cons_zero, List.set_cons_succ]
        refine AnyL.tS (i := 12) (d := 116) (v := ?_) rfl rfl (by kernel_rfl) (by kernel_rfl) (by kernel_rfl) (by decide) (fun _ _ _ h => h) (by rfl) ?_ (by assumption) ?_
        rotate_left
        · intro w' hSw
          (try dsimp only at hSw)
          go_simp
          try with_reducible rfl
        try simp only [Act.put, List.setIfInBounds_toArray, List.set_cons_zero, List.set_cons_succ]
        refine AnyL.tS (i := 13) (d := 117) (v := .string sx) rfl rfl (by kernel_rfl) (by kernel_rfl) (by kernel_rfl) (by decide) (fun _ _ _ h => h) (by rfl) ?_ (by assumption) ?_
        · intro w' hSw
          (try dsimp only at hSw)
          go_simp
          (rw [HSl.out w']; rfl)
        try simp only [Act.put, List.setIfInBounds_toArray, List.set_cons_zero, List.set_cons_succ]
        refine AnyL.ready (rs := [14]) (by kernel_rfl) (by simp) ?_
        refine (AllL.consN rfl (fun K' hK => ?_) AllL.nil)
        go_simp
        go_at_call 25
        refine (HC.out _).mono ?_
        rintro _ w6 ⟨rfl, b6⟩
        have R6 := Lib.hid (R5.out.on b6)
        have K6 := Lib.hid (K5.out.call hgw b6)
        refine hK.out _ _ ⟨R6.out.1.cell 0, R6.out.1.cell 1⟩ (fun hB => ?_)
        clear hK K' b6
        try simp only [Act.put, List.setIfInBounds_toArray, List.set_cons_zero, List.set_cons_succ]
        refine AnyL.tS (i := 15) (d := 119) (v := ?_) rfl rfl (by kernel_rfl) (by kernel_rfl) (by kernel_rfl) (by decide) (fun _ _ _ h => h) (by rfl) ?_ (by assumption) ?_
        rotate_left
        · intro w' hSw
          (try dsimp only at hSw)
          go_simp
          try with_reducible rfl
        try simp only [Act.put, List.setIfInBounds_toArray, List.set_cons_zero, List.set_cons_succ]
        refine AnyL.ready (rs := [16]) (by kernel_rfl) (by simp) ?_
        refine (AllL.consN rfl (fun K' hK => ?_) AllL.nil)
        go_simp
        have bn := one_new2 w6 (Obj.cells #[.int .i64 (dp : Int), .int .i64 (kd : Int), .bool false, .string sx] 35)
        have R7 := Lib.hid (R6.out.on bn)
        have K7 := Lib.hid (K6.out.call hgw bn)
        refine hK.out _ _ ⟨R7.out.1.cell 0, R7.out.1.cell 1⟩ (fun hB => ?_)
        clear hK K' bn
        try simp only [Act.put, List.setIfInBounds_toArray, List.set_cons_zero, List.set_cons_succ]
        refine AnyL.ready (rs := [17]) (by kernel_rfl) (by simp) ?_
        refine (AllL.consN rfl (fun K' hK => ?_) AllL.nil)
        refine step_append_at _ rfl (.tmp 108) (.tmp 120) 22 rfl (g + 1) 35 i0 (.agg #[.int .i64 0, .int .i64 0, .bool false, .string ⟨#[]⟩]) 4 40 Try.underlying22 hi hz0 hz1 hz2 rfl (by decide) (.slice ad out.length cc) out.length (atCs out) (by rfl) R7.out.2 ⟨w6.heap.size, 0, none⟩ 1 1 (atC ⟨(dp : Int), (kd : Int), false, sx⟩) (by rfl) rfl (four_cells w6 ⟨(dp : Int), (kd : Int), false, sx⟩ 35) (atC_one _) (by unfold maxLen; omega) (by omega) (by have := R7.out.lt; omega) ?_
        intro v7 w7 hown hgrow hat
        obtain ⟨ad7, cc7, rfl, _⟩ := own_in hown
        obtain ⟨r8, k8, b8⟩ := nestp_app (x := ⟨(dp : Int), (kd : Int), false, sx⟩) R7.out K7.out hown hgrow hat
        have R8 := Lib.hid r8
        have K8 := Lib.hid k8
        have B8 := Lib.hid b8
        clear r8 k8 b8 hown hgrow hat
        refine hK.out _ _ ⟨B8.out.cell 0, B8.out.cell 1⟩ (fun hB => ?_)
        clear hK K'
        try simp only [Act.put, List.setIfInBounds_toArray, List.set_cons_zero, List.set_cons_succ]
        refine AnyL.tS (i := 18) (d := 122) (v := ?_) rfl rfl (by kernel_rfl) (by kernel_rfl) (by kernel_rfl) (by decide) (fun _ _ _ h => h) (by rfl) ?_ (by assumption) ?_
        rotate_left
        · intro w' hSw
          (try dsimp only at hSw)
          go_simp
          try with_reducible rfl
        try simp only [Act.put, List.setIfInBounds_toArray, List.set_cons_zero, List.set_cons_succ]
        refine AnyL.tS (i := 19) (d := 123) (v := ?_) rfl rfl (by kernel_rfl) (by kernel_rfl) (by kernel_rfl) (by decide) (fun _ _ _ h => h) (by rfl) ?_ (by assumption) ?_
        rotate_left
        · intro w' hSw
          (try dsimp only at hSw)
          go_simp
          try with_reducible rfl
        try simp only [Act.put, List.setIfInBounds_toArray, List.set_cons_zero, List.set_cons_succ]
        have c7 := B8.out.cell 1
        have f7 := B8.out.open 1
        refine AnyL.ready (rs := [20]) (by kernel_rfl) (by simp) ?_
        refine (AllL.consB rfl (by kernel_rfl) (fun K' hK => ?_) AllL.nil)
        go_simp
        refine hK.out _ _ (R8.out.1.cell 0) ?_
        clear hK K'
        try simp only [Act.put, List.setIfInBounds_toArray, List.set_cons_zero, List.set_cons_succ]
        refine AnyL.done (by kernel_rfl) ?_ _
        clear hB B8 c7 f7
        go_wp2_with fail
        go_ret
        exact .inl ⟨rfl, rfl, _, R8.out, K8.out⟩
  · skip
    have d6 : decide ((32768 : Int) ≤ (kd : Int)) = true := is_le (by omega)
    go_enter Try.func22, Try.ntmps22
    go_wp2_with (first | (go_at_call 23; (with_reducible refine (HPa.out w HBX.out).mono ?_); rintro e w1 ⟨rfl, b1⟩; have C1 := Lib.hid b1; clear b1) | (go_at_call 23; (with_reducible refine (HPk.out _ (HBX.out.below C1.out)).mono ?_); rintro e w2 ⟨rfl, b2⟩; have C2 := Lib.hid (C1.out.trans (b2.mono C1.out.size)); clear b2) | (go_at_call 24; (with_reducible refine (HPd.out _).mono ?_); rintro e w' ⟨rfl, hw⟩; rw [hw]; clear hw) | (go_at_call 17; (with_reducible refine (refuse_no _ _ _).mono ?_); rintro e w' ⟨rfl, rfl⟩))
    go_loopw [15] (fun z wr => ZpRel w2 s a n P p z wr) (fun z _ => a + P - (intOf z).toNat)
    case atStart => exact ⟨a + n, Nat.le_refl _, by omega, by go_num, Lib.hid rfl, Z0⟩
    case round =>
      obtain ⟨j, hj0, hj, rfl, hw, HQ⟩ := hrel
      have hwe := hw.out
      subst hwe
      clear hw
      have k0 : wr.cell? ⟨g, 0, none⟩ = some (.string s) := (H0.out.1.below C2.out).cell 0
      by_cases hjl : j < a + P
      · have hjs : j < s.size := by omega
        have hix := byte_at s j hjs (j : Int) rfl
        have hby := Lib.hid (byS_eq hjs)
        obtain ⟨z, hz⟩ : ∃ z : Nat, (s[j]'hjs).toNat = z := ⟨_, rfl⟩
        rw [hz] at hix hby
        have HE := Lib.hid (nzF_at s hjl)
        rw [hby.out] at HE
        have dl : decide ((j : Int) < (a : Int) + (P : Int)) = true := is_lt (by omega)
        clear hz hby
        by_cases hz0 : z = 0
        · have HZ : Hid (hzR (nzF s (a + P - (j + 1)) (j + 1)) = p) := Lib.hid (by rw [← HQ.out, HE.out, if_pos hz0])
          have dz2 : ((z : Int) != 0) = false := by simp; omega
          clear HE HQ hz0
          go_wp2_with (go_at_call 17; (with_reducible refine (refuse_no _ _ _).mono ?_); rintro e w' ⟨rfl, rfl⟩)
          go_roundw
          case rel => exact ⟨j + 1, by omega, by omega, by go_num, Lib.hid rfl, HZ⟩
          case measure => simp [intOf]; omega
        · have HZ : Hid (p = (1, j)) := Lib.hid (by rw [← HQ.out, HE.out, if_neg hz0]; rfl)
          have HO := Lib.hid (HB.out j HZ.out)
          have dz2 : ((z : Int) != 0) = true := by simp; omega
          clear HE HQ hz0 HIH
          obtain rfl := HO.out
          go_wp2_with (go_at_call 17; refine (refuse_yes 1 j _).mono ?_; rintro e w' ⟨rfl, rfl⟩; unfold pnE fuV)
          exact ⟨rfl, .inr ⟨Nat.succ_pos _, rfl, C2.out.mono (by omega)⟩⟩
      · have hjP : j = a + P := by omega
        have HZ : Hid (p = (0, 0)) := Lib.hid (by rw [← HQ.out, hjP, Nat.sub_self]; rfl)
        have dl : decide ((j : Int) < (a : Int) + (P : Int)) = false := not_lt (by omega)
        have R2 := Lib.hid (H0.out.on C2.out)
        have K2 := Lib.hid ((Kp.refl g (.slice ad out.length cc) w).call hgw C2.out)
        have hg2 : g < wr.heap.size := R2.out.lt
        have HO := Lib.hid (HNn.out h7 (HZ0.out HZ.out))
        obtain ⟨o2, fk2, fa2⟩ := R
        have HC : Hid (∀ v' w', RdrAt w' g s 45 v' (out ++ [⟨(dp : Int), (kd : Int) - 32768, true, ⟨#[]⟩⟩]) → Calls Try.prog 18 #[.pointer (some ⟨g, 0, none⟩), .int .i64 ((a : Int) + 4), .int .i64 ((a : Int) + (n : Int)), .int .i64 ((dp : Int) + 1)] w' (SaysP g s v' w' (o2, fk2, fa2) (.tuple #[]))) := Lib.hid (fun v' w' h => by
          have q := HIH.out (a + n - (a + 4)) (by omega) (dp + 1) (a + 4) (a + n) _ v' w' (Nat.le_refl _) h (by omega) (by omega) (by omega) (by simp; omega)
          rw [HO.out, show ((dp + 1 : Nat) : Int) = (dp : Int) + 1 by omega, show ((a + 4 : Nat) : Int) = (a : Int) + 4 by omega, show ((a + n : Nat) : Int) = (a : Int) + (n : Int) by omega] at q
          exact q)
        have hwk : IntKind.i64.wrap ((kd : Int) - 32768) = (kd : Int) - 32768 := IntWalk.i64_in _ (by omega)
        have hwd : IntKind.i64.wrap ((dp : Int) + 1) = (dp : Int) + 1 := IntWalk.i64_in _ (by omega)
        have c4 : wr.cell? ⟨g, 1, none⟩ = some (.slice ad out.length cc) := R2.out.1.cell 1
        clear HN HNn HB HZ0 HZ HQ h7 h6 hk6 hn6 HIH k0 hjl hj HO
        go_wp2_with (at_builtin; refine wpList_append_at _ rfl _ _ 22 rfl (g + 1) 35 i0 (.agg #[.int .i64 0, .int .i64 0, .bool false, .string ⟨#[]⟩]) 4 40 Try.underlying22 hi hz0 hz1 hz2 rfl (by decide) (.slice ad out.length cc) out.length (atCs out) rfl (R2.out.on (one_new2 wr (Obj.cells #[.int .i64 (dp : Int), .int .i64 ((kd : Int) - 32768), .bool true, .string ⟨#[]⟩] 35))).2 ⟨wr.heap.size, 0, none⟩ 1 1 (atC ⟨(dp : Int), (kd : Int) - 32768, true, ⟨#[]⟩⟩) rfl rfl (four_cells wr ⟨(dp : Int), (kd : Int) - 32768, true, ⟨#[]⟩⟩ 35) (atC_one _) (by unfold maxLen; omega) (by omega) (by simp; omega) ?_; intro v7 w7 hown hgrow hat; obtain ⟨ad7, cc7, rfl, _⟩ := own_in hown; obtain ⟨r8, k8, b8⟩ := nestp_app (x := ⟨(dp : Int), (kd : Int) - 32768, true, ⟨#[]⟩⟩) (R2.out.on (one_new2 wr (Obj.cells #[.int .i64 (dp : Int), .int .i64 ((kd : Int) - 32768), .bool true, .string ⟨#[]⟩] 35))) (K2.out.call hgw (one_new2 wr (Obj.cells #[.int .i64 (dp : Int), .int .i64 ((kd : Int) - 32768), .bool true, .string ⟨#[]⟩] 35))) hown hgrow hat; have R8 := Lib.hid r8; have K8 := Lib.hid k8; have c7 := b8.cell 1; have f7 := b8.open 1; clear r8 k8 b8 hown hgrow hat; refine Hid.out ?_)
        refine Lib.hid ?_
        by_cases hf2 : 0 < fk2
        · go_wp2_with (go_at_call 18; refine (HC.out _ _ R8.out).mono ?_; rintro e w9 h9; obtain ⟨rfl, b9⟩ := h9.bad hf2; have B9 := Lib.hid (K8.out.low.trans b9); clear h9 b9; unfold pnE fuV)
          exact ⟨rfl, .inr ⟨hf2, rfl, B9.out⟩⟩
        · go_wp2_with (go_at_call 18; refine (HC.out _ _ R8.out).mono ?_; rintro e w9 h9; obtain ⟨rfl, v9, r9, k9⟩ := h9.ok hf2; have R9 := Lib.hid r9; have K9 := Lib.hid (K8.out.trans k9); clear h9 r9 k9)
          go_ret
          exact .inl ⟨by simp only; omega, rfl, v9, R9.out, K9.out⟩
end Go.Proofs.Ytgnobmmlmmbfcaa
