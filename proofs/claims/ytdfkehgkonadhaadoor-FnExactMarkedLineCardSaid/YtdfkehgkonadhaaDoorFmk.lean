/- MarkedLine: contracts of both sides. -/
import Derived.Test.YtdfkehgkonadhaaDoorFlt
namespace Go.Proofs.YtdfkehgkonadhaaDoor
set_option maxRecDepth 100000
open Go.RowKit
set_option linter.unusedVariables false
set_option linter.unusedSimpArgs false

/-- so many blanks -/
def repB (c : Nat) : ByteArray := ⟨(Lib.repeatL [32] c).toArray⟩
theorem repB_list (c : Nat) : (repB c).data.toList = List.replicate c 32 := by
  unfold repB
  simp only
  induction c with
  | zero => rfl
  | succ c ih => rw [Lib.repeatL]; simpa [List.replicate_succ] using ih
theorem size_lst (s : ByteArray) : s.size = s.data.toList.length := Lib.size_eq s
theorem repB_size (c : Nat) : (repB c).size = c := by rw [size_lst, repB_list, List.length_replicate]
theorem bytes_ext {a b : ByteArray} (h : a.data.toList = b.data.toList) : a = b := by
  obtain ⟨⟨a⟩⟩ := a
  obtain ⟨⟨b⟩⟩ := b
  simp only at h
  rw [h]
theorem repB_succ (c : Nat) : repB c ++ ⟨#[32]⟩ = repB (c + 1) := by
  apply bytes_ext
  rw [ByteArray.data_append, Array.toList_append, repB_list, repB_list, List.replicate_succ']
theorem repB_zero (s : ByteArray) : s ++ repB 0 = s := by
  apply bytes_ext
  rw [ByteArray.data_append, Array.toList_append, repB_list]
  simp
theorem app_assoc (a b c : ByteArray) : a ++ b ++ c = a ++ (b ++ c) := by
  apply bytes_ext
  simp only [ByteArray.data_append, Array.toList_append, List.append_assoc]
/-- a line, a newline, so many blanks, a mark, a newline -/
def mlT (q : ByteArray) (c : Nat) : ByteArray := q ++ ⟨#[10]⟩ ++ repB c ++ ⟨#[94, 10]⟩
theorem mlT_two (q : ByteArray) (c : Nat) : q ++ ⟨#[10]⟩ ++ repB c ++ ⟨#[94]⟩ ++ ⟨#[10]⟩ = mlT q c := by
  unfold mlT
  rw [app_assoc _ (⟨#[94]⟩ : ByteArray)]
  rfl
def mlI (s : ByteArray) (x : Fa) : Nat := lnN (s.data.toList.take x.a.toNat) - 1
def mlC (s : ByteArray) (x : Fa) : Nat := coN (s.data.toList.take x.a.toNat) - 1
def resMl (s : ByteArray) (x : Fa) : ByteArray := if resFits1 x s = true then mlT ((scB 10 s).getD (mlI s x) ⟨#[]⟩) (mlC s x) else ⟨#[]⟩
theorem ml_no {s : ByteArray} {x : Fa} (h : resFits1 x s = false) : resMl s x = ⟨#[]⟩ := by unfold resMl; rw [h]; rfl
theorem co_pos (l : List UInt8) : 1 ≤ coN l := by unfold coN; omega
theorem last_le (b : UInt8) (l : List UInt8) : ((scL b l).getLastD []).length ≤ l.length := by
  have h := sc_total b l []
  unfold scL
  have hne : scA b [] l ≠ [] := by intro q; have := scA_length b l []; rw [q] at this; simp at this
  obtain ⟨y, hy⟩ : ∃ y, (scA b [] l).getLast hne = y := ⟨_, rfl⟩
  have hs := List.dropLast_concat_getLast hne
  rw [hy] at hs
  rw [List.getLastD_eq_getLast?, List.getLast?_eq_some_getLast hne, hy]
  rw [← hs, List.map_append, List.sum_append] at h
  simp at h ⊢
  omega
theorem co_le (l : List UInt8) : coN l ≤ l.length + 1 := by unfold coN; have := last_le 10 l; omega
structure MlOk (s : ByteArray) (x : Fa) (n m c : Nat) : Prop where
  ea : x.a = n
  hn : n ≤ s.size
  hs : s.size ≤ 6000
  el : lnN (s.data.toList.take n) = m + 1
  ec : coN (s.data.toList.take n) = c + 1
  hm : m < (scB 10 s).length
  hm6 : m ≤ 6000
  hc : c ≤ 6000
  hq : ((scB 10 s).getD m ⟨#[]⟩).size ≤ 6000
  g : goodF x = true
  l : linB s = true
  r : resMl s x = mlT ((scB 10 s).getD m ⟨#[]⟩) c
theorem ml_ok {s : ByteArray} {x : Fa} (h : resFits1 x s = true) : ∃ n m c, MlOk s x n m c := by
  have h' := h
  unfold resFits1 at h
  simp only [Bool.and_eq_true, decide_eq_true_eq] at h
  obtain ⟨hg, hl, ha⟩ := h
  have g := faok hg
  have hl' := hl
  unfold linB at hl
  have hs : s.size ≤ 6000 := by have := of_decide_eq_true hl; omega
  have a0 := g.a0
  have hn : x.a.toNat ≤ s.size := by omega
  have e1 := co_pos (s.data.toList.take x.a.toNat)
  have e2 := ln_le (s.data.toList.take x.a.toNat)
  have e3 := co_le (s.data.toList.take x.a.toNat)
  have hlen : (s.data.toList.take x.a.toNat).length ≤ 6000 := by rw [List.length_take, ← Lib.size_eq]; omega
  have e4 : lnN (s.data.toList.take x.a.toNat) = (s.data.toList.take x.a.toNat).count 10 + 1 := by unfold lnN; rw [scL_length]
  have e5 : (s.data.toList.take x.a.toNat).count 10 ≤ s.data.toList.count 10 := (List.take_sublist _ _).count_le _
  have hm : mlI s x < (scB 10 s).length := by unfold mlI; rw [scB_length, e4]; omega
  have hq := piece_le (scB 10 s) (mlI s x) hm
  rw [zsum_all] at hq
  exact ⟨x.a.toNat, mlI s x, mlC s x, by omega, hn, hs, by unfold mlI; omega, by unfold mlC; omega, hm, by unfold mlI; omega, by unfold mlC; omega, by omega, hg, hl', by unfold resMl; rw [if_pos h']⟩
def MkRel (q : ByteArray) (c : Nat) (S C : Value) : Prop := ∃ k : Nat, k ≤ c ∧ C = .int .i64 ((c : Int) + 1 - k) ∧ ∃ u : ByteArray, S = .string u ∧ u.size ≤ 20000 ∧ Hid (u = q ++ ⟨#[10]⟩ ++ repB k)
set_option maxHeartbeats 3200000 in
theorem specMarked_no (s : ByteArray) (x : Fa) (w : World) (h : resFits1 x s = false) : Calls Tryd.prog 21 #[.string s, faV x] w (SaysT2 w (.string (resMl s x)) (.bool false)) := by
  have HG := Lib.hid (fun w => erGood_any x w)
  have HL := Lib.hid (fun w => erText_any s w)
  rw [ml_no h]
  cases hg : goodF x
  · rw [hg] at HG
    obtain ⟨xk, xa⟩ := x
    unfold faV at HG ⊢
    simp only at HG ⊢
    clear h hg
    go_enter Tryd.func21, Tryd.ntmps21
    go_wp2_with (go_at_call 41; refine (HG.out _).mono ?_; rintro e w1 ⟨rfl, b1⟩; have B1 := Lib.hid (box_two b1).2; obtain ⟨c0, c1, cl⟩ := (box_two b1).1; clear b1)
    go_ret2
    exact ⟨rfl, B1.out⟩
  cases hl : linB s
  · rw [hg] at HG
    rw [hl] at HL
    obtain ⟨xk, xa⟩ := x
    unfold faV at HG ⊢
    simp only at HG ⊢
    clear h hg hl
    go_enter Tryd.func21, Tryd.ntmps21
    go_wp2_with (go_at_call 41; refine (HG.out _).mono ?_; rintro e w1 ⟨rfl, b1⟩; have B1 := Lib.hid (box_two b1).2; obtain ⟨c0, c1, cl⟩ := (box_two b1).1; clear b1)
    go_wp2_with (go_at_call 34; refine (HL.out _).mono ?_; rintro e w' ⟨rfl, rfl⟩)
    go_ret2
    exact ⟨rfl, B1.out⟩
  · have hlt : (s.size : Int) < x.a := by
      unfold resFits1 at h
      rw [hg, hl] at h
      simp at h
      omega
    rw [hg] at HG
    rw [hl] at HL
    obtain ⟨xk, xa⟩ := x
    unfold faV at HG ⊢
    simp only at HG hlt ⊢
    have d := is_lt hlt
    clear h hg hl
    go_enter Tryd.func21, Tryd.ntmps21
    go_wp2_with (go_at_call 41; refine (HG.out _).mono ?_; rintro e w1 ⟨rfl, b1⟩; have B1 := Lib.hid (box_two b1).2; obtain ⟨c0, c1, cl⟩ := (box_two b1).1; clear b1)
    go_wp2_with (go_at_call 34; refine (HL.out _).mono ?_; rintro e w' ⟨rfl, rfl⟩)
    go_ret2
    exact ⟨rfl, B1.out⟩
set_option maxHeartbeats 3200000 in
theorem specMarked_yes (s : ByteArray) (x : Fa) (w : World) (h : resFits1 x s = true) : Calls Tryd.prog 21 #[.string s, faV x] w (SaysT2 w (.string (resMl s x)) (.bool true)) := by
  obtain ⟨n, m, c, O⟩ := ml_ok h
  have HG := Lib.hid (fun w => erGood_any x w)
  have HL := Lib.hid (fun w => erText_any s w)
  have hs1 := O.hs
  have hn1 := O.hn
  have HE := Lib.hid (fun w => erLine_any s n w hn1 (by omega))
  have HS := Lib.hid (fun w => l1SplitG_any 10 s w (by omega))
  rw [O.g] at HG
  rw [O.l] at HL
  have e1 : ((lnN (s.data.toList.take n) : Nat) : Int) = (m : Int) + 1 := by have := O.el; omega
  have e2 : ((coN (s.data.toList.take n) : Nat) : Int) = (c : Int) + 1 := by have := O.ec; omega
  rw [e1, e2] at HE
  rw [O.r]
  have ea := O.ea
  have hm := O.hm
  have hm6 := O.hm6
  have hc := O.hc
  have hq6 := O.hq
  obtain ⟨xk, xa⟩ := x
  simp only at ea
  subst ea
  unfold faV at HG ⊢
  simp only at HG ⊢
  clear h e1 e2 O
  generalize scB 10 s = P at HS hm hq6 ⊢
  obtain ⟨N, hN⟩ : ∃ N, P.length = N := ⟨_, rfl⟩
  unfold SaysG at HS
  rw [hN] at HS hm
  have HN := Lib.hid hN
  obtain ⟨q, hq⟩ : ∃ q, P.getD m ⟨#[]⟩ = q := ⟨_, rfl⟩
  have HQ := Lib.hid hq
  rw [hq] at hq6 ⊢
  have hX : Hid (mlT q c = q ++ ⟨#[10]⟩ ++ repB c ++ ⟨#[94, 10]⟩) := Lib.hid rfl
  generalize mlT q c = R at hX ⊢
  have dn : decide ((s.size : Int) < (n : Int)) = false := by simp; omega
  have k1 : ¬ (9223372036854775807 < q.size + 1) := by omega
  have k2 : ¬ (9223372036854775807 < q.size + (⟨#[10]⟩ : ByteArray).size) := by
    rw [show (⟨#[10]⟩ : ByteArray).size = 1 from rfl]; omega
  have hu0 : (q ++ ⟨#[10]⟩ : ByteArray).size ≤ 20000 := by
    rw [ByteArray.size_append, show (⟨#[10]⟩ : ByteArray).size = 1 from rfl]; omega
  clear hN hq
  go_enter Tryd.func21, Tryd.ntmps21
  go_wp2_with (go_at_call 41; refine (HG.out _).mono ?_; rintro e w1 ⟨rfl, b1⟩; have B1 := Lib.hid (box_two b1).2; obtain ⟨c0, c1, cl⟩ := (box_two b1).1; clear b1)
  go_wp2_with (go_at_call 34; refine (HL.out _).mono ?_; rintro e w' ⟨rfl, rfl⟩)
  go_wp2_with (go_at_call 35; refine (HE.out _).mono ?_; rintro e w' ⟨rfl, rfl⟩)
  go_wp2_with (go_at_call 39; refine (HS.out _).mono ?_; rintro e w2 ⟨g, cap, rfl, hcp, T, hl, b⟩; have B2 := Lib.hid (BX.call B1.out b); have hcl := T m (by rw [HN.out]; exact hm); rw [HQ.out] at hcl; clear b T)
  go_loop [7, 8] (fun C S => MkRel q c S C) (fun C _ => (intOf C).toNat)
  case atStart => exact ⟨0, Nat.zero_le _, by simp, _, rfl, hu0, Lib.hid (repB_zero _).symm⟩
  case round =>
    obtain ⟨k, hk, rfl, u, rfl, hu, HU⟩ := hrel
    by_cases hlt : k < c
    · have d : decide ((1 : Int) < (c : Int) + 1 - k) = true := by simp; omega
      have hsz : u.size = q.size + 1 + k := by rw [HU.out, ByteArray.size_append, ByteArray.size_append, repB_size]; rfl
      have k3 : ¬ (9223372036854775807 < u.size + 1) := by omega
      have k4 : ¬ (9223372036854775807 < u.size + (⟨#[32]⟩ : ByteArray).size) := by rw [show (⟨#[32]⟩ : ByteArray).size = 1 from rfl]; omega
      have HU2 : Hid (u ++ ⟨#[32]⟩ = q ++ ⟨#[10]⟩ ++ repB (k + 1)) := Lib.hid (by rw [HU.out, app_assoc _ (repB k), repB_succ])
      have hu2 : (u ++ ⟨#[32]⟩ : ByteArray).size ≤ 20000 := by rw [ByteArray.size_append, show (⟨#[32]⟩ : ByteArray).size = 1 from rfl]; omega
      have HLT := Lib.hid hlt
      clear hsz hlt
      go_wp2
      go_round
      case rel => exact ⟨k + 1, by have := HLT.out; omega, by go_num, _, rfl, hu2, HU2⟩
      case measure => have := HLT.out; simp [intOf]; omega
    · have e : k = c := by omega
      subst e
      have d : decide ((1 : Int) < (k : Int) + 1 - k) = false := by simp; omega
      have k5 : ¬ (9223372036854775807 < u.size + 2) := by omega
      have k6 : ¬ (9223372036854775807 < u.size + (⟨#[94, 10]⟩ : ByteArray).size) := by rw [show (⟨#[94, 10]⟩ : ByteArray).size = 2 from rfl]; omega
      have HZ : Hid (u ++ ⟨#[94, 10]⟩ = R) := Lib.hid (by rw [hX.out, HU.out])
      clear hlt
      go_wp2
      go_ret2
      exact ⟨ret_sb' HZ.out rfl, B2.out⟩
set_option maxHeartbeats 3200000 in
theorem implMarked_no (s : ByteArray) (x : Fa) (w : World) (h : resFits1 x s = false) : Calls Tryd.prog 23 #[.string s, faV x] w (SaysT2 w (.string (resMl s x)) (.bool false)) := by
  have HF := Lib.hid (fun w => implFaultFits_any x s w)
  rw [h] at HF
  rw [ml_no h]
  generalize resFits2 x s = z at HF
  obtain ⟨xk, xa⟩ := x
  unfold faV at HF ⊢
  simp only at HF ⊢
  clear h
  go_enter Tryd.func23, Tryd.ntmps23
  go_wp2_with (go_at_call 42; refine (HF.out _).mono ?_; rintro e w1 ⟨rfl, b1⟩; have B1 := Lib.hid (box_two b1).2; obtain ⟨c0, c1, cl⟩ := (box_two b1).1; clear b1)
  go_ret2
  exact ⟨rfl, B1.out⟩
set_option maxHeartbeats 3200000 in
theorem implMarked_yes (s : ByteArray) (x : Fa) (w : World) (hM : Hid (MaxL w)) (h : resFits1 x s = true) : Calls Tryd.prog 23 #[.string s, faV x] w (SaysT2 w (.string (resMl s x)) (.bool true)) := by
  have HF := Lib.hid (fun w => implFaultFits_any x s w)
  rw [h] at HF
  obtain ⟨n, m, c, O⟩ := ml_ok h
  have hs1 := O.hs
  have hn1 := O.hn
  have hol : okLn s (n : Int) = true := by unfold okLn inB; rw [O.l]; simp; exact hn1
  have HLn := Lib.hid (fun w h => implLineOf_any s (n : Int) w (Lib.hid (show MaxL w from h)) (by omega))
  obtain ⟨l1, l2⟩ := rl_yes hol
  have e1 : ((lnN (s.data.toList.take n) : Nat) : Int) = (m : Int) + 1 := by have := O.el; omega
  have e2 : ((coN (s.data.toList.take n) : Nat) : Int) = (c : Int) + 1 := by have := O.ec; omega
  rw [l1, l2, hol, e1, e2] at HLn
  have hm := O.hm
  have hot : okLt s ((m : Int) + 1) = true := by unfold okLt inB; rw [O.l]; simp; omega
  have HLt := Lib.hid (fun w h => implLineText_any s ((m : Int) + 1) w (Lib.hid (show MaxL w from h)) (by omega))
  rw [lt_yes hot, hot] at HLt
  rw [O.r]
  have ea := O.ea
  have hm6 := O.hm6
  have hc := O.hc
  have hq6 := O.hq
  obtain ⟨xk, xa⟩ := x
  simp only at ea
  subst ea
  generalize resFits2 ⟨xk, (n : Int)⟩ s = z at HF
  unfold faV at HF ⊢
  simp only at HF ⊢
  clear h e1 e2 O l1 l2 hol hot
  generalize (scB 10 s).getD m ⟨#[]⟩ = q at HLt hq6 ⊢
  have hX := Lib.hid (mlT_two q c)
  generalize mlT q c = R at hX ⊢
  have HR : Hid (∀ w, Calls Tryd.prog 43 #[.string ⟨#[32]⟩, .int .i64 (c : Int)] w (SaysV w (.string (repB c)))) := Lib.hid (fun w => Tryd.strings_Repeat ⟨#[32]⟩ c w (by omega) (by rw [show (⟨#[32]⟩ : ByteArray).size = 1 from rfl]; omega))
  have hrs := repB_size c
  generalize repB c = r at hX HR hrs
  have s1 : (⟨#[10]⟩ : ByteArray).size = 1 := rfl
  have s2 : (⟨#[94]⟩ : ByteArray).size = 1 := rfl
  have k1 : ¬ (9223372036854775807 < q.size + (⟨#[10]⟩ : ByteArray).size) := by rw [s1]; omega
  have k2 : ¬ (9223372036854775807 < (q ++ ⟨#[10]⟩).size + r.size) := by rw [ByteArray.size_append, s1]; omega
  have k3 : ¬ (9223372036854775807 < (q ++ ⟨#[10]⟩ ++ r).size + (⟨#[94]⟩ : ByteArray).size) := by rw [ByteArray.size_append, ByteArray.size_append, s1, s2]; omega
  have k4 : ¬ (9223372036854775807 < (q ++ ⟨#[10]⟩ ++ r ++ ⟨#[94]⟩).size + (⟨#[10]⟩ : ByteArray).size) := by rw [ByteArray.size_append, ByteArray.size_append, ByteArray.size_append, s1, s2]; omega
  have k1b : ¬ (9223372036854775807 < q.size + 1) := by omega
  have k2b : ¬ (9223372036854775807 < q.size + 1 + r.size) := by omega
  have k3b : ¬ (9223372036854775807 < q.size + 1 + r.size + 1) := by omega
  have k4b : ¬ (9223372036854775807 < q.size + 1 + r.size + 1 + 1) := by omega
  clear s1 s2 hrs hm
  go_enter Tryd.func23, Tryd.ntmps23
  go_wp2_with (go_at_call 42; refine (HF.out _).mono ?_; rintro e w1 ⟨rfl, b1⟩; have B1 := Lib.hid (box_two b1).2; have M1 := Lib.hid (hM.out.below B1.out); obtain ⟨c0, c1, cl⟩ := (box_two b1).1; clear b1)
  go_wp2_with (go_at_call 16; refine (HLn.out _ M1.out).mono ?_; rintro e w2 ⟨rfl, b⟩; have B2 := Lib.hid (BX.call B1.out b); have M2 := Lib.hid (M1.out.below b); clear b)
  go_wp2_with (go_at_call 20; refine (HLt.out _ M2.out).mono ?_; rintro e w3 ⟨rfl, b⟩; have B3 := Lib.hid (BX.call B2.out b); clear b)
  go_wp2_with (go_at_call 43; refine (HR.out _).mono ?_; rintro e w4 ⟨rfl, b⟩; have B4 := Lib.hid (BX.call B3.out b); clear b)
  go_ret2
  exact ⟨ret_sb' hX.out rfl, B4.out⟩
theorem implMarked_any (s : ByteArray) (x : Fa) (w : World) (hM : Hid (MaxL w)) : Calls Tryd.prog 23 #[.string s, faV x] w (SaysT2 w (.string (resMl s x)) (.bool (resFits1 x s))) := by
  cases h : resFits1 x s
  · exact implMarked_no s x w h
  · exact implMarked_yes s x w hM h
theorem specMarked_any (s : ByteArray) (x : Fa) (w : World) : Calls Tryd.prog 21 #[.string s, faV x] w (SaysT2 w (.string (resMl s x)) (.bool (resFits1 x s))) := by
  cases h : resFits1 x s
  · exact specMarked_no s x w h
  · exact specMarked_yes s x w h
end Go.Proofs.YtdfkehgkonadhaaDoor
