/- LineOf: contracts of both sides. -/
import Derived.Test.YtdfkehgkonadhaaDoorFln
namespace Go.Proofs.YtdfkehgkonadhaaDoor
set_option maxRecDepth 100000
open Go.RowKit
set_option linter.unusedVariables false
set_option linter.unusedSimpArgs false

def SaysT3 (w : World) (r1 r2 r3 : Value) (e : Ending) (w' : World) : Prop := e = .returned (.tuple #[r1, r2, r3]) ∧ Below w.heap.size w w'
theorem ret_iib {a b c d : Int} {p q : Bool} (h : a = b) (h' : c = d) (h'' : p = q) : Ending.returned (.tuple #[.int .i64 a, .int .i64 c, .bool p]) = .returned (.tuple #[.int .i64 b, .int .i64 d, .bool q]) := by rw [h, h', h'']
theorem ret_ii {a b c d : Int} (h : a = b) (h' : c = d) : Ending.returned (.tuple #[.int .i64 a, .int .i64 c]) = .returned (.tuple #[.int .i64 b, .int .i64 d]) := by rw [h, h']
theorem take_nx (s : ByteArray) (k : Nat) (h : k < s.size) : s.data.toList.take (k + 1) = s.data.toList.take k ++ [s[k]] := by
  rw [List.take_succ_eq_append_getElem (by simpa using h)]; rfl
def LnRel (s : ByteArray) (n : Nat) (L C i : Value) : Prop := ∃ (k a b : Nat), k ≤ n ∧ i = .int .i64 k ∧ L = .int .i64 a ∧ C = .int .i64 b ∧ a ≤ k + 1 ∧ b ≤ k + 1 ∧ Hid (lnN (s.data.toList.take k) = a) ∧ Hid (coN (s.data.toList.take k) = b)
set_option maxHeartbeats 1600000 in
theorem erLine_any (s : ByteArray) (n : Nat) (w : World) (hn : n ≤ s.size) (hs : s.size ≤ 1048576) :
    Calls Tryd.prog 35 #[.string s, .int .i64 n] w fun e w' => e = .returned (.tuple #[.int .i64 (lnN (s.data.toList.take n)), .int .i64 (coN (s.data.toList.take n))]) ∧ w = w' := by
  obtain ⟨RL, hL⟩ : ∃ R, lnN (s.data.toList.take n) = R := ⟨_, rfl⟩
  obtain ⟨RC, hC⟩ : ∃ R, coN (s.data.toList.take n) = R := ⟨_, rfl⟩
  have HL := Lib.hid hL
  have HC := Lib.hid hC
  rw [hL, hC]
  clear hL hC
  go_enter Tryd.func35, Tryd.ntmps35
  go_wp2
  go_loop [6, 7, 8] (fun L C i => LnRel s n L C i) (fun _ _ i => n - (intOf i).toNat)
  case atStart => exact ⟨0, 1, 1, Nat.zero_le _, rfl, rfl, rfl, by omega, by omega, Lib.hid (by rw [List.take_zero]; exact ln_nil), Lib.hid (by rw [List.take_zero]; exact co_nil)⟩
  case round =>
    obtain ⟨k, a, b, hk, rfl, rfl, rfl, ha, hb, HA, HB⟩ := hrel
    by_cases hlt : k < n
    · have hks : k < s.size := by omega
      have HT := Lib.hid (take_nx s k hks)
      by_cases hc : s[k] = 10
      · have dq : ((s[k].toNat : Int) == 10) = true := by rw [hc]; rfl
        have H1 : Hid (lnN (s.data.toList.take (k + 1)) = a + 1) := Lib.hid (by rw [HT.out, hc, ln_hit, HA.out])
        have H2 : Hid (coN (s.data.toList.take (k + 1)) = 1) := Lib.hid (by rw [HT.out, hc, co_hit])
        clear hc
        go_wp2
        go_round
        case rel => exact ⟨k + 1, a + 1, 1, by omega, by go_num, by go_num, rfl, by omega, by omega, H1, H2⟩
        case measure => simp [intOf]; omega
      · have dq : ((s[k].toNat : Int) == 10) = false := by
          have : s[k].toNat ≠ 10 := fun q => hc (UInt8.toNat_inj.1 q)
          simp; omega
        have H1 : Hid (lnN (s.data.toList.take (k + 1)) = a) := Lib.hid (by rw [HT.out, ln_miss _ _ hc, HA.out])
        have H2 : Hid (coN (s.data.toList.take (k + 1)) = b + 1) := Lib.hid (by rw [HT.out, co_miss _ _ hc, HB.out])
        clear hc
        go_wp2
        go_round
        case rel => exact ⟨k + 1, a, b + 1, by omega, by go_num, rfl, by go_num, by omega, by omega, H1, H2⟩
        case measure => simp [intOf]; omega
    · have e : k = n := by omega
      subst e
      have E1 : Hid (a = RL) := Lib.hid (HA.out.symm.trans HL.out)
      have E2 : Hid (b = RC) := Lib.hid (HB.out.symm.trans HC.out)
      clear hlt
      go_wp2
      go_ret2
      exact ⟨ret_ii (by rw [E1.out]) (by rw [E2.out]), rfl⟩
def okLn (s : ByteArray) (t : Int) : Bool := linB s && inB t 0 (s.size : Int)
def resLn1 (s : ByteArray) (t : Int) : Int := if okLn s t = true then (lnN (s.data.toList.take t.toNat) : Int) else 0
def resLn2 (s : ByteArray) (t : Int) : Int := if okLn s t = true then (coN (s.data.toList.take t.toNat) : Int) else 0
theorem rl_no {s : ByteArray} {t : Int} (h : okLn s t = false) : resLn1 s t = 0 ∧ resLn2 s t = 0 := by unfold resLn1 resLn2; rw [h]; exact ⟨rfl, rfl⟩
theorem rl_yes {s : ByteArray} {n : Nat} (h : okLn s n = true) : resLn1 s n = lnN (s.data.toList.take n) ∧ resLn2 s n = coN (s.data.toList.take n) := by unfold resLn1 resLn2; rw [h]; exact ⟨rfl, rfl⟩
theorem in_nat {t lo hi : Int} (h : inB t lo hi = true) (h0 : 0 ≤ lo) : ∃ n : Nat, t = n ∧ lo ≤ (n : Int) ∧ (n : Int) ≤ hi := by
  unfold inB at h
  simp only [Bool.and_eq_true, decide_eq_true_eq] at h
  exact ⟨t.toNat, by omega, by omega, by omega⟩
set_option maxHeartbeats 1600000 in
theorem specLineOf_any (s : ByteArray) (t : Int) (w : World) (hs : s.size ≤ 1048576) : Calls Tryd.prog 15 #[.string s, .int .i64 t] w (SaysT3 w (.int .i64 (resLn1 s t)) (.int .i64 (resLn2 s t)) (.bool (okLn s t))) := by
  have HL := Lib.hid (fun w => erText_any s w)
  have HI := Lib.hid (fun w => l1In_any t 0 (s.size : Int) w)
  cases hl : linB s
  · have ho : okLn s t = false := by unfold okLn; rw [hl]; rfl
    obtain ⟨e1, e2⟩ := rl_no ho
    rw [e1, e2, ho]
    rw [hl] at HL
    clear hl ho e1 e2
    go_enter Tryd.func15, Tryd.ntmps15
    go_wp2_with (go_at_call 34; refine (HL.out _).mono ?_; rintro e w' ⟨rfl, rfl⟩)
    go_ret3
    exact ⟨rfl, Below.refl _ _⟩
  cases hi : inB t 0 (s.size : Int)
  · have ho : okLn s t = false := by unfold okLn; rw [hl, hi]; rfl
    obtain ⟨e1, e2⟩ := rl_no ho
    rw [e1, e2, ho]
    rw [hl] at HL
    rw [hi] at HI
    clear hl hi ho e1 e2
    go_enter Tryd.func15, Tryd.ntmps15
    go_wp2_with (go_at_call 34; refine (HL.out _).mono ?_; rintro e w' ⟨rfl, rfl⟩)
    go_wp2_with (go_at_call 29; refine (HI.out _).mono ?_; rintro e w' ⟨rfl, rfl⟩)
    go_ret3
    exact ⟨rfl, Below.refl _ _⟩
  · have ho : okLn s t = true := by unfold okLn; rw [hl, hi]; rfl
    obtain ⟨n, rfl, _, hn⟩ := in_nat hi (Int.le_refl _)
    obtain ⟨e1, e2⟩ := rl_yes ho
    have HE := Lib.hid (fun w => erLine_any s n w (by omega) hs)
    rw [e1, e2, ho]
    rw [hl] at HL
    rw [hi] at HI
    clear hl hi ho e1 e2
    generalize lnN (s.data.toList.take n) = a at HE ⊢
    generalize coN (s.data.toList.take n) = b at HE ⊢
    go_enter Tryd.func15, Tryd.ntmps15
    go_wp2_with (go_at_call 34; refine (HL.out _).mono ?_; rintro e w' ⟨rfl, rfl⟩)
    go_wp2_with (go_at_call 29; refine (HI.out _).mono ?_; rintro e w' ⟨rfl, rfl⟩)
    go_wp2_with (go_at_call 35; refine (HE.out _).mono ?_; rintro e w' ⟨rfl, rfl⟩)
    go_ret3
    exact ⟨rfl, Below.refl _ _⟩
theorem ext_zero (s : ByteArray) (n : Nat) : (s.extract 0 n).data.toList = s.data.toList.take n := by rw [Lib.extract_data]; simp
set_option maxHeartbeats 3200000 in
theorem implLineOf_any (s : ByteArray) (t : Int) (w : World) (hM : Hid (MaxL w)) (hs : s.size ≤ 1048576) : Calls Tryd.prog 16 #[.string s, .int .i64 t] w (SaysT3 w (.int .i64 (resLn1 s t)) (.int .i64 (resLn2 s t)) (.bool (okLn s t))) := by
  have HL := Lib.hid (fun w => hasLines_any s w)
  have HI := Lib.hid (fun w => isIn_any t 0 (s.size : Int) w)
  cases hl : linB s
  · have ho : okLn s t = false := by unfold okLn; rw [hl]; rfl
    obtain ⟨e1, e2⟩ := rl_no ho
    rw [e1, e2, ho]
    rw [hl] at HL
    clear hl ho e1 e2
    go_enter Tryd.func16, Tryd.ntmps16
    go_wp2_with (go_at_call 36; refine (HL.out _).mono ?_; rintro e w' ⟨rfl, rfl⟩)
    go_ret3
    exact ⟨rfl, Below.refl _ _⟩
  cases hi : inB t 0 (s.size : Int)
  · have ho : okLn s t = false := by unfold okLn; rw [hl, hi]; rfl
    obtain ⟨e1, e2⟩ := rl_no ho
    rw [e1, e2, ho]
    rw [hl] at HL
    rw [hi] at HI
    clear hl hi ho e1 e2
    go_enter Tryd.func16, Tryd.ntmps16
    go_wp2_with (go_at_call 36; refine (HL.out _).mono ?_; rintro e w' ⟨rfl, rfl⟩)
    go_wp2_with (go_at_call 31; refine (HI.out _).mono ?_; rintro e w' ⟨rfl, rfl⟩)
    go_ret3
    exact ⟨rfl, Below.refl _ _⟩
  · have ho : okLn s t = true := by unfold okLn; rw [hl, hi]; rfl
    obtain ⟨n, rfl, _, hn⟩ := in_nat hi (Int.le_refl _)
    obtain ⟨e1, e2⟩ := rl_yes ho
    have hz : (s.extract 0 n).size ≤ 1048576 := by rw [ByteArray.size_extract]; omega
    have HE := Lib.hid (linesOf_any (s.extract 0 n) w hM hz)
    have hsc := ln_sc (s.extract 0 n)
    have hla := last_co (s.extract 0 n)
    rw [ext_zero] at hsc hla
    have hle := ln_le (s.data.toList.take n)
    rw [← hsc] at hle e1
    rw [← hla] at e2
    have hlen : (s.data.toList.take n).length ≤ 1048576 := by rw [List.length_take, ← Lib.size_eq]; omega
    have hpc : ((scB 10 (s.extract 0 n)).getD ((scB 10 (s.extract 0 n)).length - 1) ⟨#[]⟩).size ≤ 1048576 := by
      have q := piece_le (scB 10 (s.extract 0 n)) ((scB 10 (s.extract 0 n)).length - 1) (by rw [scB_length]; omega)
      rw [zsum_all] at q
      omega
    have hps : 0 < (scB 10 (s.extract 0 n)).length := by rw [scB_length]; omega
    rw [e1, e2, ho]
    rw [hl] at HL
    rw [hi] at HI
    clear hl hi ho e1 e2 hsc hla
    obtain ⟨u, hx⟩ : ∃ u, s.extract 0 n = u := ⟨_, rfl⟩
    rw [hx] at HE hle hpc hps ⊢
    generalize scB 10 u = P at HE hle hpc hps ⊢
    obtain ⟨m, hm⟩ : ∃ m, P.length = m + 1 := ⟨P.length - 1, by omega⟩
    obtain ⟨q, hq⟩ : ∃ q, P.getD m ⟨#[]⟩ = q := ⟨_, rfl⟩
    rw [hm] at hle hpc ⊢
    rw [Nat.add_sub_cancel] at hpc ⊢
    rw [hq] at hpc ⊢
    unfold SaysL at HE
    rw [hm] at HE
    have HQ := Lib.hid hq
    have hm1 : m ≤ 1048577 := by omega
    have HPL : Hid (m < P.length) := Lib.hid (by omega)
    clear hq hm hz hlen hle hps
    go_enter Tryd.func16, Tryd.ntmps16
    go_wp2_with (go_at_call 36; refine (HL.out _).mono ?_; rintro e w' ⟨rfl, rfl⟩)
    go_wp2_with (go_at_call 31; refine (HI.out _).mono ?_; rintro e w' ⟨rfl, rfl⟩)
    go_wp2_with (go_at_call 37; refine (HE.out).mono ?_; rintro e w1 ⟨rfl, T, l, b⟩; have B := Lib.hid b; have hc := T m HPL.out; rw [HQ.out] at hc; clear T l b)
    go_quiet (fail)
    go_wp2_with fail
    go_ret3
    exact ⟨rfl, below_drewN B.out _⟩
end Go.Proofs.YtdfkehgkonadhaaDoor
