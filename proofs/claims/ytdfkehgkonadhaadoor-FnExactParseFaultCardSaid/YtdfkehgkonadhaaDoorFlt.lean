/- LineText, PlaceOf: contracts of both sides. -/
import Derived.Test.YtdfkehgkonadhaaDoorFlo
namespace Go.Proofs.YtdfkehgkonadhaaDoor
set_option maxRecDepth 100000
open Go.RowKit
set_option linter.unusedVariables false
set_option linter.unusedSimpArgs false

def SaysG (w : World) (T : List ByteArray) (e : Ending) (w' : World) : Prop := ∃ g cap, e = .returned (.slice (some ⟨g, 0, none⟩) T.length cap) ∧ T.length ≤ cap ∧ TextsAt w' g T ∧ g < w'.heap.size ∧ Below w.heap.size w w'
theorem cap_le {w : World} {B g n cap : Nat} {l : List ByteArray} (h : OwnS w B g n cap l) : n ≤ cap := by
  rcases h.2 with ⟨hv, _⟩ | ⟨g', cap', cur, hv, _, _, hd⟩
  · cases hv
  · cases hv
    have := hd.2
    omega
theorem l1SplitG_any (b : UInt8) (s : ByteArray) (w : World) (hs : s.size ≤ 1048576) : Calls Tryd.prog 39 #[.string s, .int .u8 (b.toNat : Int)] w (SaysG w (scB b s)) := by
  refine (l1SplitC_any b s w hs).mono ?_
  rintro e w' ⟨v, rfl, ho, hb⟩
  obtain ⟨g, cap, rfl, hS⟩ := OwnZ.some ho (by rw [scB_length]; omega)
  exact ⟨g, cap, rfl, cap_le hS, fun k hk => hS.cell k hk, hS.lt.2, hb⟩
structure PiecesN (s : ByteArray) (P : List ByteArray) : Prop where
  pos : 0 < P.length
  len : P.length ≤ 1048577
  tot : zsum P ≤ 1048577
theorem pieces_of (b : UInt8) (s : ByteArray) (hs : s.size ≤ 1048576) : PiecesN s (scB b s) := by
  refine ⟨by rw [scB_length]; omega, ?_, by rw [zsum_all]; omega⟩
  rw [scB_length]
  have := List.count_le_length (a := b) (l := s.data.toList)
  rw [← Lib.size_eq] at this
  omega
theorem zs_rng {s : ByteArray} {P : List ByteArray} (h : PiecesN s P) (k : Nat) : zsum (P.take k) ≤ 1048577 := Nat.le_trans (zsum_take P k) h.tot
theorem pc_rng {s : ByteArray} {P : List ByteArray} (h : PiecesN s P) (k : Nat) (hk : k < P.length) : (P.getD k ⟨#[]⟩).size ≤ 1048576 := by
  have a := piece_le P k hk
  have b := h.tot
  omega
def ZsRel (P : List ByteArray) (m : Nat) (A i : Value) : Prop := ∃ (k z : Nat), k ≤ m ∧ i = .int .i64 k ∧ A = .int .i64 z ∧ z ≤ 1048577 ∧ Hid (zsum (P.take k) = z)
theorem zsum_nil : zsum [] = 0 := rfl
set_option maxHeartbeats 1600000 in
theorem erStart_no (s : ByteArray) (t : Int) (w : World) (hs : s.size ≤ 1048576) (h : inB t 1 ((scB 10 s).length : Int) = false) : Calls Tryd.prog 38 #[.string s, .int .i64 t] w (SaysI w (-1)) := by
  have HS := Lib.hid (fun w => l1SplitG_any 10 s w hs)
  have HI := Lib.hid (fun w => l1In_any t 1 ((scB 10 s).length : Int) w)
  rw [h] at HI
  clear h
  generalize scB 10 s = P at HS HI
  go_enter Tryd.func38, Tryd.ntmps38
  go_wp2_with (go_at_call 39; refine (HS.out _).mono ?_; rintro e w1 ⟨g, cap, rfl, hc, T, hl, b⟩; have B := Lib.hid b; clear b T hl)
  go_wp2_with (go_at_call 29; refine (HI.out _).mono ?_; rintro e w' ⟨rfl, rfl⟩)
  go_ret
  exact ⟨rfl, B.out⟩
set_option maxHeartbeats 3200000 in
theorem erStart_yes (s : ByteArray) (m : Nat) (w : World) (hs : s.size ≤ 1048576) (h : m < (scB 10 s).length) : Calls Tryd.prog 38 #[.string s, .int .i64 ((m : Int) + 1)] w (SaysI w (zsum ((scB 10 s).take m) : Nat)) := by
  have HS := Lib.hid (fun w => l1SplitG_any 10 s w hs)
  have HI := Lib.hid (fun w => l1In_any ((m : Int) + 1) 1 ((scB 10 s).length : Int) w)
  have hp := pieces_of 10 s hs
  have hi : inB ((m : Int) + 1) 1 ((scB 10 s).length : Int) = true := by unfold inB; simp; omega
  rw [hi] at HI
  generalize scB 10 s = P at HS HI hp h hi ⊢
  have HP := Lib.hid hp
  obtain ⟨Z, hZ⟩ : ∃ Z, zsum (P.take m) = Z := ⟨_, rfl⟩
  have HZ := Lib.hid hZ
  rw [hZ]
  have hlen := hp.len
  have H0 : Hid (zsum (P.take 0) = 0) := Lib.hid (by rw [List.take_zero]; rfl)
  obtain ⟨N, hN⟩ : ∃ N, P.length = N := ⟨_, rfl⟩
  unfold SaysG at HS
  rw [hN] at HS HI h hlen
  have HN := Lib.hid hN
  clear hi hp hZ hN
  go_enter Tryd.func38, Tryd.ntmps38
  go_wp2_with (go_at_call 39; refine (HS.out _).mono ?_; rintro e w1 ⟨g, cap, rfl, hc, T, hl, b⟩; have B := Lib.hid b; have HT := Lib.hid T; clear b T; refine Hid.out ?_)
  refine Lib.hid ?_
  have hcap : m ≤ cap := by omega
  have dcap : (m : Int) ≤ (cap : Int) := by omega
  go_wp2_with (go_at_call 29; refine (HI.out _).mono ?_; rintro e w' ⟨rfl, rfl⟩)
  go_loop [6, 21] (fun A i => ZsRel P m A i) (fun _ i => m - (intOf i).toNat)
  case atStart => exact ⟨0, 0, Nat.zero_le _, rfl, rfl, Nat.zero_le _, H0⟩
  case round =>
    obtain ⟨k, z, hk, rfl, rfl, hz, HA⟩ := hrel
    by_cases hlt : k < m
    · have hkP : k < P.length := by rw [HN.out]; omega
      have hcl := HT.out k hkP
      have hq := pc_rng HP.out k hkP
      have HM := Lib.hid (zsum_more P k hkP)
      have hr := zs_rng HP.out (k + 1)
      rw [HM.out, HA.out] at hr
      have HM2 : Hid (zsum (P.take (k + 1)) = z + ((P.getD k ⟨#[]⟩).size + 1)) := Lib.hid (by rw [HM.out, HA.out])
      generalize P.getD k ⟨#[]⟩ = q at hcl hq hr HM2
      clear hkP HM
      go_wp2
      go_round
      case rel => exact ⟨k + 1, z + (q.size + 1), by omega, by go_num, by go_num, by omega, HM2⟩
      case measure => simp [intOf]; omega
    · have e : k = m := by omega
      subst e
      have E : Hid (z = Z) := Lib.hid (HA.out.symm.trans HZ.out)
      clear hlt
      go_wp2
      go_ret
      exact ⟨ret_int (by rw [E.out]), B.out⟩
/-- a text has a line -/
def okLt (s : ByteArray) (t : Int) : Bool := linB s && inB t 1 ((scB 10 s).length : Int)
def resLt (s : ByteArray) (t : Int) : ByteArray := if okLt s t = true then (scB 10 s).getD (t - 1).toNat ⟨#[]⟩ else ⟨#[]⟩
theorem lt_no {s : ByteArray} {t : Int} (h : okLt s t = false) : resLt s t = ⟨#[]⟩ := by unfold resLt; rw [h]; rfl
theorem lt_yes {s : ByteArray} {m : Nat} (h : okLt s ((m : Int) + 1) = true) : resLt s ((m : Int) + 1) = (scB 10 s).getD m ⟨#[]⟩ := by
  unfold resLt; rw [if_pos h, show ((m : Int) + 1 - 1).toNat = m by omega]
theorem in_one {t hi : Int} (h : inB t 1 hi = true) : ∃ m : Nat, t = (m : Int) + 1 ∧ (m : Int) < hi := by
  unfold inB at h
  simp only [Bool.and_eq_true, decide_eq_true_eq] at h
  exact ⟨(t - 1).toNat, by omega, by omega⟩
theorem ret_sb' {a b : ByteArray} {p q : Bool} (h : a = b) (h' : p = q) : Ending.returned (.tuple #[.string a, .bool p]) = .returned (.tuple #[.string b, .bool q]) := by rw [h, h']
set_option maxHeartbeats 3200000 in
theorem specLineText_any (s : ByteArray) (t : Int) (w : World) (hs : s.size ≤ 1048576) : Calls Tryd.prog 19 #[.string s, .int .i64 t] w (SaysT2 w (.string (resLt s t)) (.bool (okLt s t))) := by
  have HL := Lib.hid (fun w => erText_any s w)
  cases hl : linB s
  · have ho : okLt s t = false := by unfold okLt; rw [hl]; rfl
    rw [lt_no ho, ho]
    rw [hl] at HL
    clear hl ho
    go_enter Tryd.func19, Tryd.ntmps19
    go_wp2_with (go_at_call 34; refine (HL.out _).mono ?_; rintro e w' ⟨rfl, rfl⟩)
    go_ret2
    exact ⟨rfl, Below.refl _ _⟩
  cases hi : inB t 1 ((scB 10 s).length : Int)
  · have ho : okLt s t = false := by unfold okLt; rw [hl, hi]; rfl
    have HE := Lib.hid (fun w => erStart_no s t w hs hi)
    rw [lt_no ho, ho]
    rw [hl] at HL
    clear hl hi ho
    go_enter Tryd.func19, Tryd.ntmps19
    go_wp2_with (go_at_call 34; refine (HL.out _).mono ?_; rintro e w' ⟨rfl, rfl⟩)
    go_wp2_with (go_at_call 38; refine (HE.out _).mono ?_; rintro e w1 ⟨rfl, b⟩; have B1 := Lib.hid b; clear b)
    go_ret2
    exact ⟨rfl, B1.out⟩
  · have ho : okLt s t = true := by unfold okLt; rw [hl, hi]; rfl
    obtain ⟨m, rfl, hm⟩ := in_one hi
    have hm' : m < (scB 10 s).length := by omega
    have HE := Lib.hid (fun w => erStart_yes s m w hs hm')
    have HS := Lib.hid (fun w => l1SplitG_any 10 s w hs)
    have hp := pieces_of 10 s hs
    rw [lt_yes ho, ho]
    rw [hl] at HL
    clear hl hi ho hm
    generalize scB 10 s = P at HE HS hp hm' ⊢
    have hz := zs_rng hp m
    have hlen := hp.len
    obtain ⟨N, hN⟩ : ∃ N, P.length = N := ⟨_, rfl⟩
    unfold SaysG at HS
    rw [hN] at HS hm' hlen
    have HN := Lib.hid hN
    generalize zsum (P.take m) = z at HE hz
    obtain ⟨q, hq⟩ : ∃ q, P.getD m ⟨#[]⟩ = q := ⟨_, rfl⟩
    have HQ := Lib.hid hq
    rw [hq]
    have dz := not_lt (show (0 : Int) ≤ (z : Int) by omega)
    clear hN hq hp
    go_enter Tryd.func19, Tryd.ntmps19
    go_wp2_with (go_at_call 34; refine (HL.out _).mono ?_; rintro e w' ⟨rfl, rfl⟩)
    go_wp2_with (go_at_call 38; refine (HE.out _).mono ?_; rintro e w1 ⟨rfl, b⟩; have B1 := Lib.hid b; clear b)
    go_wp2_with (go_at_call 39; refine (HS.out _).mono ?_; rintro e w2 ⟨g, cap, rfl, hc, T, hl, b⟩; have B2 := Lib.hid (BX.call B1.out b); have hcl := T m (by rw [HN.out]; exact hm'); rw [HQ.out] at hcl; clear b T)
    go_ret2
    exact ⟨rfl, B2.out⟩
set_option maxHeartbeats 3200000 in
theorem implLineText_any (s : ByteArray) (t : Int) (w : World) (hM : Hid (MaxL w)) (hs : s.size ≤ 1048576) : Calls Tryd.prog 20 #[.string s, .int .i64 t] w (SaysT2 w (.string (resLt s t)) (.bool (okLt s t))) := by
  have HL := Lib.hid (fun w => hasLines_any s w)
  have HS := Lib.hid (linesOf_any s w hM hs)
  have HI := Lib.hid (fun w => isIn_any t 1 ((scB 10 s).length : Int) w)
  cases hl : linB s
  · have ho : okLt s t = false := by unfold okLt; rw [hl]; rfl
    rw [lt_no ho, ho]
    rw [hl] at HL
    clear hl ho
    go_enter Tryd.func20, Tryd.ntmps20
    go_wp2_with (go_at_call 36; refine (HL.out _).mono ?_; rintro e w' ⟨rfl, rfl⟩)
    go_ret2
    exact ⟨rfl, Below.refl _ _⟩
  cases hi : inB t 1 ((scB 10 s).length : Int)
  · have ho : okLt s t = false := by unfold okLt; rw [hl, hi]; rfl
    rw [lt_no ho, ho]
    rw [hl] at HL
    rw [hi] at HI
    clear hl hi ho
    generalize scB 10 s = P at HS HI
    go_enter Tryd.func20, Tryd.ntmps20
    go_wp2_with (go_at_call 36; refine (HL.out _).mono ?_; rintro e w' ⟨rfl, rfl⟩)
    go_wp2_with (go_at_call 37; refine (HS.out).mono ?_; rintro e w1 ⟨rfl, T, l, b⟩; have B1 := Lib.hid b; clear T l b)
    go_wp2_with (go_at_call 31; refine (HI.out _).mono ?_; rintro e w' ⟨rfl, rfl⟩)
    go_ret2
    exact ⟨rfl, B1.out⟩
  · have ho : okLt s t = true := by unfold okLt; rw [hl, hi]; rfl
    obtain ⟨m, rfl, hm⟩ := in_one hi
    have hm' : m < (scB 10 s).length := by omega
    have hp := pieces_of 10 s hs
    have hqs := pc_rng hp m hm'
    rw [lt_yes ho, ho]
    rw [hl] at HL
    rw [hi] at HI
    clear hl hi ho hm
    generalize scB 10 s = P at HI HS hp hm' hqs ⊢
    have hlen := hp.len
    obtain ⟨N, hN⟩ : ∃ N, P.length = N := ⟨_, rfl⟩
    unfold SaysL at HS
    rw [hN] at HS HI hm' hlen
    have HN := Lib.hid hN
    obtain ⟨q, hq⟩ : ∃ q, P.getD m ⟨#[]⟩ = q := ⟨_, rfl⟩
    have HQ := Lib.hid hq
    rw [hq] at hqs ⊢
    have HC := Lib.hid (fun w => strClone_any q w hqs)
    clear hN hq hp hqs
    go_enter Tryd.func20, Tryd.ntmps20
    go_wp2_with (go_at_call 36; refine (HL.out _).mono ?_; rintro e w' ⟨rfl, rfl⟩)
    go_wp2_with (go_at_call 37; refine (HS.out).mono ?_; rintro e w1 ⟨rfl, T, l, b⟩; have B1 := Lib.hid b; have hcl := T m (by rw [HN.out]; exact hm'); rw [HQ.out] at hcl; clear T l b)
    go_wp2_with (go_at_call 31; refine (HI.out _).mono ?_; rintro e w' ⟨rfl, rfl⟩)
    go_wp2_with (go_at_call 40; refine (HC.out _).mono ?_; rintro e w2 ⟨rfl, b⟩; have B2 := Lib.hid (BX.call B1.out b); clear b)
    go_ret2
    exact ⟨rfl, B2.out⟩
end Go.Proofs.YtdfkehgkonadhaaDoor
