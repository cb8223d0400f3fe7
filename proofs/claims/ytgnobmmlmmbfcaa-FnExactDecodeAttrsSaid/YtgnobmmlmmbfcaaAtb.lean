/- Attributes read one after the other, a panic caught: the program's DecodeAttrs. -/
import Derived.Test.YtgnobmmlmmbfcaaAty
import Derived.Defers
import Derived.Recover
namespace Go.Proofs.Ytgnobmmlmmbfcaa
open Go.RowKit
set_option linter.unusedVariables false
set_option linter.unusedSimpArgs false
set_option maxRecDepth 100000

def PlRel (g : Nat) (s : ByteArray) (v0 : Value) (w : World) (dp a0 en : Nat) (R : List At × (Nat × Nat)) (av : Value) (wr : World) : Prop :=
  ∃ (a : Nat) (out : List At) (v : Value), av = .int .i64 (a : Int) ∧ a0 ≤ a ∧ a ≤ en ∧ out.length ≤ 400 ∧ RdrAt wr g s 45 v out ∧ Kp g v0 v w wr ∧ Hid (LS s dp a en out = R)
set_option maxHeartbeats 6400000 in
theorem attrs_of (g M dp a0 en : Nat) (out0 : List At) (s : ByteArray) (v0 : Value) (w : World) (HIH : Hid (∀ M', M' < M → ListP g M' s)) (hM : en - a0 ≤ M) (H0 : Hid (RdrAt w g s 45 v0 out0)) (hs : s.size ≤ 6000) (hen : en ≤ s.size) (hae : a0 ≤ en) (hdp : dp ≤ 9) (hlen : out0.length ≤ 400) :
    Calls Try.prog 18 #[.pointer (some ⟨g, 0, none⟩), .int .i64 (a0 : Int), .int .i64 (en : Int), .int .i64 (dp : Int)] w (SaysP g s v0 w (LS s dp a0 en out0) (.tuple #[])) := by
  obtain ⟨⟨o, fk, fa⟩, hR⟩ : ∃ R, LS s dp a0 en out0 = R := ⟨_, rfl⟩
  have HR := Lib.hid hR
  rw [hR]
  have hgw := H0.out.lt
  clear hR
  go_enter Try.func18, Try.ntmps18
  go_wp2_with fail
  go_loopw [1] (fun av wr => PlRel g s v0 w dp a0 en (o, fk, fa) av wr) (fun av _ => en - (intOf av).toNat)
  case atStart => exact ⟨a0, out0, v0, rfl, Nat.le_refl _, hae, hlen, H0.out, Kp.refl _ _ _, HR⟩
  case round =>
    obtain ⟨a, out, v, rfl, ha0, hae1, hlen1, hr1, hk1, HL⟩ := hrel
    have R1 := Lib.hid hr1
    have K1 := Lib.hid hk1
    clear hr1 hk1
    by_cases hlt : a < en
    · have dl : decide ((a : Int) < (en : Int)) = true := is_lt (by omega)
      obtain ⟨⟨o2, fk2, fa2⟩, hr⟩ : ∃ r, OS s dp a en out = r := ⟨_, rfl⟩
      have HS := Lib.hid ((LS_step hlt hr).symm.trans HL.out)
      have ho2 : o2.length ≤ 400 := by have q := OS_len (s := s) (dp := dp) (a := a) (en := en) hlen1; rw [hr] at q; exact q
      have HC := Lib.hid (fun h => attr_of g M dp a en out s v wr HIH hlt (by omega) (Lib.hid h) hs hen hdp hlen1)
      rw [hr] at HC
      have HP : Hid (¬ 0 < fk2 → a < a + padA (rdS s a) ∧ a + padA (rdS s a) ≤ en) := Lib.hid (fun hf2 => by
        by_cases hh : 0 < (hdF s out.length dp a en).1
        · have q := OS_bad rfl hh
          rw [hr] at q
          have q2 := congrArg (fun r : List At × (Nat × Nat) => r.2.1) q
          simp only at q2
          omega
        · obtain ⟨_, _, _, h5, h6, _, _⟩ := hd_none (show (hdF s out.length dp a en).1 = 0 by omega)
          have := hd_pos h5
          omega)
      clear hr HL HIH
      by_cases hf2 : 0 < fk2
      · have HX : Hid ((o2, (fk2, fa2)) = (o, (fk, fa))) := Lib.hid (by have q := HS.out; rw [if_pos hf2] at q; exact q)
        go_wp2_with (go_at_call 22; refine (HC.out R1.out).mono ?_; rintro e w9 h9; obtain ⟨rfl, b9⟩ := h9.bad hf2; have B9 := Lib.hid (K1.out.low.trans b9); clear h9 b9; unfold pnE fuV)
        have hx := HX.out
        cases hx
        exact ⟨rfl, .inr ⟨hf2, rfl, B9.out⟩⟩
      · have HX : Hid (LS s dp (a + padA (rdS s a)) en o2 = (o, (fk, fa))) := Lib.hid (by have q := HS.out; rw [if_neg hf2] at q; exact q)
        obtain ⟨hp1, hp2⟩ := HP.out hf2
        clear HS HP
        generalize a + padA (rdS s a) = a2 at HC HX hp1 hp2
        go_wp2_with (go_at_call 22; refine (HC.out R1.out).mono ?_; rintro e w9 h9; obtain ⟨rfl, v9, r9, k9⟩ := h9.ok hf2; have R9 := Lib.hid r9; have K9 := Lib.hid (K1.out.trans k9); clear h9 r9 k9)
        go_roundw
        case rel => exact ⟨a2, o2, v9, rfl, by omega, hp2, ho2, R9.out, K9.out, HX⟩
        case measure => simp [intOf]; omega
    · have HX : Hid ((out, ((0 : Nat), (0 : Nat))) = (o, (fk, fa))) := Lib.hid ((LS_end hlt).symm.trans HL.out)
      have dl : decide ((a : Int) < (en : Int)) = false := not_lt (by omega)
      go_wp2_with fail
      have hx := HX.out
      cases hx
      exact bodyPost_ret (v := .tuple #[]) (by simp [results, Try.results18, go_sem]) rfl (.inl ⟨rfl, rfl, v, R1.out, K1.out⟩)
theorem attrs_all (g : Nat) (s : ByteArray) (hs : s.size ≤ 6000) : ∀ M, ListP g M s := by
  intro M
  induction M using Nat.strongRecOn with
  | ind M ih => exact fun dp a en out v w hM hR hen hae hdp hlen => attrs_of g M dp a en out s v w (Lib.hid ih) hM (Lib.hid hR) hs hen hae hdp hlen
theorem catchIdleForm (b : Nat) (z0 z1 : Value) (w : World) (HX : Hid (BoxAt w b #[z0, z1] 24)) :
    CallsD Try.prog 16 #[.pointer (some ⟨b, 0, none⟩)] .returning w fun e u' w' => e = .returned (.tuple #[]) ∧ u' = .returning ∧ w' = (w.setCell ⟨b, 0, none⟩ (.int .i64 0)).setCell ⟨b, 1, none⟩ (.int .i64 0) := by
  have c0 : w.cell? ⟨b, 0, none⟩ = some z0 := by rw [HX.out.cell 0]; rfl
  have c1 : w.cell? ⟨b, 1, none⟩ = some z1 := by rw [HX.out.cell 1]; rfl
  have f0 := HX.out.open 0
  have f1 := HX.out.open 1
  refine callsD_of_wpS Try.func16 rfl fun c₀ cs hu => ?_
  change Code.wpS _ _ _ { tmps := #[.pointer (some ⟨b, 0, none⟩), undef, undef, undef, undef, undef], defers := [] } _ _
  apply wpS_region
  have ta : Sem.run Try.prog (Instr.typeAssert Value.nilIface 20 24 true) w = .ok (.tuple #[.agg #[.int .i64 0, .int .i64 0], .bool false]) w := by kernel_rfl
  simp [wpOpsS, go_sem, recoverD, hu, Exit.thenS, ta, c0, c1, f0, f1]
  exact ⟨rfl, .returning, by rw [← hu], .tuple #[], by simp [results, Try.results16], rfl, rfl, rfl⟩
theorem catchPanicForm (b : Nat) (fk fa : Nat) (z0 z1 : Value) (older : List PanicEntry) (w : World) (HX : Hid (BoxAt w b #[z0, z1] 24)) :
    CallsD Try.prog 16 #[.pointer (some ⟨b, 0, none⟩)] (.panicking ({ v := .iface 24 (.agg #[.int .i64 fk, .int .i64 fa]), recovered := false } :: older)) w fun e u' w' =>
      e = .returned (.tuple #[]) ∧ u' = .panicking ({ v := .iface 24 (.agg #[.int .i64 fk, .int .i64 fa]), recovered := true } :: older) ∧ w' = (w.setCell ⟨b, 0, none⟩ (.int .i64 fk)).setCell ⟨b, 1, none⟩ (.int .i64 fa) := by
  have c0 : w.cell? ⟨b, 0, none⟩ = some z0 := by rw [HX.out.cell 0]; rfl
  have c1 : w.cell? ⟨b, 1, none⟩ = some z1 := by rw [HX.out.cell 1]; rfl
  have f0 := HX.out.open 0
  have f1 := HX.out.open 1
  refine callsD_of_wpS Try.func16 rfl fun c₀ cs hu => ?_
  change Code.wpS _ _ _ { tmps := #[.pointer (some ⟨b, 0, none⟩), undef, undef, undef, undef, undef], defers := [] } _ _
  apply wpS_region
  have ta : Sem.run Try.prog (Instr.typeAssert (Value.iface 24 (.agg #[.int .i64 fk, .int .i64 fa])) 20 24 true) w = .ok (.tuple #[.agg #[.int .i64 fk, .int .i64 fa], .bool true]) w := by kernel_rfl
  simp [wpOpsS, go_sem, recoverD, hu, Exit.thenS, ta, c0, c1, f0, f1]
  exact ⟨rfl, _, rfl, .tuple #[], by simp [results, Try.results16], rfl, rfl, rfl⟩
end Go.Proofs.Ytgnobmmlmmbfcaa
