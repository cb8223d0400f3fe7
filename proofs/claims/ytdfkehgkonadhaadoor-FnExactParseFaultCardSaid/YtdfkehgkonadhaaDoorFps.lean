/- ParseFault: the program's contract. -/
import Derived.Test.YtdfkehgkonadhaaDoorFpr
namespace Go.Proofs.YtdfkehgkonadhaaDoor
set_option maxRecDepth 100000
open Go.RowKit
set_option linter.unusedVariables false
set_option linter.unusedSimpArgs false

theorem cut_len (l m : List UInt8) : (Lib.cut l m).1.length ≤ l.length ∧ (Lib.cut l m).2.1.length ≤ l.length := by
  unfold Lib.cut
  split
  · simp only [List.length_take, List.length_drop]; omega
  · simp
theorem size_of_list (l : List UInt8) : (⟨l.toArray⟩ : ByteArray).size = l.length := List.size_toArray
theorem cutN_size (s : ByteArray) : (cutN s).size ≤ s.size := by unfold cutN; rw [size_of_list, Lib.size_eq s]; exact (cut_len _ _).1
theorem cutP_size (s : ByteArray) : (cutP s).size ≤ s.size := by unfold cutP; rw [size_of_list, Lib.size_eq s]; exact (cut_len _ _).2
theorem cutAt_any (s : ByteArray) (w : World) (hM : Hid (MaxL w)) (hs : s.size ≤ 1048576) :
    Calls Tryd.prog 48 #[.string s, .string ⟨#[32, 97, 116, 32]⟩] w fun e w' => ∃ f, e = .returned (.tuple #[.string (cutN s), .string (cutP s), .bool f]) ∧ Below w.heap.size w w' := by
  obtain ⟨m, hm⟩ := hM.out
  refine (Tryd.strings_Cut s ⟨#[32, 97, 116, 32]⟩ m w (by omega) hm).mono ?_
  rintro e w' ⟨rfl, n, rfl⟩
  exact ⟨_, rfl, below_drewN (Below.refl _ _) n⟩
set_option maxHeartbeats 6400000 in
theorem implParse_any (s : ByteArray) (r : Fa) (bb : Bool) (hP : PfS s r bb) (w : World) (hs : s.size ≤ 1048576) (hM : Hid (MaxL w)) (hK : Hid (Knt w)) (hD : Hid (Dig w)) : Calls Tryd.prog 27 #[.string s] w (SaysT2 w (faV r) (.bool bb)) := by
  have HC := Lib.hid (fun w h => cutAt_any s w (Lib.hid (show MaxL w from h)) hs)
  have T0 : TwoIs (w.alloc (Obj.cells #[.int .i64 0, .int .i64 0] 37)) w.heap.size (.int .i64 0) (.int .i64 0) := two_is w _ _ _
  have F0 := Lib.hid (FroC.new w #[.int .i64 0, .int .i64 0] 37)
  have T0' := Lib.hid T0
  clear T0
  have M0 := Lib.hid (hM.out.below (one_new2 w (Obj.cells #[.int .i64 0, .int .i64 0] 37)))
  have hn := cutN_size s
  have hp := cutP_size s
  have HN := Lib.hid (fun w h => implKindNamed_any (cutN s) w (Lib.hid (show Knt w from h)) (by omega))
  have HD := Lib.hid (fun w h => readDigits_dec (cutP s) 6000 w (Lib.hid (show Dig w from h)) (by omega) (by omega) (by omega))
  have HP := Lib.hid hP
  cases ho : rdT 10 6000 (cutP s).data.toList with
  | none =>
    obtain ⟨e1, e2⟩ := pf_none hP (pi_no1 ho)
    rw [e1, e2]
    rw [ho] at HD
    unfold SaysRd at HD
    simp only [optR, optK, Option.getD_none, Option.isSome_none] at HD
    clear hP HP e1 e2 ho hn hp
    generalize cutN s = nm at HC HN
    generalize cutP s = pl at HC HD
    generalize kdV nm = kv at HN
    generalize kdB nm = kb at HN
    unfold faV fa0
    simp only
    go_enter Tryd.func27, Tryd.ntmps27
    go_wp2_with (go_at_call 48; refine (HC.out _ M0.out).mono ?_; rintro e w1 ⟨f, rfl, b⟩; have B1 := Lib.hid ((one_new2 w _).trans (b.mono (by simp))); have F1 := Lib.hid (T0'.out.on b); have G1 := Lib.hid (F0.out.on b (by simp)); have K1 := Lib.hid (hK.out.below B1.out); clear b)
    go_wp2_with (go_at_call 14; refine (HN.out _ K1.out).mono ?_; rintro e w2 ⟨rfl, b⟩; have B2 := Lib.hid (BX.call B1.out b); have F2 := Lib.hid (F1.out.on b); have G2 := Lib.hid (G1.out.on b F1.out.2.2); have D2 := Lib.hid (hD.out.below B2.out); clear b)
    go_wp2_with (go_at_call 49; refine (HD.out _ D2.out).mono ?_; rintro e w3 ⟨rfl, b⟩; have B3 := Lib.hid ((BX.call B2.out b).alloc (Obj.cells #[.int .i64 kv, .int .i64 0] 37)); have b' := b.trans ((one_new2 w3 (Obj.cells #[.int .i64 kv, .int .i64 0] 37)).mono b.size); have F3 := Lib.hid (F2.out.on b'); obtain ⟨y0, y1, _⟩ := F3.out; have G3 := G2.out.on b' F2.out.2.2; have z0 := G3 0; have z1 := G3 1; clear b b' G3)
    obtain ⟨r0, r1⟩ := readS2 F3.out.some (.int .i64 0) (.int .i64 0) _ rfl
    exact bodyPost_ret (v := .tuple #[.agg #[.int .i64 0, .int .i64 0], .bool false]) (by simp [results, Tryd.results27, go_sem, r0, r1]) rfl ⟨rfl, setS2 B3.out _ (Nat.le_refl _) _ _⟩
  | some v =>
    have HG := Lib.hid (fun w => implIsFault_any ⟨kdV (cutN s), v⟩ w)
    have HNO := Lib.hid (fun h => pf_none HP.out (pi_no2 ho h))
    have HYES := Lib.hid (fun h => pi_yes HP.out ho h)
    rw [ho] at HD
    unfold SaysRd at HD
    simp only [optR, optK, Option.getD_some, Option.isSome_some] at HD
    clear hP HP ho hn hp
    generalize cutN s = nm at HC HN HG HNO HYES
    generalize cutP s = pl at HC HD
    generalize kdV nm = kv at HN HG HNO HYES
    generalize kdB nm = kb at HN
    have R3 : Hid (∀ w3 : World, TwoIs (w3.alloc (Obj.cells #[.int .i64 kv, .int .i64 v] 37)) w3.heap.size (.int .i64 kv) (.int .i64 v)) := Lib.hid (fun w3 => two_is w3 _ _ _)
    unfold faV at HG ⊢
    simp only at HG ⊢
    cases hg : goodF ⟨kv, v⟩
    · obtain ⟨e1, e2⟩ := HNO.out hg
      rw [hg] at HG
      subst e1 e2
      clear hg HNO HYES
      go_enter Tryd.func27, Tryd.ntmps27
      go_wp2_with (go_at_call 48; refine (HC.out _ M0.out).mono ?_; rintro e w1 ⟨f, rfl, b⟩; have B1 := Lib.hid ((one_new2 w _).trans (b.mono (by simp))); have F1 := Lib.hid (T0'.out.on b); have G1 := Lib.hid (F0.out.on b (by simp)); have K1 := Lib.hid (hK.out.below B1.out); clear b)
      go_wp2_with (go_at_call 14; refine (HN.out _ K1.out).mono ?_; rintro e w2 ⟨rfl, b⟩; have B2 := Lib.hid (BX.call B1.out b); have F2 := Lib.hid (F1.out.on b); have G2 := Lib.hid (G1.out.on b F1.out.2.2); have D2 := Lib.hid (hD.out.below B2.out); clear b)
      go_wp2_with (go_at_call 49; refine (HD.out _ D2.out).mono ?_; rintro e w3 ⟨rfl, b⟩; have B3 := Lib.hid ((BX.call B2.out b).alloc (Obj.cells #[.int .i64 kv, .int .i64 v] 37)); have b' := b.trans ((one_new2 w3 (Obj.cells #[.int .i64 kv, .int .i64 v] 37)).mono b.size); have F3 := Lib.hid (F2.out.on b'); have G3 := Lib.hid (G2.out.on b' F2.out.2.2); clear b b')
      go_wp2_with (go_at_call 45; refine (HG.out _).mono ?_; rintro e w4 ⟨rfl, b⟩; have B4 := Lib.hid (BX.call B3.out b); have F4 := Lib.hid (F3.out.on b); obtain ⟨y0, y1, _⟩ := F4.out; have G4 := G3.out.on b F3.out.2.2; have z0 := G4 0; have z1 := G4 1; clear b G4)
      obtain ⟨r0, r1⟩ := readS2 F4.out.some (.int .i64 0) (.int .i64 0) _ rfl
      exact bodyPost_ret (v := .tuple #[.agg #[.int .i64 0, .int .i64 0], .bool false]) (by simp [results, Tryd.results27, go_sem, r0, r1, fa0]) rfl ⟨rfl, setS2 B4.out _ (Nat.le_refl _) _ _⟩
    · obtain ⟨e1, e2⟩ := HYES.out hg
      rw [hg] at HG
      subst e1 e2
      clear hg HNO HYES
      go_enter Tryd.func27, Tryd.ntmps27
      go_wp2_with (go_at_call 48; refine (HC.out _ M0.out).mono ?_; rintro e w1 ⟨f, rfl, b⟩; have B1 := Lib.hid ((one_new2 w _).trans (b.mono (by simp))); have F1 := Lib.hid (T0'.out.on b); have G1 := Lib.hid (F0.out.on b (by simp)); have K1 := Lib.hid (hK.out.below B1.out); clear b)
      go_wp2_with (go_at_call 14; refine (HN.out _ K1.out).mono ?_; rintro e w2 ⟨rfl, b⟩; have B2 := Lib.hid (BX.call B1.out b); have F2 := Lib.hid (F1.out.on b); have G2 := Lib.hid (G1.out.on b F1.out.2.2); have D2 := Lib.hid (hD.out.below B2.out); clear b)
      go_wp2_with (go_at_call 49; refine (HD.out _ D2.out).mono ?_; rintro e w3 ⟨rfl, b⟩; have B3 := Lib.hid ((BX.call B2.out b).alloc (Obj.cells #[.int .i64 kv, .int .i64 v] 37)); have b' := b.trans ((one_new2 w3 (Obj.cells #[.int .i64 kv, .int .i64 v] 37)).mono b.size); have F3 := Lib.hid (F2.out.on b'); have G3 := Lib.hid (G2.out.on b' F2.out.2.2); clear b b')
      go_wp2_with (go_at_call 45; refine (HG.out _).mono ?_; rintro e w4 ⟨rfl, b⟩; have B4 := Lib.hid (BX.call B3.out b); have F4 := Lib.hid (F3.out.on b); obtain ⟨y0, y1, _⟩ := F4.out; have G4 := G3.out.on b F3.out.2.2; have z0 := G4 0; have z1 := G4 1; obtain ⟨q0, q1, _⟩ := (R3.out w3).on b; clear b G4)
      obtain ⟨r0, r1⟩ := readS2 F4.out.some (.int .i64 kv) (.int .i64 v) _ rfl
      exact bodyPost_ret (v := .tuple #[.agg #[.int .i64 kv, .int .i64 v], .bool true]) (by simp [results, Tryd.results27, go_sem, r0, r1]) rfl ⟨rfl, setS2 B4.out _ (Nat.le_refl _) _ _⟩
end Go.Proofs.YtdfkehgkonadhaaDoor
