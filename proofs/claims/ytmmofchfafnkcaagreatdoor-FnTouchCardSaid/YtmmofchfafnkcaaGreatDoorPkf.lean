import Derived.Test.YtmmofchfafnkcaaGreatDoorPke
import Derived.OpenVars
import Derived.Lib.LaidTab
import Derived.LaidMore
import Derived.OpenShut
import Derived.Test.YtmmofchfafnkcaaGreatDoorPkc
/- Key words: the contracts lie in Kwk. Letters, digits, words, first texts: contracts of the functions, program and model. -/


namespace Go.Proofs.YtmmofchfafnkcaaGreatDoor
set_option maxRecDepth 100000
open Go.RowKit
set_option linter.unusedVariables false

theorem mk_yes {c : Int} (h : letB c = true) : mkB c = true := by unfold mkB; rw [h]; rfl
theorem mk_no {c : Int} (h : letB c = false) : mkB c = digB c := by unfold mkB; rw [h]; rfl
theorem tkMark_any (c : Int) (w : World) : Calls Tryz.prog 203 #[.int .u8 c] w fun e w' => e = .returned (.bool (mkB c)) ∧ w = w' := by
  have HL := Lib.hid (fun w => tkLetter_any c w)
  rcases Bool.eq_false_or_eq_true (letB c) with hl | hl
  · rw [mk_yes hl]
    rw [hl] at HL
    clear hl
    go_enter Tryz.func203, Tryz.ntmps203
    go_wp2_with (go_at_call 201; refine (HL.out _).mono ?_; rintro e w' ⟨rfl, rfl⟩)
    go_ret
    exact ⟨rfl, rfl⟩
  · rw [mk_no hl]
    rw [hl] at HL
    clear hl
    rcases dig_cases c with ⟨a, b, e⟩ | ⟨a, e⟩ | ⟨a, b, e⟩
    · rw [e]
      have d1 := is_le a
      have d2 := is_le b
      clear e
      go_enter Tryz.func203, Tryz.ntmps203
      go_wp2_with (go_at_call 201; refine (HL.out _).mono ?_; rintro e w' ⟨rfl, rfl⟩)
      go_ret
      exact ⟨rfl, rfl⟩
    · rw [e]
      have d1 := not_le a
      clear e
      go_enter Tryz.func203, Tryz.ntmps203
      go_wp2_with (go_at_call 201; refine (HL.out _).mono ?_; rintro e w' ⟨rfl, rfl⟩)
      go_ret
      exact ⟨rfl, rfl⟩
    · rw [e]
      have d1 := is_le a
      have d2 := not_le b
      clear e
      go_enter Tryz.func203, Tryz.ntmps203
      go_wp2_with (go_at_call 201; refine (HL.out _).mono ?_; rintro e w' ⟨rfl, rfl⟩)
      go_ret
      exact ⟨rfl, rfl⟩
set_option maxHeartbeats 1600000 in
theorem tkWord_any (s : ByteArray) (w : World) (hs : s.size ≤ 1048576) (h0 : 0 < s.size) :
    Calls Tryz.prog 202 #[.string s] w fun e w' => e = .returned (.bool (wdB s.data.toList)) ∧ w = w' := by
  rw [wd_al]
  obtain ⟨b, hb⟩ : ∃ b, alB s.data.toList = b := ⟨_, rfl⟩
  have H0 : Hid (alB (s.data.toList.drop 0) = b) := Lib.hid (by rw [← hb]; rfl)
  rw [hb]
  clear hb
  have HI : Hid (inB (s.size : Int) 1 12 = decide (s.size ≤ 12)) := Lib.hid (by unfold inB; rw [show decide ((1 : Int) ≤ s.size) = true by simp; omega, Bool.true_and, decide_eq_decide]; omega)
  go_enter Tryz.func202, Tryz.ntmps202
  go_wp2_with fail
  go_loop [3] (fun v => AlRel s b v) (fun v => s.size - (intOf v).toNat)
  case atStart => exact ⟨0, Nat.zero_le _, rfl, H0⟩
  case round =>
    obtain ⟨k, hk, rfl, HP⟩ := hrel
    by_cases hlt : k < s.size
    · obtain ⟨y, hy⟩ : ∃ y : Nat, (s[k]'hlt).toNat = y := ⟨_, rfl⟩
      have HY := Lib.hid hy
      have hix := byte_at s k hlt (k : Int) rfl
      rw [hy] at hix
      clear hy
      have HL := Lib.hid (fun w => tkLetter_any (y : Int) w)
      rcases Bool.eq_false_or_eq_true (letB (y : Int)) with hl | hl
      · have HX : Hid (alB (s.data.toList.drop (k + 1)) = b) := Lib.hid ((al_more s k hlt (by rw [HY.out]; exact hl)).symm.trans HP.out)
        rw [hl] at HL
        clear hl
        go_wp2_with (go_at_call 201; refine (HL.out _).mono ?_; rintro e w' ⟨rfl, rfl⟩)
        go_round
        case rel => exact ⟨k + 1, by omega, by go_num, HX⟩
        case measure => simp [intOf]; omega
      · have HX : Hid (b = false) := Lib.hid (HP.out.symm.trans (al_stop s k hlt (by rw [HY.out]; exact hl)))
        rw [hl] at HL
        clear hl
        go_wp2_with (go_at_call 201; refine (HL.out _).mono ?_; rintro e w' ⟨rfl, rfl⟩)
        go_ret
        exact ⟨ret_bool (and_false' HX.out).symm, rfl⟩
    · have HX : Hid (b = true) := Lib.hid (HP.out.symm.trans (al_end s k (by omega)))
      go_wp2_with (go_at_call 133; refine (l1In_any _ _ _ _).mono ?_; rw [HI.out]; rintro e w' ⟨rfl, rfl⟩)
      go_ret
      exact ⟨ret_bool (by rw [and_true' HX.out]), rfl⟩
/-- the letters and digits from an index on -/
def RunRel (s : ByteArray) (k0 N : Nat) (v : Value) : Prop := ∃ k : Nat, k0 ≤ k ∧ k ≤ s.size ∧ v = .int .i64 k ∧ Hid (k + runN (s.data.toList.drop k) = N)
theorem part_run (s : ByteArray) (a b : Nat) (h : a ≤ b) (h2 : b ≤ s.size) (w : World) : (Instr.slice 9 (.string s) (some (.int .i64 (a : Int))) (some (.int .i64 (b : Int))) none).run Tryz.prog w = .ok (.string (s.extract a b)) w := by
  rw [run_slice_string w 9 s .i64 .i64 (a : Int) (b : Int) Tryz.underlying9 (by omega) (by omega) (by omega)]
  rfl
set_option maxHeartbeats 1600000 in
theorem tkRun_any (s : ByteArray) (k0 : Nat) (w : World) (hs : s.size ≤ 1048576) (h0 : k0 ≤ s.size) :
    Calls Tryz.prog 147 #[.string s, .int .i64 k0] w fun e w' => e = .returned (.string (s.extract k0 (k0 + runN (s.data.toList.drop k0)))) ∧ w = w' := by
  obtain ⟨N, hN⟩ : ∃ N, k0 + runN (s.data.toList.drop k0) = N := ⟨_, rfl⟩
  have H0 := Lib.hid hN
  have hNs : N ≤ s.size := by have := runN_le (s.data.toList.drop k0); rw [List.length_drop, ← size_list] at this; omega
  have hN0 : k0 ≤ N := by omega
  rw [hN]
  clear hN
  have hpr := part_run s k0 N hN0 hNs
  obtain ⟨u, hu⟩ : ∃ u, s.extract k0 N = u := ⟨_, rfl⟩
  rw [hu] at hpr ⊢
  clear hu
  go_enter Tryz.func147, Tryz.ntmps147
  go_wp2_with fail
  go_loop [5] (fun v => RunRel s k0 N v) (fun v => s.size - (intOf v).toNat)
  case atStart => exact ⟨k0, Nat.le_refl _, h0, rfl, H0⟩
  case round =>
    obtain ⟨k, hk0, hk, rfl, HP⟩ := hrel
    by_cases hlt : k < s.size
    · obtain ⟨y, hy⟩ : ∃ y : Nat, (s[k]'hlt).toNat = y := ⟨_, rfl⟩
      have HY := Lib.hid hy
      have hix := byte_at s k hlt (k : Int) rfl
      rw [hy] at hix
      clear hy
      have HL := Lib.hid (fun w => tkMark_any (y : Int) w)
      rcases Bool.eq_false_or_eq_true (mkB (y : Int)) with hl | hl
      · have HX := Lib.hid (run_more s k hlt (by rw [HY.out]; exact hl))
        rw [hl] at HL
        clear hl
        go_wp2_with (go_at_call 203; refine (HL.out _).mono ?_; rintro e w' ⟨rfl, rfl⟩)
        go_round
        case rel => exact ⟨k + 1, by omega, by omega, by go_num, by unfold Hid; have := HP.out; have := HX.out; omega⟩
        case measure => simp [intOf]; omega
      · have HX := Lib.hid (run_stop s k hlt (by rw [HY.out]; exact hl))
        rw [hl] at HL
        clear hl
        obtain rfl : k = N := by have := HP.out; have := HX.out; omega
        go_wp2_with (go_at_call 203; refine (HL.out _).mono ?_; rintro e w' ⟨rfl, rfl⟩)
        go_ret
        exact ⟨rfl, rfl⟩
    · obtain rfl : k = N := by have := HP.out; have := run_end s k (by omega); omega
      go_wp2_with fail
      go_ret
      exact ⟨rfl, rfl⟩
theorem tkSigns_any (w : World) :
    Calls Tryz.prog 146 #[] w fun e w' => e = .returned (.slice (some ⟨w.heap.size, 0, none⟩) 6 6) ∧ TextsAt w' w.heap.size sgA ∧ Below w.heap.size w w' := by
  go_enter Tryz.func146, Tryz.ntmps146
  go_wp2
  go_ret
  exact ⟨rfl, texts_new _ sgA _ rfl _, (Below.refl _ _).alloc (Nat.le_refl _) _⟩
theorem sg_len : sgA.length = 6 := rfl
theorem sg_small (k : Nat) (h : k < 6) : 1 ≤ (sgA.getD k ⟨#[]⟩).size ∧ (sgA.getD k ⟨#[]⟩).size ≤ 2 := by
  rcases (show k = 0 ∨ k = 1 ∨ k = 2 ∨ k = 3 ∨ k = 4 ∨ k = 5 by omega) with rfl | rfl | rfl | rfl | rfl | rfl <;> decide
/-- a text, memory made -/
def SaysT (w : World) (s : ByteArray) (e : Ending) (w' : World) : Prop := e = .returned (.string s) ∧ Below w.heap.size w w'
theorem ret_str {a b : ByteArray} (h : a = b) : Ending.returned (.string a) = .returned (.string b) := by rw [h]
def SignRel (l : List UInt8) (t : ByteArray) (v : Value) : Prop := ∃ k : Nat, k ≤ 6 ∧ v = .int .i64 k ∧ Hid (pfxOf l (sgA.drop k) = t)
theorem pfx_long (s x : ByteArray) (a : Nat) (h0 : a ≤ s.size) (h : s.size < a + x.size) : Lib.hasPrefix (s.data.toList.drop a) x.data.toList = false := by
  rw [Bool.eq_false_iff]
  intro q
  unfold Lib.hasPrefix at q
  have := (List.isPrefixOf_iff_prefix.1 q).length_le
  rw [List.length_drop, ← size_list, ← size_list] at this
  omega
theorem pfx_part (s x : ByteArray) (a : Nat) (h : a + x.size ≤ s.size) : ((s.extract a (a + x.size)).toList == x.toList) = Lib.hasPrefix (s.data.toList.drop a) x.data.toList := by
  rw [Lib.extract_toList, Lib.toList_data, ← Lib.hasPrefix_of_take, List.length_drop, ← size_list, ← size_list, Nat.add_sub_cancel_left]
  rw [show decide (x.size ≤ s.size - a) = true by simp; omega, Bool.true_and]
theorem part_run2 (s : ByteArray) (a n : Nat) (m : Int) (hm : m = (a : Int) + n) (h2 : a + n ≤ s.size) (w : World) : (Instr.slice 9 (.string s) (some (.int .i64 (a : Int))) (some (.int .i64 m)) none).run Tryz.prog w = .ok (.string (s.extract a (a + n))) w := by
  subst hm
  have := part_run s a (a + n) (by omega) h2 w
  rw [Int.natCast_add] at this
  exact this
set_option maxHeartbeats 1600000 in
theorem tkSign_any (s : ByteArray) (k0 : Nat) (w : World) (hs : s.size ≤ 1048576) (h0 : k0 ≤ s.size) :
    Calls Tryz.prog 206 #[.string s, .int .i64 k0] w (SaysT w (sgOf (s.data.toList.drop k0))) := by
  obtain ⟨t, ht⟩ : ∃ t, sgOf (s.data.toList.drop k0) = t := ⟨_, rfl⟩
  have H0 : Hid (pfxOf (s.data.toList.drop k0) (sgA.drop 0) = t) := Lib.hid ht
  rw [ht]
  clear ht
  go_enter Tryz.func206, Tryz.ntmps206
  go_wp2_with (go_at_call 146; refine (tkSigns_any _).mono ?_; rintro e w1 ⟨rfl, ht, b1⟩; have HT := Lib.hid ht; have B1 := Lib.hid b1; clear ht b1)
  go_loop [9] (fun v => SignRel (s.data.toList.drop k0) t v) (fun v => 6 - (intOf v).toNat)
  case atStart => exact ⟨0, Nat.zero_le _, rfl, H0⟩
  case round =>
    obtain ⟨k, hk, rfl, HP⟩ := hrel
    by_cases hlt : k < 6
    · have hc := HT.out k hlt
      obtain ⟨z1, z2⟩ := sg_small k hlt
      obtain ⟨x, hx⟩ : ∃ x, sgA.getD k ⟨#[]⟩ = x := ⟨_, rfl⟩
      have HE := Lib.hid (pfx_at (s.data.toList.drop k0) x k hlt hx)
      rw [hx] at hc z1 z2
      clear hx
      by_cases hl : k0 + x.size ≤ s.size
      · have d1 : decide ((k0 : Int) + x.size ≤ s.size) = true := by simp; omega
        have hpr := part_run2 s k0 x.size ((k0 : Int) + x.size) rfl hl
        have hq := pfx_part s x k0 hl
        obtain ⟨u, hu⟩ : ∃ u, s.extract k0 (k0 + x.size) = u := ⟨_, rfl⟩
        rw [hu] at hpr hq
        clear hu
        rcases Bool.eq_false_or_eq_true (Lib.hasPrefix (s.data.toList.drop k0) x.data.toList) with he | he
        · have HX : Hid (x = t) := Lib.hid (by rw [← HP.out, HE.out, he]; rfl)
          rw [he] at hq
          clear he
          go_wp2_with fail
          go_ret
          exact ⟨ret_str HX.out, B1.out⟩
        · have HX : Hid (pfxOf (s.data.toList.drop k0) (sgA.drop (k + 1)) = t) := Lib.hid (by rw [← HP.out, HE.out, he]; rfl)
          rw [he] at hq
          clear he
          go_wp2_with fail
          go_round
          case rel => exact ⟨k + 1, by omega, by go_num, HX⟩
          case measure => simp [intOf]; omega
      · have d1 : decide ((k0 : Int) + x.size ≤ s.size) = false := by simp; omega
        have HX : Hid (pfxOf (s.data.toList.drop k0) (sgA.drop (k + 1)) = t) := Lib.hid (by rw [← HP.out, HE.out, pfx_long s x k0 h0 (by omega)]; rfl)
        clear hl
        go_wp2_with fail
        go_round
        case rel => exact ⟨k + 1, by omega, by go_num, HX⟩
        case measure => simp [intOf]; omega
    · obtain rfl : k = 6 := by omega
      have HX : Hid (⟨#[]⟩ = t) := Lib.hid HP.out
      go_wp2_with fail
      go_ret
      exact ⟨ret_str HX.out, B1.out⟩
/-- the table of signs is in its place -/
def Sgt (w : World) : Prop := ∃ (t : TypeId) (fr : Nat × Nat), w.heap[1]? = some (.cells (sgA.map Value.string).toArray t fr)
theorem Sgt.below {w w' : World} (h : Sgt w) (hb : Below w.heap.size w w') : Sgt w' := by
  obtain ⟨t, fr, h⟩ := h
  refine ⟨t, fr, ?_⟩
  have hlt : 1 < w.heap.size := by
    rcases Nat.lt_or_ge 1 w.heap.size with q | q
    · exact q
    · rw [Array.getElem?_eq_none q] at h; cases h
  rw [hb.block _ hlt]; exact h
theorem sg_at (k : Nat) (h : k < 6) (w : World) : (Instr.index 158 (.agg (sgA.map Value.string).toArray) (.int .i64 (k : Int))).run Tryz.prog w = .ok (.string (sgA.getD k ⟨#[]⟩)) w := by
  rcases (show k = 0 ∨ k = 1 ∨ k = 2 ∨ k = 3 ∨ k = 4 ∨ k = 5 by omega) with rfl | rfl | rfl | rfl | rfl | rfl <;> kernel_rfl
/-- the first text as a text -/
def ftS (s : ByteArray) : ByteArray := if sgOf s.data.toList = ⟨#[]⟩ then s.extract 0 (runN s.data.toList) else sgOf s.data.toList
theorem ftS_eq (s : ByteArray) : ftS s = ftL s.data.toList := by
  unfold ftS ftL
  split
  · rw [Lib.extract_eq]; rfl
  · rfl
theorem head_run (s : ByteArray) (b : Nat) (h2 : b ≤ s.size) (w : World) : (Instr.slice 9 (.string s) none (some (.int .i64 (b : Int))) none).run Tryz.prog w = .ok (.string (s.extract 0 b)) w := by
  rw [run_slice_string_h w 9 s Tryz.underlying9 .i64 (b : Int) (by omega) (by omega)]
  rfl
def FtRelW (w : World) (s : ByteArray) (N : Nat) (wr : World) : Prop := ∃ k : Nat, k ≤ s.size ∧ wr = w.iter s k ∧ Hid (k + runN (s.data.toList.drop k) = N)
theorem extract_all (s : ByteArray) : s.extract 0 s.size = s := by
  apply ByteArray.ext
  simp
theorem mk_split {c : Int} (h : mkB c = true) : letB c = true ∨ (letB c = false ∧ digB c = true) := by
  unfold mkB at h
  rcases Bool.eq_false_or_eq_true (letB c) with hl | hl
  · exact .inl hl
  · rw [hl] at h; exact .inr ⟨hl, h⟩
theorem mk_none {c : Int} (h : mkB c = false) : letB c = false ∧ digB c = false := by
  unfold mkB at h
  exact Bool.or_eq_false_iff.1 h
set_option maxHeartbeats 3200000 in
theorem firstText_any (s : ByteArray) (w : World) (hs : s.size ≤ 1048576) (hS : Hid (Sgt w)) :
    Calls Tryz.prog 82 #[.string s] w (SaysT w (ftS s)) := by
  obtain ⟨N, hN⟩ : ∃ N, runN s.data.toList = N := ⟨_, rfl⟩
  have hNs : N ≤ s.size := by have := runN_le s.data.toList; rw [← size_list] at this; omega
  have H1 : Hid (0 + runN (s.data.toList.drop 0) = N) := Lib.hid (by rw [List.drop_zero]; omega)
  obtain ⟨t, ht⟩ : ∃ t, sgOf s.data.toList = t := ⟨_, rfl⟩
  have H0 : Hid (pfxOf s.data.toList (sgA.drop 0) = t) := Lib.hid ht
  have HF : Hid (ftS s = if t = ⟨#[]⟩ then s.extract 0 N else t) := Lib.hid (by unfold ftS; rw [ht, hN])
  have HR := Lib.hid (head_run s N hNs)
  clear hN ht
  obtain ⟨ty, fr, hg⟩ := hS.out
  have HG := Lib.hid hg
  obtain ⟨arr, harr⟩ : ∃ arr, (sgA.map Value.string).toArray = arr := ⟨_, rfl⟩
  have HA := Lib.hid sg_at
  have hsz : Hid (6 = arr.size) := Lib.hid (by rw [← harr]; rfl)
  rw [harr] at HG HA
  clear harr hg
  go_enter Tryz.func82, Tryz.ntmps82
  go_wp2_with (refine wpList_load_row rfl 158 _ rfl 1 rfl ty arr fr _ HG.out Tryz.underlying158 rfl (by rw [← hsz.out]; kernel_rfl) ?_)
  go_loop [8] (fun v => SignRel s.data.toList t v) (fun v => 6 - (intOf v).toNat)
  case atStart => exact ⟨0, Nat.zero_le _, rfl, H0⟩
  case round =>
    obtain ⟨k, hk, rfl, HP⟩ := hrel
    by_cases hlt : k < 6
    · have hix := HA.out k hlt
      have hz := (sg_small k hlt).1
      obtain ⟨x, hx⟩ : ∃ x, sgA.getD k ⟨#[]⟩ = x := ⟨_, rfl⟩
      have HE := Lib.hid (pfx_at s.data.toList x k hlt hx)
      rw [hx] at hix hz
      clear hx
      rcases Bool.eq_false_or_eq_true (Lib.hasPrefix s.data.toList x.data.toList) with he | he
      · have HX : Hid (x = t) := Lib.hid (by rw [← HP.out, HE.out, he]; rfl)
        have HH := Lib.hid he
        have HN : Hid (t ≠ ⟨#[]⟩) := Lib.hid (by rw [← HX.out]; intro q; rw [q] at hz; exact absurd hz (by decide))
        clear he
        go_wp2_with (go_at_call 154; refine (Tryz.strings_HasPrefix s x _).mono ?_; rw [HH.out]; rintro e w' ⟨rfl, rfl⟩)
        go_ret
        exact ⟨ret_str (by rw [HF.out, if_neg HN.out]; exact HX.out), Below.refl _ _⟩
      · have HX : Hid (pfxOf s.data.toList (sgA.drop (k + 1)) = t) := Lib.hid (by rw [← HP.out, HE.out, he]; rfl)
        have HH := Lib.hid he
        clear he
        go_wp2_with (go_at_call 154; refine (Tryz.strings_HasPrefix s x _).mono ?_; rw [HH.out]; rintro e w' ⟨rfl, rfl⟩)
        go_round
        case rel => exact ⟨k + 1, by omega, by go_num, HX⟩
        case measure => simp [intOf]; omega
    · obtain rfl : k = 6 := by omega
      have HF2 : Hid (ftS s = s.extract 0 N) := Lib.hid (by rw [HF.out]; exact if_pos HP.out.symm)
      go_wp2_with fail
      go_loopw [] (fun wr => FtRelW w s N wr) (fun wr => s.size - wr.iterPos w.heap.size)
      case atStart => exact ⟨0, Nat.zero_le _, rfl, H1⟩
      case round =>
        obtain ⟨k, hk, hw, HQ⟩ := hrel
        subst hw
        by_cases hlt : k < s.size
        · obtain ⟨y, hy⟩ : ∃ y : Nat, (s[k]'hlt).toNat = y := ⟨_, rfl⟩
          have HY := Lib.hid hy
          rcases Nat.lt_or_ge y 128 with ha | ha
          · have hnx := fun ty => run_next_ascii (P := Tryz.prog) w s k ty hlt (by rw [hy]; exact ha)
            rw [hy] at hnx
            clear hy
            have HL := Lib.hid (fun w => isLetter_any (y : Int) w)
            have HD := Lib.hid (fun w => isDigit_any (y : Int) w)
            rcases Bool.eq_false_or_eq_true (mkB (y : Int)) with hm | hm
            · have HX := Lib.hid (run_more s k hlt (by rw [HY.out]; exact hm))
              rcases mk_split hm with hl | ⟨hl, hd⟩
              · rw [hl] at HL
                clear hl hm
                go_wp2_with (go_at_call 152; refine (HL.out _).mono ?_; rintro e w' ⟨rfl, rfl⟩)
                go_roundw
                case rel => exact ⟨k + 1, by omega, rfl, by unfold Hid; have := HQ.out; have := HX.out; omega⟩
                case measure => simp; omega
              · rw [hl] at HL
                rw [hd] at HD
                clear hl hd hm
                go_wp2_with (first | (go_at_call 152; refine (HL.out _).mono ?_; rintro e w' ⟨rfl, rfl⟩) | (go_at_call 150; refine (HD.out _).mono ?_; rintro e w' ⟨rfl, rfl⟩))
                go_roundw
                case rel => exact ⟨k + 1, by omega, rfl, by unfold Hid; have := HQ.out; have := HX.out; omega⟩
                case measure => simp; omega
            · obtain ⟨hl, hd⟩ := mk_none hm
              rw [hl] at HL
              rw [hd] at HD
              obtain rfl : k = N := by have := HQ.out; have := run_stop s k hlt (by rw [HY.out]; exact hm); omega
              have hrr := HR.out
              clear hl hd hm
              go_wp2_with (first | (go_at_call 152; refine (HL.out _).mono ?_; rintro e w' ⟨rfl, rfl⟩) | (go_at_call 150; refine (HD.out _).mono ?_; rintro e w' ⟨rfl, rfl⟩))
              go_ret
              exact ⟨ret_str HF2.out.symm, below_iter _ _ _⟩
          · obtain ⟨r0, h0⟩ : ∃ r0 : Nat, (Utf8.decode s k).1 = r0 := ⟨_, rfl⟩
            obtain ⟨wd, h1⟩ : ∃ wd : Nat, (Utf8.decode s k).2 = wd := ⟨_, rfl⟩
            have hnx := fun ty => run_next_any (P := Tryz.prog) w s k ty hlt
            have hh := (decode_high s k hlt (by rw [hy]; exact ha)).1
            rw [h0] at hh
            rw [h0, h1] at hnx
            have HL := Lib.hid (fun w => isLetter_any (r0 : Int) w)
            have HD := Lib.hid (fun w => isDigit_any (r0 : Int) w)
            have hl : letB (r0 : Int) = false := by unfold letB; simp; omega
            have hd : digB (r0 : Int) = false := by unfold digB; simp; omega
            have hm : mkB (y : Int) = false := by unfold mkB letB digB; simp; omega
            rw [hl] at HL
            rw [hd] at HD
            obtain rfl : k = N := by have := HQ.out; have := run_stop s k hlt (by rw [hy]; exact hm); omega
            have hrr := HR.out
            clear hl hd hm hy h0 h1 hh
            go_wp2_with (first | (go_at_call 152; refine (HL.out _).mono ?_; rintro e w' ⟨rfl, rfl⟩) | (go_at_call 150; refine (HD.out _).mono ?_; rintro e w' ⟨rfl, rfl⟩))
            go_ret
            exact ⟨ret_str HF2.out.symm, below_iter _ _ _⟩
        · have hnx := fun ty => run_next_end (P := Tryz.prog) w s k ty hlt
          obtain rfl : s.size = N := by have := HQ.out; have := run_end s k (by omega); omega
          go_wp2_with fail
          go_ret
          exact ⟨ret_str (by rw [HF2.out, extract_all]), below_iter _ _ _⟩
end Go.Proofs.YtmmofchfafnkcaaGreatDoor

/- The table of key words: the fact out of a row's condition; a world for the witness with the table in its place. -/
namespace Go.Proofs.YtmmofchfafnkcaaGreatDoor
set_option maxRecDepth 100000
open Go.RowKit

/-- an array of texts that reads as the table holds the table's texts, cell for cell -/
theorem cells_of_texts {H : Type} {enc : TypeId × Value → H} {P : Program} {w : World} {base : Nat} {sp : Nat → Bool} {held : Bool} {fuel : Nat} {t e : TypeId} {n : Nat} {cs : List Value} {zs : List (List UInt8)} {p : List MemPlace}
    (ht : P.underlying t = some (.array n e)) (he : P.underlying e = some .string) (hce : P.cellsOf e = 1) (hct : P.cellsOf t = n)
    (h : DataW.trod enc P w base sp held fuel t cs = some (.agg (zs.map fun z => .lit (.string z)), p)) : cs = zs.map fun z => Value.string ⟨z.toArray⟩ := by
  cases fuel with
  | zero => simp [DataW.trod] at h
  | succ fuel =>
    simp only [DataW.trod, ht, hce, hct, Nat.mul_one] at h
    split at h
    · rename_i hl
      obtain ⟨xs, hm, hx⟩ := Option.map_eq_some_iff.1 h
      have hxs : xs.map (·.1) = zs.map fun z => (DataW.lit (.string z) : DataW H) := by
        have := congrArg Prod.fst hx
        simpa using this
      have hxl : xs.length = n := by simpa using Lib.mapM_length hm
      have hzl : zs.length = n := by
        have := congrArg List.length hxs
        simp at this
        omega
      apply List.ext_getElem?
      intro i
      by_cases hi : i < n
      · obtain ⟨b, hb, hf⟩ := Lib.mapM_at hm i i (by simp [hi])
        obtain ⟨z, hc, rfl, _⟩ := DataW.trod_string he hf
        have h1 : cs[i]? = some (.string z) := by
          have := congrArg (·[0]?) hc
          simpa [List.getElem?_take, List.getElem?_drop] using this
        have h2 : (xs.map (·.1))[i]? = some (DataW.lit (.string z.data.toList) : DataW H) := by simp [hb]
        rw [hxs] at h2
        simp only [List.getElem?_map, Option.map_eq_some_iff, DataW.lit.injEq, Lit.string.injEq] at h2
        obtain ⟨z', hz', hz2⟩ := h2
        rw [h1, List.getElem?_map, hz', Option.map_some, hz2]
      · rw [List.getElem?_eq_none (by omega), List.getElem?_eq_none (by simp; omega)]
    · cases h
theorem block_of_var {P : Program} {w : World} {n : String} {g : Nat} {cs : Array Value} (hg : P.globalNamed n = some g) (h : w.var? P n = some cs) : ∃ (t : TypeId) (fr : Nat × Nat), w.heap[g]? = some (.cells cs t fr) := by
  simp only [World.var?, hg, Option.bind_some] at h
  split at h
  · rename_i c t fr hb
    simp only [Option.some.injEq] at h
    subst h
    exact ⟨t, fr, hb⟩
  · cases h
theorem gKwt : Tryz.prog.globalNamed "loop.example/g00838/impl.keyWords" = some 0 := by kernel_rfl
theorem tKwt : (Tryz.prog.globals[0]?).map (·.type) = some 98 := by kernel_rfl
theorem kwt_of_head {W : World} {r : List (String × DataW Unit)} (h : laidMet Tryz.prog (("loop.example/g00838/impl.keyWords", Rows.laid_loop_example_g00838_impl_keyWords) :: r) W) : Kwt W := by
  obtain ⟨ps, ⟨g', t', cs, fuel, p, q, hg', ht', hvar, hd, _, _⟩, _⟩ := h
  obtain rfl := Option.some.inj (gKwt.symm.trans hg')
  obtain rfl := Option.some.inj (tKwt.symm.trans ht')
  have hcs := cells_of_texts (zs := kwA.map fun s => s.data.toList) Tryz.underlying98 Tryz.underlying9 (by kernel_rfl) (by kernel_rfl) (show DataW.trod _ Tryz.prog W _ _ _ fuel 98 cs.toList = some (.agg ((kwA.map fun s => s.data.toList).map fun z => .lit (.string z)), p) from hd)
  obtain ⟨t, fr, hb⟩ := block_of_var gKwt hvar
  refine ⟨t, fr, ?_⟩
  rw [hb, show cs = (kwA.map Value.string).toArray from Array.toList_inj.1 (by rw [hcs]; rfl)]
/-- a world for the witness: the settled one, the table in its place -/
noncomputable def laidWorldK (os : Os) : World :=
  { World.holding Tryz.prog os ⟨#[], #[], []⟩ with heap := (World.holding Tryz.prog os ⟨#[], #[], []⟩).heap.modify 0 fun
      | .cells _ t frozen => .cells #[.string ⟨#[113, 100, 105, 115, 99]⟩, .string ⟨#[100, 101, 102, 97, 117, 108, 116]⟩, .string ⟨#[99, 108, 97, 115, 115]⟩, .string ⟨#[114, 97, 116, 101]⟩, .string ⟨#[99, 101, 105, 108]⟩, .string ⟨#[98, 117, 114, 115, 116]⟩, .string ⟨#[99, 98, 117, 114, 115, 116]⟩, .string ⟨#[112, 114, 105, 111]⟩, .string ⟨#[108, 105, 109, 105, 116]⟩, .string ⟨#[102, 105, 108, 116, 101, 114]⟩, .string ⟨#[115, 111, 117, 114, 99, 101]⟩, .string ⟨#[100, 101, 115, 116]⟩, .string ⟨#[112, 111, 114, 116]⟩, .string ⟨#[109, 97, 114, 107]⟩] t frozen
      | o => o }
end Go.Proofs.YtmmofchfafnkcaaGreatDoor

/- The tables of key words and of signs: facts out of the rows' conditions; a world for the witness with the four tables in place. -/
namespace Go.Proofs.YtmmofchfafnkcaaGreatDoor
set_option maxRecDepth 100000
open Go.RowKit

theorem gSgt : Tryz.prog.globalNamed "loop.example/g00838/impl.signs" = some 1 := by kernel_rfl
theorem tSgt : (Tryz.prog.globals[1]?).map (·.type) = some 158 := by kernel_rfl
theorem sgt_of_head {W : World} {r : List (String × DataW Unit)} (h : laidMet Tryz.prog (("loop.example/g00838/impl.signs", Rows.laid_loop_example_g00838_impl_signs) :: r) W) : Sgt W := by
  obtain ⟨ps, ⟨g', t', cs, fuel, p, q, hg', ht', hvar, hd, _, _⟩, _⟩ := h
  obtain rfl := Option.some.inj (gSgt.symm.trans hg')
  obtain rfl := Option.some.inj (tSgt.symm.trans ht')
  have hcs := cells_of_texts (zs := sgA.map fun s => s.data.toList) Tryz.underlying158 Tryz.underlying9 (by kernel_rfl) (by kernel_rfl) (show DataW.trod _ Tryz.prog W _ _ _ fuel 158 cs.toList = some (.agg ((sgA.map fun s => s.data.toList).map fun z => .lit (.string z)), p) from hd)
  obtain ⟨t, fr, hb⟩ := block_of_var gSgt hvar
  refine ⟨t, fr, ?_⟩
  rw [hb, show cs = (sgA.map Value.string).toArray from Array.toList_inj.1 (by rw [hcs]; rfl)]
open Go.ChangeShapes in
/-- Four named variables, opened. -/
theorem trodVars_four {H : Type} {enc : TypeId × Value → H} {P : Program} {w : World} {spare : Nat → Bool} {n0 n1 n2 n3 : String} {gs : List (DataW H)} {ps : List MemPlace} (h : DataW.TrodVars enc P w spare [n0, n1, n2, n3] gs ps) :
    ∃ d0 d1 d2 d3, gs = [d0, d1, d2, d3] := by
  cases gs with
  | nil => simp [DataW.TrodVars] at h
  | cons d ds =>
    obtain ⟨g0, t0, cs0, f0, p0, q0, h1, h2, h3, h4, hs, e⟩ := h
    cases ds with
    | nil => simp [DataW.TrodVars] at hs
    | cons d1 ds =>
      obtain ⟨g1, t1, cs1, f1, p1, q1, _, _, _, _, hs, _⟩ := hs
      obtain ⟨g2, t2, cs2, f2, d2, p2, g3, t3, cs3, f3, d3, p3, rfl, _⟩ := trodVars_two hs
      exact ⟨d, d1, d2, d3, rfl⟩
/-- a world for the witness: the settled one, the tables in their places -/
noncomputable def laidWorld3 (os : Os) : World :=
  { laidWorld os with heap := (((laidWorld os).heap.modify 4 fun
      | .cells _ t frozen => .cells #[.string ⟨#[109]⟩, .int .i64 1000000, .string ⟨#[107]⟩, .int .i64 1000] t frozen
      | o => o).modify 0 fun
      | .cells _ t frozen => .cells #[.string ⟨#[113, 100, 105, 115, 99]⟩, .string ⟨#[100, 101, 102, 97, 117, 108, 116]⟩, .string ⟨#[99, 108, 97, 115, 115]⟩, .string ⟨#[114, 97, 116, 101]⟩, .string ⟨#[99, 101, 105, 108]⟩, .string ⟨#[98, 117, 114, 115, 116]⟩, .string ⟨#[99, 98, 117, 114, 115, 116]⟩, .string ⟨#[112, 114, 105, 111]⟩, .string ⟨#[108, 105, 109, 105, 116]⟩, .string ⟨#[102, 105, 108, 116, 101, 114]⟩, .string ⟨#[115, 111, 117, 114, 99, 101]⟩, .string ⟨#[100, 101, 115, 116]⟩, .string ⟨#[112, 111, 114, 116]⟩, .string ⟨#[109, 97, 114, 107]⟩] t frozen
      | o => o).modify 1 fun
      | .cells _ t frozen => .cells #[.string ⟨#[123]⟩, .string ⟨#[125]⟩, .string ⟨#[59]⟩, .string ⟨#[47]⟩, .string ⟨#[61]⟩, .string ⟨#[45, 62]⟩] t frozen
      | o => o }
end Go.Proofs.YtmmofchfafnkcaaGreatDoor

/- Tokens made of texts: contracts of tokenOf and of the model's tkMake. -/
namespace Go.Proofs.YtmmofchfafnkcaaGreatDoor
set_option maxRecDepth 100000
open Go.RowKit
set_option linter.unusedVariables false

theorem ret_toks {a b a' b' : Value} (h : a = a' ∧ b = b') : Ending.returned (.tuple #[a', b']) = .returned (.tuple #[a, b]) := by rw [h.1, h.2]
/-- the tables are in their places -/
def Tabs (w : World) : Prop := Dig w ∧ Units w ∧ Kwt w ∧ Sgt w
theorem Tabs.below {w w' : World} (h : Tabs w) (hb : Below w.heap.size w w') : Tabs w' := ⟨h.1.below hb, h.2.1.below hb, h.2.2.1.below hb, h.2.2.2.below hb⟩

/-- the six cells of a token and a fault of the call's own are there -/
def Six (w w1 : World) : Prop := ((w1.cell? ⟨w.heap.size, 0, none⟩).isSome = true ∧ (w1.cell? ⟨w.heap.size, 1, none⟩).isSome = true ∧ (w1.cell? ⟨w.heap.size, 2, none⟩).isSome = true ∧ (w1.cell? ⟨w.heap.size, 3, none⟩).isSome = true) ∧ ((w1.cell? ⟨w.heap.size + 1, 0, none⟩).isSome = true ∧ (w1.cell? ⟨w.heap.size + 1, 1, none⟩).isSome = true)
theorem six_new {w w1 : World} {a0 a1 a2 a3 b0 b1 : Value} {t t' : TypeId} (b : Below ((w.alloc (.cells #[a0, a1, a2, a3] t)).alloc (.cells #[b0, b1] t')).heap.size ((w.alloc (.cells #[a0, a1, a2, a3] t)).alloc (.cells #[b0, b1] t')) w1) : Six w w1 := by
  have hc := (bcell b).1
  have e : ((w.alloc (.cells #[a0, a1, a2, a3] t)).alloc (.cells #[b0, b1] t')).heap.size = w.heap.size + 2 := by simp
  rw [e] at hc
  refine ⟨⟨?_, ?_, ?_, ?_⟩, ?_, ?_⟩ <;> rw [hc _ _ (by omega)] <;> simp [go_sem]
theorem eight_new {w w1 : World} {a0 a1 a2 a3 b0 b1 b2 b3 : Value} {t t' : TypeId} (b : Below ((w.alloc (.cells #[a0, a1, a2, a3] t)).alloc (.cells #[b0, b1, b2, b3] t')).heap.size ((w.alloc (.cells #[a0, a1, a2, a3] t)).alloc (.cells #[b0, b1, b2, b3] t')) w1) : Four w1 w.heap.size ∧ Four w1 (w.heap.size + 1) := by
  have hc := (bcell b).1
  have e : ((w.alloc (.cells #[a0, a1, a2, a3] t)).alloc (.cells #[b0, b1, b2, b3] t')).heap.size = w.heap.size + 2 := by simp
  rw [e] at hc
  refine ⟨⟨?_, ?_, ?_, ?_⟩, ?_, ?_, ?_, ?_⟩ <;> rw [hc _ _ (by omega)] <;> simp [go_sem]
theorem read42 {w w1 : World} (h : Six w w1) (v0 v1 v2 v3 u0 u1 : Value) (W : World) (hW : W = (((((w1.setCell ⟨w.heap.size, 0, none⟩ v0).setCell ⟨w.heap.size, 1, none⟩ v1).setCell ⟨w.heap.size, 2, none⟩ v2).setCell ⟨w.heap.size, 3, none⟩ v3).setCell ⟨w.heap.size + 1, 0, none⟩ u0).setCell ⟨w.heap.size + 1, 1, none⟩ u1) :
    (W.cell? ⟨w.heap.size, 0, none⟩ = some v0 ∧ W.cell? ⟨w.heap.size, 1, none⟩ = some v1 ∧ W.cell? ⟨w.heap.size, 2, none⟩ = some v2 ∧ W.cell? ⟨w.heap.size, 3, none⟩ = some v3) ∧ (W.cell? ⟨w.heap.size + 1, 0, none⟩ = some u0 ∧ W.cell? ⟨w.heap.size + 1, 1, none⟩ = some u1) := by
  obtain ⟨⟨h0, h1, h2, h3⟩, g0, g1⟩ := h
  subst hW
  refine ⟨⟨?_, ?_, ?_, ?_⟩, ?_, ?_⟩ <;> simp [go_sem, World.cell?_setCell_other, World.cell?_setCell_same', h0, h1, h2, h3, g0, g1]
set_option maxHeartbeats 1600000 in
theorem tokenOf_nil (s : ByteArray) (a : Int) (w : World) (h : s.size = 0) :
    Calls Tryz.prog 81 #[.string s, .int .i64 a] w (SaysV w (.tuple #[tokR s a, fauR s a])) := by
  have HR := Lib.hid (tokR_no a (tk_nil s h) (by decide))
  obtain ⟨f1, f2⟩ := empty_tests h
  clear h
  go_enter Tryz.func81, Tryz.ntmps81
  go_wp2
  exact bodyPost_ret (v := .tuple #[.agg #[.int .i64 0, .int .i64 0, .string ⟨#[]⟩, .int .i64 0], .agg #[.int .i64 1, .int .i64 a]]) (by simp [results, Tryz.results81, go_sem]) rfl ⟨ret_toks HR.out, two_new _ _ _⟩
set_option maxHeartbeats 1600000 in
theorem tokenOf_num (s : ByteArray) (a : Int) (w : World) (h : 0 < s.size) (hs : s.size ≤ 1048576) (hT : Hid (Tabs w)) (c : Int) (hc : Hid (((s[0]'h).toNat : Int) = c)) (v : Int) (d : Hid (digB c = true)) (r : Hid (ray s.data.toList = Option.some v)) (HR : Hid (tokR s a = tokV 3 a s v ∧ fauR s a = fauV 0 0)) :
    Calls Tryz.prog 81 #[.string s, .int .i64 a] w (SaysV w (.tuple #[tokR s a, fauR s a])) := by
  obtain ⟨f1, f2⟩ := full_tests h
  have hix := first_byte s h
  rw [hc.out] at hix
  have c0 : 0 ≤ c := by have := hc.out; omega
  have c1 : c ≤ 255 := by have := hc.out; have := (s[0]'h).toNat_lt; omega
  have HD := Lib.hid (fun w => isDigit_any c w)
  rw [d.out] at HD
  have HA : Hid (∀ o o' : Obj, Calls Tryz.prog 151 #[.string s] ((w.alloc o).alloc o') (SaysPair ((w.alloc o).alloc o') v true)) := Lib.hid (fun o o' => by
    have := implReadAny_any s ((w.alloc o).alloc o') (Lib.hid (hT.out.below (two_new w o o')).1) (Lib.hid (hT.out.below (two_new w o o')).2.1) hs
    rw [r.out] at this
    exact this)
  clear hc h
  go_enter Tryz.func81, Tryz.ntmps81
  go_wp2_with (first | (go_at_call 150; refine (HD.out _).mono ?_; rintro e w' ⟨rfl, rfl⟩) | (go_at_call 151; refine (HA.out _ _).mono ?_; rintro e w1 ⟨rfl, b1⟩; obtain ⟨hc, hf⟩ := bcell b1; have hz := two_size b1; have X1 := Lib.hid (six_new b1); have B1 := Lib.hid (two_below b1); clear b1))
  obtain ⟨⟨r0, r1, r2, r3⟩, q0, q1⟩ := read42 X1.out (.int .i64 3) (.int .i64 a) (.string s) (.int .i64 v) (.int .i64 0) (.int .i64 0) _ rfl
  exact bodyPost_ret (v := .tuple #[.agg #[.int .i64 3, .int .i64 a, .string s, .int .i64 v], .agg #[.int .i64 0, .int .i64 0]]) (by simp [results, Tryz.results81, go_sem, r0, r1, r2, r3, q0, q1]) rfl ⟨ret_toks HR.out, set2 (set4 B1.out _ (Nat.le_refl _) _ _ _ _) _ (Nat.le_succ _) _ _⟩
set_option maxHeartbeats 1600000 in
theorem tokenOf_bad (s : ByteArray) (a : Int) (w : World) (h : 0 < s.size) (hs : s.size ≤ 1048576) (hT : Hid (Tabs w)) (c : Int) (hc : Hid (((s[0]'h).toNat : Int) = c)) (d : Hid (digB c = true)) (r : Hid (ray s.data.toList = Option.none)) (HR : Hid (tokR s a = tokV 0 0 ⟨#[]⟩ 0 ∧ fauR s a = fauV 3 a)) :
    Calls Tryz.prog 81 #[.string s, .int .i64 a] w (SaysV w (.tuple #[tokR s a, fauR s a])) := by
  obtain ⟨f1, f2⟩ := full_tests h
  have hix := first_byte s h
  rw [hc.out] at hix
  have c0 : 0 ≤ c := by have := hc.out; omega
  have c1 : c ≤ 255 := by have := hc.out; have := (s[0]'h).toNat_lt; omega
  have HD := Lib.hid (fun w => isDigit_any c w)
  rw [d.out] at HD
  have HA : Hid (∀ o o' : Obj, Calls Tryz.prog 151 #[.string s] ((w.alloc o).alloc o') (SaysPair ((w.alloc o).alloc o') 0 false)) := Lib.hid (fun o o' => by
    have := implReadAny_any s ((w.alloc o).alloc o') (Lib.hid (hT.out.below (two_new w o o')).1) (Lib.hid (hT.out.below (two_new w o o')).2.1) hs
    rw [r.out] at this
    exact this)
  clear hc h
  go_enter Tryz.func81, Tryz.ntmps81
  go_wp2_with (first | (go_at_call 150; refine (HD.out _).mono ?_; rintro e w' ⟨rfl, rfl⟩) | (go_at_call 151; refine (HA.out _ _).mono ?_; rintro e w1 ⟨rfl, b1⟩; obtain ⟨hc, hf⟩ := bcell b1; have hz := two_size b1; have X1 := Lib.hid (six_new b1); have B1 := Lib.hid (two_below b1); clear b1))
  obtain ⟨⟨r0, r1, r2, r3⟩, q0, q1⟩ := read42 X1.out (.int .i64 0) (.int .i64 0) (.string ⟨#[]⟩) (.int .i64 0) (.int .i64 3) (.int .i64 a) _ rfl
  exact bodyPost_ret (v := .tuple #[.agg #[.int .i64 0, .int .i64 0, .string ⟨#[]⟩, .int .i64 0], .agg #[.int .i64 3, .int .i64 a]]) (by simp [results, Tryz.results81, go_sem, r0, r1, r2, r3, q0, q1]) rfl ⟨ret_toks HR.out, set2 (set4 B1.out _ (Nat.le_refl _) _ _ _ _) _ (Nat.le_succ _) _ _⟩
set_option maxHeartbeats 1600000 in
theorem tokenOf_sign (s : ByteArray) (a : Int) (w : World) (h : 0 < s.size) (hs : s.size ≤ 1048576) (hT : Hid (Tabs w)) (c : Int) (hc : Hid (((s[0]'h).toNat : Int) = c)) (d : Hid (digB c = false)) (l : Hid (letB c = false)) (HR : Hid (tokR s a = tokV 4 a s 0 ∧ fauR s a = fauV 0 0)) :
    Calls Tryz.prog 81 #[.string s, .int .i64 a] w (SaysV w (.tuple #[tokR s a, fauR s a])) := by
  obtain ⟨f1, f2⟩ := full_tests h
  have hix := first_byte s h
  rw [hc.out] at hix
  have c0 : 0 ≤ c := by have := hc.out; omega
  have c1 : c ≤ 255 := by have := hc.out; have := (s[0]'h).toNat_lt; omega
  have HD := Lib.hid (fun w => isDigit_any c w)
  rw [d.out] at HD
  have HL := Lib.hid (fun w => isLetter_any c w)
  rw [l.out] at HL
  clear hc h
  go_enter Tryz.func81, Tryz.ntmps81
  go_wp2_with (first | (go_at_call 150; refine (HD.out _).mono ?_; rintro e w' ⟨rfl, rfl⟩) | (go_at_call 152; refine (HL.out _).mono ?_; rintro e w' ⟨rfl, rfl⟩))
  exact bodyPost_ret (v := .tuple #[.agg #[.int .i64 4, .int .i64 a, .string s, .int .i64 0], .agg #[.int .i64 0, .int .i64 0]]) (by simp [results, Tryz.results81, go_sem]) rfl ⟨ret_toks HR.out, two_new _ _ _⟩
set_option maxHeartbeats 1600000 in
theorem tokenOf_word (s : ByteArray) (a : Int) (w : World) (h : 0 < s.size) (hs : s.size ≤ 1048576) (hT : Hid (Tabs w)) (c : Int) (hc : Hid (((s[0]'h).toNat : Int) = c)) (d : Hid (digB c = false)) (l : Hid (letB c = true)) (q : Hid (wdB s.data.toList = false)) (HR : Hid (tokR s a = tokV 0 0 ⟨#[]⟩ 0 ∧ fauR s a = fauV 7 a)) :
    Calls Tryz.prog 81 #[.string s, .int .i64 a] w (SaysV w (.tuple #[tokR s a, fauR s a])) := by
  obtain ⟨f1, f2⟩ := full_tests h
  have hix := first_byte s h
  rw [hc.out] at hix
  have c0 : 0 ≤ c := by have := hc.out; omega
  have c1 : c ≤ 255 := by have := hc.out; have := (s[0]'h).toNat_lt; omega
  have HD := Lib.hid (fun w => isDigit_any c w)
  rw [d.out] at HD
  have HL := Lib.hid (fun w => isLetter_any c w)
  rw [l.out] at HL
  have HW : Hid (∀ w : World, Calls Tryz.prog 153 #[.string s] w (SaysB w false)) := Lib.hid (fun w => by
    have := isWord_any s w hs
    rw [q.out] at this
    exact this)
  clear hc h
  go_enter Tryz.func81, Tryz.ntmps81
  go_wp2_with (first | (go_at_call 150; refine (HD.out _).mono ?_; rintro e w' ⟨rfl, rfl⟩) | (go_at_call 152; refine (HL.out _).mono ?_; rintro e w' ⟨rfl, rfl⟩) | (go_at_call 153; refine (HW.out _).mono ?_; rintro e w1 ⟨rfl, b1⟩; obtain ⟨hc, hf⟩ := bcell b1; have hz := two_size b1; have X1 := Lib.hid (six_new b1); have B1 := Lib.hid (two_below b1); have K1 := Lib.hid (hT.out.below (two_below b1)).2.2.1; clear b1))
  obtain ⟨⟨r0, r1, r2, r3⟩, q0, q1⟩ := read42 X1.out (.int .i64 0) (.int .i64 0) (.string ⟨#[]⟩) (.int .i64 0) (.int .i64 7) (.int .i64 a) _ rfl
  exact bodyPost_ret (v := .tuple #[.agg #[.int .i64 0, .int .i64 0, .string ⟨#[]⟩, .int .i64 0], .agg #[.int .i64 7, .int .i64 a]]) (by simp [results, Tryz.results81, go_sem, r0, r1, r2, r3, q0, q1]) rfl ⟨ret_toks HR.out, set2 (set4 B1.out _ (Nat.le_refl _) _ _ _ _) _ (Nat.le_succ _) _ _⟩
set_option maxHeartbeats 1600000 in
theorem tokenOf_key (s : ByteArray) (a : Int) (w : World) (h : 0 < s.size) (hs : s.size ≤ 1048576) (hT : Hid (Tabs w)) (c : Int) (hc : Hid (((s[0]'h).toNat : Int) = c)) (d : Hid (digB c = false)) (l : Hid (letB c = true)) (q : Hid (wdB s.data.toList = true)) (i : Hid (isKw s = true)) (HR : Hid (tokR s a = tokV 1 a s 0 ∧ fauR s a = fauV 0 0)) :
    Calls Tryz.prog 81 #[.string s, .int .i64 a] w (SaysV w (.tuple #[tokR s a, fauR s a])) := by
  obtain ⟨f1, f2⟩ := full_tests h
  have hix := first_byte s h
  rw [hc.out] at hix
  have c0 : 0 ≤ c := by have := hc.out; omega
  have c1 : c ≤ 255 := by have := hc.out; have := (s[0]'h).toNat_lt; omega
  have HD := Lib.hid (fun w => isDigit_any c w)
  rw [d.out] at HD
  have HL := Lib.hid (fun w => isLetter_any c w)
  rw [l.out] at HL
  have HW : Hid (∀ w : World, Calls Tryz.prog 153 #[.string s] w (SaysB w true)) := Lib.hid (fun w => by
    have := isWord_any s w hs
    rw [q.out] at this
    exact this)
  have HK := Lib.hid (fun w hK => implIsKey_any s w hK)
  rw [i.out] at HK
  clear hc h
  go_enter Tryz.func81, Tryz.ntmps81
  go_wp2_with (first | (go_at_call 150; refine (HD.out _).mono ?_; rintro e w' ⟨rfl, rfl⟩) | (go_at_call 152; refine (HL.out _).mono ?_; rintro e w' ⟨rfl, rfl⟩) | (go_at_call 153; refine (HW.out _).mono ?_; rintro e w1 ⟨rfl, b1⟩; obtain ⟨hc, hf⟩ := bcell b1; have hz := two_size b1; have X1 := Lib.hid (six_new b1); have B1 := Lib.hid (two_below b1); have K1 := Lib.hid (hT.out.below (two_below b1)).2.2.1; clear b1) | (go_at_call 23; refine (HK.out _ K1).mono ?_; rintro e w' ⟨rfl, rfl⟩))
  obtain ⟨⟨r0, r1, r2, r3⟩, q0, q1⟩ := read42 X1.out (.int .i64 1) (.int .i64 a) (.string s) (.int .i64 0) (.int .i64 0) (.int .i64 0) _ rfl
  exact bodyPost_ret (v := .tuple #[.agg #[.int .i64 1, .int .i64 a, .string s, .int .i64 0], .agg #[.int .i64 0, .int .i64 0]]) (by simp [results, Tryz.results81, go_sem, r0, r1, r2, r3, q0, q1]) rfl ⟨ret_toks HR.out, set2 (set4 B1.out _ (Nat.le_refl _) _ _ _ _) _ (Nat.le_succ _) _ _⟩
set_option maxHeartbeats 1600000 in
theorem tokenOf_name (s : ByteArray) (a : Int) (w : World) (h : 0 < s.size) (hs : s.size ≤ 1048576) (hT : Hid (Tabs w)) (c : Int) (hc : Hid (((s[0]'h).toNat : Int) = c)) (d : Hid (digB c = false)) (l : Hid (letB c = true)) (q : Hid (wdB s.data.toList = true)) (i : Hid (isKw s = false)) (HR : Hid (tokR s a = tokV 2 a s 0 ∧ fauR s a = fauV 0 0)) :
    Calls Tryz.prog 81 #[.string s, .int .i64 a] w (SaysV w (.tuple #[tokR s a, fauR s a])) := by
  obtain ⟨f1, f2⟩ := full_tests h
  have hix := first_byte s h
  rw [hc.out] at hix
  have c0 : 0 ≤ c := by have := hc.out; omega
  have c1 : c ≤ 255 := by have := hc.out; have := (s[0]'h).toNat_lt; omega
  have HD := Lib.hid (fun w => isDigit_any c w)
  rw [d.out] at HD
  have HL := Lib.hid (fun w => isLetter_any c w)
  rw [l.out] at HL
  have HW : Hid (∀ w : World, Calls Tryz.prog 153 #[.string s] w (SaysB w true)) := Lib.hid (fun w => by
    have := isWord_any s w hs
    rw [q.out] at this
    exact this)
  have HK := Lib.hid (fun w hK => implIsKey_any s w hK)
  rw [i.out] at HK
  clear hc h
  go_enter Tryz.func81, Tryz.ntmps81
  go_wp2_with (first | (go_at_call 150; refine (HD.out _).mono ?_; rintro e w' ⟨rfl, rfl⟩) | (go_at_call 152; refine (HL.out _).mono ?_; rintro e w' ⟨rfl, rfl⟩) | (go_at_call 153; refine (HW.out _).mono ?_; rintro e w1 ⟨rfl, b1⟩; obtain ⟨hc, hf⟩ := bcell b1; have hz := two_size b1; have X1 := Lib.hid (six_new b1); have B1 := Lib.hid (two_below b1); have K1 := Lib.hid (hT.out.below (two_below b1)).2.2.1; clear b1) | (go_at_call 23; refine (HK.out _ K1).mono ?_; rintro e w' ⟨rfl, rfl⟩))
  obtain ⟨⟨r0, r1, r2, r3⟩, q0, q1⟩ := read42 X1.out (.int .i64 2) (.int .i64 a) (.string s) (.int .i64 0) (.int .i64 0) (.int .i64 0) _ rfl
  exact bodyPost_ret (v := .tuple #[.agg #[.int .i64 2, .int .i64 a, .string s, .int .i64 0], .agg #[.int .i64 0, .int .i64 0]]) (by simp [results, Tryz.results81, go_sem, r0, r1, r2, r3, q0, q1]) rfl ⟨ret_toks HR.out, set2 (set4 B1.out _ (Nat.le_refl _) _ _ _ _) _ (Nat.le_succ _) _ _⟩
theorem tokenOf_any (s : ByteArray) (a : Int) (w : World) (hs : s.size ≤ 1048576) (hT : Hid (Tabs w)) :
    Calls Tryz.prog 81 #[.string s, .int .i64 a] w (SaysV w (.tuple #[tokR s a, fauR s a])) := by
  rcases Nat.eq_zero_or_pos s.size with h | h
  · exact tokenOf_nil s a w h
  · rcases tk_way s h with ⟨v, d, r, e, k, x⟩ | ⟨d, r, e⟩ | ⟨d, l, e, k, x⟩ | ⟨d, l, q, e⟩ | ⟨d, l, q, i, e, k, x⟩ | ⟨d, l, q, i, e, k, x⟩
    · exact tokenOf_num s a w h hs hT _ (Lib.hid rfl) v d r (tokR_yes a e k x)
    · exact tokenOf_bad s a w h hs hT _ (Lib.hid rfl) d r (tokR_no a e (by decide))
    · exact tokenOf_sign s a w h hs hT _ (Lib.hid rfl) d l (tokR_yes a e k x)
    · exact tokenOf_word s a w h hs hT _ (Lib.hid rfl) d l q (tokR_no a e (by decide))
    · exact tokenOf_key s a w h hs hT _ (Lib.hid rfl) d l q i (tokR_yes a e k x)
    · exact tokenOf_name s a w h hs hT _ (Lib.hid rfl) d l q i (tokR_yes a e k x)
theorem ret_make {a b : Value} {m n : Int} (h : a = b ∧ m = n) : Ending.returned (.tuple #[b, .int .i64 n]) = .returned (.tuple #[a, .int .i64 m]) := by rw [h.1, h.2]
theorem let_dig {c : Int} (h : digB c = true) : letB c = false := by unfold digB at h; unfold letB; simp at h; simp; omega
set_option maxHeartbeats 1600000 in
theorem tkMake_num (s : ByteArray) (a : Int) (w : World) (h : 0 < s.size) (hs : s.size ≤ 1048576) (c : Int) (hc : Hid (((s[0]'h).toNat : Int) = c)) (v : Int) (l : Hid (letB c = false)) (d : Hid (digB c = true)) (r : Hid (ray s.data.toList = Option.some v)) (HR : Hid (tokR s a = tokV 3 a s v ∧ tkFa s = 0)) :
    Calls Tryz.prog 145 #[.string s, .int .i64 a] w (SaysV w (.tuple #[tokR s a, .int .i64 (tkFa s)])) := by
  have hix := first_byte s h
  rw [hc.out] at hix
  have HL := Lib.hid (fun w => tkLetter_any c w)
  rw [l.out] at HL
  have HM := Lib.hid (fun w => tkMark_any c w)
  rw [show mkB c = true by unfold mkB; rw [l.out, d.out]; rfl] at HM
  have HA : Hid (∀ w : World, Calls Tryz.prog 204 #[.string s] w (SaysPair w v true)) := Lib.hid (fun w => by
    have := specReadAny_any s w hs
    rw [r.out] at this
    exact this)
  clear hc h
  go_enter Tryz.func145, Tryz.ntmps145
  go_wp2_with (first | (go_at_call 201; refine (HL.out _).mono ?_; rintro e w' ⟨rfl, rfl⟩) | (go_at_call 203; refine (HM.out _).mono ?_; rintro e w' ⟨rfl, rfl⟩) | (go_at_call 204; refine (HA.out _).mono ?_; rintro e w1 ⟨rfl, b1⟩; obtain ⟨hc, hf⟩ := bcell b1; have hz := two_size b1; have X1 := Lib.hid (eight_new b1); have B1 := Lib.hid (two_below b1); clear b1))
  obtain ⟨r0, r1, r2, r3⟩ := read4 (four_set (four_set X1.out.1 ⟨w.heap.size + 1, 0, none⟩ (.int .i64 3)) ⟨w.heap.size + 1, 3, none⟩ (.int .i64 v)) (.int .i64 3) (.int .i64 a) (.string s) (.int .i64 v) _ rfl
  exact bodyPost_ret (v := .tuple #[.agg #[.int .i64 3, .int .i64 a, .string s, .int .i64 v], .int .i64 0]) (by simp [results, Tryz.results145, go_sem, r0, r1, r2, r3]) rfl ⟨ret_make HR.out, set4 ((B1.out.setCell (Nat.le_succ _) _).setCell (Nat.le_succ _) _) _ (Nat.le_refl _) _ _ _ _⟩
set_option maxHeartbeats 1600000 in
theorem tkMake_bad (s : ByteArray) (a : Int) (w : World) (h : 0 < s.size) (hs : s.size ≤ 1048576) (c : Int) (hc : Hid (((s[0]'h).toNat : Int) = c)) (l : Hid (letB c = false)) (d : Hid (digB c = true)) (r : Hid (ray s.data.toList = Option.none)) (HR : Hid (tokR s a = tokV 0 0 ⟨#[]⟩ 0 ∧ tkFa s = 3)) :
    Calls Tryz.prog 145 #[.string s, .int .i64 a] w (SaysV w (.tuple #[tokR s a, .int .i64 (tkFa s)])) := by
  have hix := first_byte s h
  rw [hc.out] at hix
  have HL := Lib.hid (fun w => tkLetter_any c w)
  rw [l.out] at HL
  have HM := Lib.hid (fun w => tkMark_any c w)
  rw [show mkB c = true by unfold mkB; rw [l.out, d.out]; rfl] at HM
  have HA : Hid (∀ w : World, Calls Tryz.prog 204 #[.string s] w (SaysPair w 0 false)) := Lib.hid (fun w => by
    have := specReadAny_any s w hs
    rw [r.out] at this
    exact this)
  clear hc h
  go_enter Tryz.func145, Tryz.ntmps145
  go_wp2_with (first | (go_at_call 201; refine (HL.out _).mono ?_; rintro e w' ⟨rfl, rfl⟩) | (go_at_call 203; refine (HM.out _).mono ?_; rintro e w' ⟨rfl, rfl⟩) | (go_at_call 204; refine (HA.out _).mono ?_; rintro e w1 ⟨rfl, b1⟩; obtain ⟨hc, hf⟩ := bcell b1; have hz := two_size b1; have X1 := Lib.hid (eight_new b1); have B1 := Lib.hid (two_below b1); clear b1))
  obtain ⟨r0, r1, r2, r3⟩ := read4 X1.out.1 (.int .i64 0) (.int .i64 0) (.string ⟨#[]⟩) (.int .i64 0) _ rfl
  exact bodyPost_ret (v := .tuple #[.agg #[.int .i64 0, .int .i64 0, .string ⟨#[]⟩, .int .i64 0], .int .i64 3]) (by simp [results, Tryz.results145, go_sem, r0, r1, r2, r3]) rfl ⟨ret_make HR.out, set4 B1.out _ (Nat.le_refl _) _ _ _ _⟩
set_option maxHeartbeats 1600000 in
theorem tkMake_sign (s : ByteArray) (a : Int) (w : World) (h : 0 < s.size) (hs : s.size ≤ 1048576) (c : Int) (hc : Hid (((s[0]'h).toNat : Int) = c)) (d : Hid (digB c = false)) (l : Hid (letB c = false)) (HR : Hid (tokR s a = tokV 4 a s 0 ∧ tkFa s = 0)) :
    Calls Tryz.prog 145 #[.string s, .int .i64 a] w (SaysV w (.tuple #[tokR s a, .int .i64 (tkFa s)])) := by
  have hix := first_byte s h
  rw [hc.out] at hix
  have HL := Lib.hid (fun w => tkLetter_any c w)
  rw [l.out] at HL
  have HM := Lib.hid (fun w => tkMark_any c w)
  rw [show mkB c = false by unfold mkB; rw [l.out, d.out]; rfl] at HM
  clear hc h
  go_enter Tryz.func145, Tryz.ntmps145
  go_wp2_with (first | (go_at_call 201; refine (HL.out _).mono ?_; rintro e w' ⟨rfl, rfl⟩) | (go_at_call 203; refine (HM.out _).mono ?_; rintro e w' ⟨rfl, rfl⟩))
  exact bodyPost_ret (v := .tuple #[.agg #[.int .i64 4, .int .i64 a, .string s, .int .i64 0], .int .i64 0]) (by simp [results, Tryz.results145, go_sem]) rfl ⟨ret_make HR.out, two_new _ _ _⟩
set_option maxHeartbeats 1600000 in
theorem tkMake_word (s : ByteArray) (a : Int) (w : World) (h : 0 < s.size) (hs : s.size ≤ 1048576) (c : Int) (hc : Hid (((s[0]'h).toNat : Int) = c)) (l : Hid (letB c = true)) (q : Hid (wdB s.data.toList = false)) (HR : Hid (tokR s a = tokV 0 0 ⟨#[]⟩ 0 ∧ tkFa s = 7)) :
    Calls Tryz.prog 145 #[.string s, .int .i64 a] w (SaysV w (.tuple #[tokR s a, .int .i64 (tkFa s)])) := by
  have hix := first_byte s h
  rw [hc.out] at hix
  have HL := Lib.hid (fun w => tkLetter_any c w)
  rw [l.out] at HL
  have HW := Lib.hid (fun w => tkWord_any s w hs h)
  rw [q.out] at HW
  clear hc h
  go_enter Tryz.func145, Tryz.ntmps145
  go_wp2_with (first | (go_at_call 201; refine (HL.out _).mono ?_; rintro e w' ⟨rfl, rfl⟩) | (go_at_call 202; refine (HW.out _).mono ?_; rintro e w' ⟨rfl, rfl⟩))
  exact bodyPost_ret (v := .tuple #[.agg #[.int .i64 0, .int .i64 0, .string ⟨#[]⟩, .int .i64 0], .int .i64 7]) (by simp [results, Tryz.results145, go_sem]) rfl ⟨ret_make HR.out, two_new _ _ _⟩
set_option maxHeartbeats 1600000 in
theorem tkMake_key (s : ByteArray) (a : Int) (w : World) (h : 0 < s.size) (hs : s.size ≤ 1048576) (c : Int) (hc : Hid (((s[0]'h).toNat : Int) = c)) (l : Hid (letB c = true)) (q : Hid (wdB s.data.toList = true)) (i : Hid (isKw s = true)) (HR : Hid (tokR s a = tokV 1 a s 0 ∧ tkFa s = 0)) :
    Calls Tryz.prog 145 #[.string s, .int .i64 a] w (SaysV w (.tuple #[tokR s a, .int .i64 (tkFa s)])) := by
  have hix := first_byte s h
  rw [hc.out] at hix
  have HL := Lib.hid (fun w => tkLetter_any c w)
  rw [l.out] at HL
  have HW := Lib.hid (fun w => tkWord_any s w hs h)
  rw [q.out] at HW
  have HK : Hid (∀ w : World, Calls Tryz.prog 24 #[.string s] w (SaysB w true)) := Lib.hid (fun w => by
    have := specIsKey_any s w
    rw [i.out] at this
    exact this)
  clear hc h
  go_enter Tryz.func145, Tryz.ntmps145
  go_wp2_with (first | (go_at_call 201; refine (HL.out _).mono ?_; rintro e w' ⟨rfl, rfl⟩) | (go_at_call 202; refine (HW.out _).mono ?_; rintro e w' ⟨rfl, rfl⟩) | (go_at_call 24; refine (HK.out _).mono ?_; rintro e w1 ⟨rfl, b1⟩; obtain ⟨hc, hf⟩ := bcell b1; have hz := two_size b1; have X1 := Lib.hid (eight_new b1); have B1 := Lib.hid (two_below b1); clear b1))
  obtain ⟨r0, r1, r2, r3⟩ := read4 (four_set X1.out.1 ⟨w.heap.size + 1, 0, none⟩ (.int .i64 1)) (.int .i64 1) (.int .i64 a) (.string s) (.int .i64 0) _ rfl
  exact bodyPost_ret (v := .tuple #[.agg #[.int .i64 1, .int .i64 a, .string s, .int .i64 0], .int .i64 0]) (by simp [results, Tryz.results145, go_sem, r0, r1, r2, r3]) rfl ⟨ret_make HR.out, set4 (B1.out.setCell (Nat.le_succ _) _) _ (Nat.le_refl _) _ _ _ _⟩
set_option maxHeartbeats 1600000 in
theorem tkMake_name (s : ByteArray) (a : Int) (w : World) (h : 0 < s.size) (hs : s.size ≤ 1048576) (c : Int) (hc : Hid (((s[0]'h).toNat : Int) = c)) (l : Hid (letB c = true)) (q : Hid (wdB s.data.toList = true)) (i : Hid (isKw s = false)) (HR : Hid (tokR s a = tokV 2 a s 0 ∧ tkFa s = 0)) :
    Calls Tryz.prog 145 #[.string s, .int .i64 a] w (SaysV w (.tuple #[tokR s a, .int .i64 (tkFa s)])) := by
  have hix := first_byte s h
  rw [hc.out] at hix
  have HL := Lib.hid (fun w => tkLetter_any c w)
  rw [l.out] at HL
  have HW := Lib.hid (fun w => tkWord_any s w hs h)
  rw [q.out] at HW
  have HK : Hid (∀ w : World, Calls Tryz.prog 24 #[.string s] w (SaysB w false)) := Lib.hid (fun w => by
    have := specIsKey_any s w
    rw [i.out] at this
    exact this)
  clear hc h
  go_enter Tryz.func145, Tryz.ntmps145
  go_wp2_with (first | (go_at_call 201; refine (HL.out _).mono ?_; rintro e w' ⟨rfl, rfl⟩) | (go_at_call 202; refine (HW.out _).mono ?_; rintro e w' ⟨rfl, rfl⟩) | (go_at_call 24; refine (HK.out _).mono ?_; rintro e w1 ⟨rfl, b1⟩; obtain ⟨hc, hf⟩ := bcell b1; have hz := two_size b1; have X1 := Lib.hid (eight_new b1); have B1 := Lib.hid (two_below b1); clear b1))
  obtain ⟨r0, r1, r2, r3⟩ := read4 X1.out.1 (.int .i64 2) (.int .i64 a) (.string s) (.int .i64 0) _ rfl
  exact bodyPost_ret (v := .tuple #[.agg #[.int .i64 2, .int .i64 a, .string s, .int .i64 0], .int .i64 0]) (by simp [results, Tryz.results145, go_sem, r0, r1, r2, r3]) rfl ⟨ret_make HR.out, set4 B1.out _ (Nat.le_refl _) _ _ _ _⟩
theorem tkMake_any (s : ByteArray) (a : Int) (w : World) (h : 0 < s.size) (hs : s.size ≤ 1048576) :
    Calls Tryz.prog 145 #[.string s, .int .i64 a] w (SaysV w (.tuple #[tokR s a, .int .i64 (tkFa s)])) := by
  rcases tk_way s h with ⟨v, d, r, e, k, x⟩ | ⟨d, r, e⟩ | ⟨d, l, e, k, x⟩ | ⟨d, l, q, e⟩ | ⟨d, l, q, i, e, k, x⟩ | ⟨d, l, q, i, e, k, x⟩
  · exact tkMake_num s a w h hs _ (Lib.hid rfl) v (let_dig d) d r ⟨(tokR_yes a e k x).1, e⟩
  · exact tkMake_bad s a w h hs _ (Lib.hid rfl) (let_dig d) d r ⟨(tokR_no a e (by decide)).1, e⟩
  · exact tkMake_sign s a w h hs _ (Lib.hid rfl) d l ⟨(tokR_yes a e k x).1, e⟩
  · exact tkMake_word s a w h hs _ (Lib.hid rfl) l q ⟨(tokR_no a e (by decide)).1, e⟩
  · exact tkMake_key s a w h hs _ (Lib.hid rfl) l q i ⟨(tokR_yes a e k x).1, e⟩
  · exact tkMake_name s a w h hs _ (Lib.hid rfl) l q i ⟨(tokR_yes a e k x).1, e⟩
end Go.Proofs.YtmmofchfafnkcaaGreatDoor
