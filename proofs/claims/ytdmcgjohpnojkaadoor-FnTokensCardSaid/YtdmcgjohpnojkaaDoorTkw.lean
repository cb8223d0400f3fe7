/- Key words: the contracts lie in Kwk. Letters, digits, words, first texts: contracts of the functions, program and model. -/
import Derived.Test.YtdmcgjohpnojkaaDoorTkl
import Derived.Test.YtdmcgjohpnojkaaDoorKwk


namespace Go.Proofs.YtdmcgjohpnojkaaDoor
set_option maxRecDepth 100000
open Go.RowKit
set_option linter.unusedVariables false

theorem mk_yes {c : Int} (h : letB c = true) : mkB c = true := by unfold mkB; rw [h]; rfl
theorem mk_no {c : Int} (h : letB c = false) : mkB c = digB c := by unfold mkB; rw [h]; rfl
theorem tkMark_any (c : Int) (w : World) : Calls Tryd.prog 113 #[.int .u8 c] w fun e w' => e = .returned (.bool (mkB c)) ∧ w = w' := by
  have HL := Lib.hid (fun w => tkLetter_any c w)
  rcases Bool.eq_false_or_eq_true (letB c) with hl | hl
  · rw [mk_yes hl]
    rw [hl] at HL
    clear hl
    go_enter Tryd.func113, Tryd.ntmps113
    go_wp2_with (go_at_call 114; refine (HL.out _).mono ?_; rintro e w' ⟨rfl, rfl⟩)
    go_ret
    exact ⟨rfl, rfl⟩
  · rw [mk_no hl]
    rw [hl] at HL
    clear hl
    rcases dig_cases c with ⟨a, b, e⟩ | ⟨a, e⟩ | ⟨a, b, e⟩
    · rw [e]
      have d1 := is_le a
      have d2 := is_le b
      clear e
      go_enter Tryd.func113, Tryd.ntmps113
      go_wp2_with (go_at_call 114; refine (HL.out _).mono ?_; rintro e w' ⟨rfl, rfl⟩)
      go_ret
      exact ⟨rfl, rfl⟩
    · rw [e]
      have d1 := not_le a
      clear e
      go_enter Tryd.func113, Tryd.ntmps113
      go_wp2_with (go_at_call 114; refine (HL.out _).mono ?_; rintro e w' ⟨rfl, rfl⟩)
      go_ret
      exact ⟨rfl, rfl⟩
    · rw [e]
      have d1 := is_le a
      have d2 := not_le b
      clear e
      go_enter Tryd.func113, Tryd.ntmps113
      go_wp2_with (go_at_call 114; refine (HL.out _).mono ?_; rintro e w' ⟨rfl, rfl⟩)
      go_ret
      exact ⟨rfl, rfl⟩
set_option maxHeartbeats 1600000 in
theorem tkWord_any (s : ByteArray) (w : World) (hs : s.size ≤ 1048576) (h0 : 0 < s.size) :
    Calls Tryd.prog 115 #[.string s] w fun e w' => e = .returned (.bool (wdB s.data.toList)) ∧ w = w' := by
  rw [wd_al]
  obtain ⟨b, hb⟩ : ∃ b, alB s.data.toList = b := ⟨_, rfl⟩
  have H0 : Hid (alB (s.data.toList.drop 0) = b) := Lib.hid (by rw [← hb]; rfl)
  rw [hb]
  clear hb
  have HI : Hid (inB (s.size : Int) 1 12 = decide (s.size ≤ 12)) := Lib.hid (by unfold inB; rw [show decide ((1 : Int) ≤ s.size) = true by simp; omega, Bool.true_and, decide_eq_decide]; omega)
  go_enter Tryd.func115, Tryd.ntmps115
  go_wp2_with fail
  go_loop [3] (fun v => AlRel s b v) (fun v => s.size - (intOf v).toNat)
  case atStart => exact ⟨0, Nat.zero_le _, rfl, H0⟩
  case round =>
    obtain ⟨k, hk, rfl, HP⟩ := hrel
    by_cases hlt : k < s.size
    · obtain ⟨y, hy⟩ : ∃ y : Nat, (s[k]'hlt).toNat = y := ⟨_, rfl⟩
      have HY := Lib.hid hy
      have hix := byte_at s k hlt (k : Int) rfl
      rw [hy] at hix
      clear hy
      have HL := Lib.hid (fun w => tkLetter_any (y : Int) w)
      rcases Bool.eq_false_or_eq_true (letB (y : Int)) with hl | hl
      · have HX : Hid (alB (s.data.toList.drop (k + 1)) = b) := Lib.hid ((al_more s k hlt (by rw [HY.out]; exact hl)).symm.trans HP.out)
        rw [hl] at HL
        clear hl
        go_wp2_with (go_at_call 114; refine (HL.out _).mono ?_; rintro e w' ⟨rfl, rfl⟩)
        go_round
        case rel => exact ⟨k + 1, by omega, by go_num, HX⟩
        case measure => simp [intOf]; omega
      · have HX : Hid (b = false) := Lib.hid (HP.out.symm.trans (al_stop s k hlt (by rw [HY.out]; exact hl)))
        rw [hl] at HL
        clear hl
        go_wp2_with (go_at_call 114; refine (HL.out _).mono ?_; rintro e w' ⟨rfl, rfl⟩)
        go_ret
        exact ⟨ret_bool (and_false' HX.out).symm, rfl⟩
    · have HX : Hid (b = true) := Lib.hid (HP.out.symm.trans (al_end s k (by omega)))
      go_wp2_with (go_at_call 78; refine (l1In_any _ _ _ _).mono ?_; rw [HI.out]; rintro e w' ⟨rfl, rfl⟩)
      go_ret
      exact ⟨ret_bool (by rw [and_true' HX.out]), rfl⟩
/-- the letters and digits from an index on -/
def RunRel (s : ByteArray) (k0 N : Nat) (v : Value) : Prop := ∃ k : Nat, k0 ≤ k ∧ k ≤ s.size ∧ v = .int .i64 k ∧ Hid (k + runN (s.data.toList.drop k) = N)
theorem part_run (s : ByteArray) (a b : Nat) (h : a ≤ b) (h2 : b ≤ s.size) (w : World) : (Instr.slice 9 (.string s) (some (.int .i64 (a : Int))) (some (.int .i64 (b : Int))) none).run Tryd.prog w = .ok (.string (s.extract a b)) w := by
  rw [run_slice_string w 9 s .i64 .i64 (a : Int) (b : Int) Tryd.underlying9 (by omega) (by omega) (by omega)]
  rfl
set_option maxHeartbeats 1600000 in
theorem tkRun_any (s : ByteArray) (k0 : Nat) (w : World) (hs : s.size ≤ 1048576) (h0 : k0 ≤ s.size) :
    Calls Tryd.prog 80 #[.string s, .int .i64 k0] w fun e w' => e = .returned (.string (s.extract k0 (k0 + runN (s.data.toList.drop k0)))) ∧ w = w' := by
  obtain ⟨N, hN⟩ : ∃ N, k0 + runN (s.data.toList.drop k0) = N := ⟨_, rfl⟩
  have H0 := Lib.hid hN
  have hNs : N ≤ s.size := by have := runN_le (s.data.toList.drop k0); rw [List.length_drop, ← size_list] at this; omega
  have hN0 : k0 ≤ N := by omega
  rw [hN]
  clear hN
  have hpr := part_run s k0 N hN0 hNs
  obtain ⟨u, hu⟩ : ∃ u, s.extract k0 N = u := ⟨_, rfl⟩
  rw [hu] at hpr ⊢
  clear hu
  go_enter Tryd.func80, Tryd.ntmps80
  go_wp2_with fail
  go_loop [5] (fun v => RunRel s k0 N v) (fun v => s.size - (intOf v).toNat)
  case atStart => exact ⟨k0, Nat.le_refl _, h0, rfl, H0⟩
  case round =>
    obtain ⟨k, hk0, hk, rfl, HP⟩ := hrel
    by_cases hlt : k < s.size
    · obtain ⟨y, hy⟩ : ∃ y : Nat, (s[k]'hlt).toNat = y := ⟨_, rfl⟩
      have HY := Lib.hid hy
      have hix := byte_at s k hlt (k : Int) rfl
      rw [hy] at hix
      clear hy
      have HL := Lib.hid (fun w => tkMark_any (y : Int) w)
      rcases Bool.eq_false_or_eq_true (mkB (y : Int)) with hl | hl
      · have HX := Lib.hid (run_more s k hlt (by rw [HY.out]; exact hl))
        rw [hl] at HL
        clear hl
        go_wp2_with (go_at_call 113; refine (HL.out _).mono ?_; rintro e w' ⟨rfl, rfl⟩)
        go_round
        case rel => exact ⟨k + 1, by omega, by omega, by go_num, by unfold Hid; have := HP.out; have := HX.out; omega⟩
        case measure => simp [intOf]; omega
      · have HX := Lib.hid (run_stop s k hlt (by rw [HY.out]; exact hl))
        rw [hl] at HL
        clear hl
        obtain rfl : k = N := by have := HP.out; have := HX.out; omega
        go_wp2_with (go_at_call 113; refine (HL.out _).mono ?_; rintro e w' ⟨rfl, rfl⟩)
        go_ret
        exact ⟨rfl, rfl⟩
    · obtain rfl : k = N := by have := HP.out; have := run_end s k (by omega); omega
      go_wp2_with fail
      go_ret
      exact ⟨rfl, rfl⟩
theorem tkSigns_any (w : World) :
    Calls Tryd.prog 109 #[] w fun e w' => e = .returned (.slice (some ⟨w.heap.size, 0, none⟩) 6 6) ∧ TextsAt w' w.heap.size sgA ∧ Below w.heap.size w w' := by
  go_enter Tryd.func109, Tryd.ntmps109
  go_wp2
  go_ret
  exact ⟨rfl, texts_new _ sgA _ rfl _, (Below.refl _ _).alloc (Nat.le_refl _) _⟩
theorem sg_len : sgA.length = 6 := rfl
theorem sg_small (k : Nat) (h : k < 6) : 1 ≤ (sgA.getD k ⟨#[]⟩).size ∧ (sgA.getD k ⟨#[]⟩).size ≤ 2 := by
  rcases (show k = 0 ∨ k = 1 ∨ k = 2 ∨ k = 3 ∨ k = 4 ∨ k = 5 by omega) with rfl | rfl | rfl | rfl | rfl | rfl <;> decide
/-- a text, memory made -/
def SaysT (w : World) (s : ByteArray) (e : Ending) (w' : World) : Prop := e = .returned (.string s) ∧ Below w.heap.size w w'
theorem ret_str {a b : ByteArray} (h : a = b) : Ending.returned (.string a) = .returned (.string b) := by rw [h]
def SignRel (l : List UInt8) (t : ByteArray) (v : Value) : Prop := ∃ k : Nat, k ≤ 6 ∧ v = .int .i64 k ∧ Hid (pfxOf l (sgA.drop k) = t)
theorem pfx_long (s x : ByteArray) (a : Nat) (h0 : a ≤ s.size) (h : s.size < a + x.size) : Lib.hasPrefix (s.data.toList.drop a) x.data.toList = false := by
  rw [Bool.eq_false_iff]
  intro q
  unfold Lib.hasPrefix at q
  have := (List.isPrefixOf_iff_prefix.1 q).length_le
  rw [List.length_drop, ← size_list, ← size_list] at this
  omega
theorem pfx_part (s x : ByteArray) (a : Nat) (h : a + x.size ≤ s.size) : ((s.extract a (a + x.size)).toList == x.toList) = Lib.hasPrefix (s.data.toList.drop a) x.data.toList := by
  rw [Lib.extract_toList, Lib.toList_data, ← Lib.hasPrefix_of_take, List.length_drop, ← size_list, ← size_list, Nat.add_sub_cancel_left]
  rw [show decide (x.size ≤ s.size - a) = true by simp; omega, Bool.true_and]
theorem part_run2 (s : ByteArray) (a n : Nat) (m : Int) (hm : m = (a : Int) + n) (h2 : a + n ≤ s.size) (w : World) : (Instr.slice 9 (.string s) (some (.int .i64 (a : Int))) (some (.int .i64 m)) none).run Tryd.prog w = .ok (.string (s.extract a (a + n))) w := by
  subst hm
  have := part_run s a (a + n) (by omega) h2 w
  rw [Int.natCast_add] at this
  exact this
set_option maxHeartbeats 1600000 in
theorem tkSign_any (s : ByteArray) (k0 : Nat) (w : World) (hs : s.size ≤ 1048576) (h0 : k0 ≤ s.size) :
    Calls Tryd.prog 79 #[.string s, .int .i64 k0] w (SaysT w (sgOf (s.data.toList.drop k0))) := by
  obtain ⟨t, ht⟩ : ∃ t, sgOf (s.data.toList.drop k0) = t := ⟨_, rfl⟩
  have H0 : Hid (pfxOf (s.data.toList.drop k0) (sgA.drop 0) = t) := Lib.hid ht
  rw [ht]
  clear ht
  go_enter Tryd.func79, Tryd.ntmps79
  go_wp2_with (go_at_call 109; refine (tkSigns_any _).mono ?_; rintro e w1 ⟨rfl, ht, b1⟩; have HT := Lib.hid ht; have B1 := Lib.hid b1; clear ht b1)
  go_loop [9] (fun v => SignRel (s.data.toList.drop k0) t v) (fun v => 6 - (intOf v).toNat)
  case atStart => exact ⟨0, Nat.zero_le _, rfl, H0⟩
  case round =>
    obtain ⟨k, hk, rfl, HP⟩ := hrel
    by_cases hlt : k < 6
    · have hc := HT.out k hlt
      obtain ⟨z1, z2⟩ := sg_small k hlt
      obtain ⟨x, hx⟩ : ∃ x, sgA.getD k ⟨#[]⟩ = x := ⟨_, rfl⟩
      have HE := Lib.hid (pfx_at (s.data.toList.drop k0) x k hlt hx)
      rw [hx] at hc z1 z2
      clear hx
      by_cases hl : k0 + x.size ≤ s.size
      · have d1 : decide ((k0 : Int) + x.size ≤ s.size) = true := by simp; omega
        have hpr := part_run2 s k0 x.size ((k0 : Int) + x.size) rfl hl
        have hq := pfx_part s x k0 hl
        obtain ⟨u, hu⟩ : ∃ u, s.extract k0 (k0 + x.size) = u := ⟨_, rfl⟩
        rw [hu] at hpr hq
        clear hu
        rcases Bool.eq_false_or_eq_true (Lib.hasPrefix (s.data.toList.drop k0) x.data.toList) with he | he
        · have HX : Hid (x = t) := Lib.hid (by rw [← HP.out, HE.out, he]; rfl)
          rw [he] at hq
          clear he
          go_wp2_with fail
          go_ret
          exact ⟨ret_str HX.out, B1.out⟩
        · have HX : Hid (pfxOf (s.data.toList.drop k0) (sgA.drop (k + 1)) = t) := Lib.hid (by rw [← HP.out, HE.out, he]; rfl)
          rw [he] at hq
          clear he
          go_wp2_with fail
          go_round
          case rel => exact ⟨k + 1, by omega, by go_num, HX⟩
          case measure => simp [intOf]; omega
      · have d1 : decide ((k0 : Int) + x.size ≤ s.size) = false := by simp; omega
        have HX : Hid (pfxOf (s.data.toList.drop k0) (sgA.drop (k + 1)) = t) := Lib.hid (by rw [← HP.out, HE.out, pfx_long s x k0 h0 (by omega)]; rfl)
        clear hl
        go_wp2_with fail
        go_round
        case rel => exact ⟨k + 1, by omega, by go_num, HX⟩
        case measure => simp [intOf]; omega
    · obtain rfl : k = 6 := by omega
      have HX : Hid (⟨#[]⟩ = t) := Lib.hid HP.out
      go_wp2_with fail
      go_ret
      exact ⟨ret_str HX.out, B1.out⟩
/-- the table of signs is in its place -/
def Sgt (w : World) : Prop := ∃ (t : TypeId) (fr : Nat × Nat), w.heap[0]? = some (.cells (sgA.map Value.string).toArray t fr)
theorem Sgt.below {w w' : World} (h : Sgt w) (hb : Below w.heap.size w w') : Sgt w' := by
  obtain ⟨t, fr, h⟩ := h
  refine ⟨t, fr, ?_⟩
  have hlt : 0 < w.heap.size := by
    rcases Nat.lt_or_ge 0 w.heap.size with q | q
    · exact q
    · rw [Array.getElem?_eq_none q] at h; cases h
  rw [hb.block _ hlt]; exact h
theorem sg_at (k : Nat) (h : k < 6) (w : World) : (Instr.index 104 (.agg (sgA.map Value.string).toArray) (.int .i64 (k : Int))).run Tryd.prog w = .ok (.string (sgA.getD k ⟨#[]⟩)) w := by
  rcases (show k = 0 ∨ k = 1 ∨ k = 2 ∨ k = 3 ∨ k = 4 ∨ k = 5 by omega) with rfl | rfl | rfl | rfl | rfl | rfl <;> kernel_rfl
/-- the first text as a text -/
def ftS (s : ByteArray) : ByteArray := if sgOf s.data.toList = ⟨#[]⟩ then s.extract 0 (runN s.data.toList) else sgOf s.data.toList
theorem ftS_eq (s : ByteArray) : ftS s = ftL s.data.toList := by
  unfold ftS ftL
  split
  · rw [Lib.extract_eq]; rfl
  · rfl
theorem head_run (s : ByteArray) (b : Nat) (h2 : b ≤ s.size) (w : World) : (Instr.slice 9 (.string s) none (some (.int .i64 (b : Int))) none).run Tryd.prog w = .ok (.string (s.extract 0 b)) w := by
  rw [run_slice_string_h w 9 s Tryd.underlying9 .i64 (b : Int) (by omega) (by omega)]
  rfl
def FtRelW (w : World) (s : ByteArray) (N : Nat) (wr : World) : Prop := ∃ k : Nat, k ≤ s.size ∧ wr = w.iter s k ∧ Hid (k + runN (s.data.toList.drop k) = N)
theorem extract_all (s : ByteArray) : s.extract 0 s.size = s := by
  apply ByteArray.ext
  simp
theorem mk_split {c : Int} (h : mkB c = true) : letB c = true ∨ (letB c = false ∧ digB c = true) := by
  unfold mkB at h
  rcases Bool.eq_false_or_eq_true (letB c) with hl | hl
  · exact .inl hl
  · rw [hl] at h; exact .inr ⟨hl, h⟩
theorem mk_none {c : Int} (h : mkB c = false) : letB c = false ∧ digB c = false := by
  unfold mkB at h
  exact Bool.or_eq_false_iff.1 h
set_option maxHeartbeats 3200000 in
theorem firstText_any (s : ByteArray) (w : World) (hs : s.size ≤ 1048576) (hS : Hid (Sgt w)) :
    Calls Tryd.prog 40 #[.string s] w (SaysT w (ftS s)) := by
  obtain ⟨N, hN⟩ : ∃ N, runN s.data.toList = N := ⟨_, rfl⟩
  have hNs : N ≤ s.size := by have := runN_le s.data.toList; rw [← size_list] at this; omega
  have H1 : Hid (0 + runN (s.data.toList.drop 0) = N) := Lib.hid (by rw [List.drop_zero]; omega)
  obtain ⟨t, ht⟩ : ∃ t, sgOf s.data.toList = t := ⟨_, rfl⟩
  have H0 : Hid (pfxOf s.data.toList (sgA.drop 0) = t) := Lib.hid ht
  have HF : Hid (ftS s = if t = ⟨#[]⟩ then s.extract 0 N else t) := Lib.hid (by unfold ftS; rw [ht, hN])
  have HR := Lib.hid (head_run s N hNs)
  clear hN ht
  obtain ⟨ty, fr, hg⟩ := hS.out
  have HG := Lib.hid hg
  obtain ⟨arr, harr⟩ : ∃ arr, (sgA.map Value.string).toArray = arr := ⟨_, rfl⟩
  have HA := Lib.hid sg_at
  have hsz : Hid (6 = arr.size) := Lib.hid (by rw [← harr]; rfl)
  rw [harr] at HG HA
  clear harr hg
  go_enter Tryd.func40, Tryd.ntmps40
  go_wp2_with (refine wpList_load_row rfl 104 _ rfl 0 rfl ty arr fr _ HG.out Tryd.underlying104 rfl (by rw [← hsz.out]; kernel_rfl) ?_)
  go_loop [8] (fun v => SignRel s.data.toList t v) (fun v => 6 - (intOf v).toNat)
  case atStart => exact ⟨0, Nat.zero_le _, rfl, H0⟩
  case round =>
    obtain ⟨k, hk, rfl, HP⟩ := hrel
    by_cases hlt : k < 6
    · have hix := HA.out k hlt
      have hz := (sg_small k hlt).1
      obtain ⟨x, hx⟩ : ∃ x, sgA.getD k ⟨#[]⟩ = x := ⟨_, rfl⟩
      have HE := Lib.hid (pfx_at s.data.toList x k hlt hx)
      rw [hx] at hix hz
      clear hx
      rcases Bool.eq_false_or_eq_true (Lib.hasPrefix s.data.toList x.data.toList) with he | he
      · have HX : Hid (x = t) := Lib.hid (by rw [← HP.out, HE.out, he]; rfl)
        have HH := Lib.hid he
        have HN : Hid (t ≠ ⟨#[]⟩) := Lib.hid (by rw [← HX.out]; intro q; rw [q] at hz; exact absurd hz (by decide))
        clear he
        go_wp2_with (go_at_call 77; refine (Tryd.strings_HasPrefix s x _).mono ?_; rw [HH.out]; rintro e w' ⟨rfl, rfl⟩)
        go_ret
        exact ⟨ret_str (by rw [HF.out, if_neg HN.out]; exact HX.out), Below.refl _ _⟩
      · have HX : Hid (pfxOf s.data.toList (sgA.drop (k + 1)) = t) := Lib.hid (by rw [← HP.out, HE.out, he]; rfl)
        have HH := Lib.hid he
        clear he
        go_wp2_with (go_at_call 77; refine (Tryd.strings_HasPrefix s x _).mono ?_; rw [HH.out]; rintro e w' ⟨rfl, rfl⟩)
        go_round
        case rel => exact ⟨k + 1, by omega, by go_num, HX⟩
        case measure => simp [intOf]; omega
    · obtain rfl : k = 6 := by omega
      have HF2 : Hid (ftS s = s.extract 0 N) := Lib.hid (by rw [HF.out]; exact if_pos HP.out.symm)
      go_wp2_with fail
      go_loopw [] (fun wr => FtRelW w s N wr) (fun wr => s.size - wr.iterPos w.heap.size)
      case atStart => exact ⟨0, Nat.zero_le _, rfl, H1⟩
      case round =>
        obtain ⟨k, hk, hw, HQ⟩ := hrel
        subst hw
        by_cases hlt : k < s.size
        · obtain ⟨y, hy⟩ : ∃ y : Nat, (s[k]'hlt).toNat = y := ⟨_, rfl⟩
          have HY := Lib.hid hy
          rcases Nat.lt_or_ge y 128 with ha | ha
          · have hnx := fun ty => run_next_ascii (P := Tryd.prog) w s k ty hlt (by rw [hy]; exact ha)
            rw [hy] at hnx
            clear hy
            have HL := Lib.hid (fun w => isLetter_any (y : Int) w)
            have HD := Lib.hid (fun w => isDigit_any (y : Int) w)
            rcases Bool.eq_false_or_eq_true (mkB (y : Int)) with hm | hm
            · have HX := Lib.hid (run_more s k hlt (by rw [HY.out]; exact hm))
              rcases mk_split hm with hl | ⟨hl, hd⟩
              · rw [hl] at HL
                clear hl hm
                go_wp2_with (go_at_call 74; refine (HL.out _).mono ?_; rintro e w' ⟨rfl, rfl⟩)
                go_roundw
                case rel => exact ⟨k + 1, by omega, rfl, by unfold Hid; have := HQ.out; have := HX.out; omega⟩
                case measure => simp; omega
              · rw [hl] at HL
                rw [hd] at HD
                clear hl hd hm
                go_wp2_with (first | (go_at_call 74; refine (HL.out _).mono ?_; rintro e w' ⟨rfl, rfl⟩) | (go_at_call 72; refine (HD.out _).mono ?_; rintro e w' ⟨rfl, rfl⟩))
                go_roundw
                case rel => exact ⟨k + 1, by omega, rfl, by unfold Hid; have := HQ.out; have := HX.out; omega⟩
                case measure => simp; omega
            · obtain ⟨hl, hd⟩ := mk_none hm
              rw [hl] at HL
              rw [hd] at HD
              obtain rfl : k = N := by have := HQ.out; have := run_stop s k hlt (by rw [HY.out]; exact hm); omega
              have hrr := HR.out
              clear hl hd hm
              go_wp2_with (first | (go_at_call 74; refine (HL.out _).mono ?_; rintro e w' ⟨rfl, rfl⟩) | (go_at_call 72; refine (HD.out _).mono ?_; rintro e w' ⟨rfl, rfl⟩))
              go_ret
              exact ⟨ret_str HF2.out.symm, below_iter _ _ _⟩
          · obtain ⟨r0, h0⟩ : ∃ r0 : Nat, (Utf8.decode s k).1 = r0 := ⟨_, rfl⟩
            obtain ⟨wd, h1⟩ : ∃ wd : Nat, (Utf8.decode s k).2 = wd := ⟨_, rfl⟩
            have hnx := fun ty => run_next_any (P := Tryd.prog) w s k ty hlt
            have hh := (decode_high s k hlt (by rw [hy]; exact ha)).1
            rw [h0] at hh
            rw [h0, h1] at hnx
            have HL := Lib.hid (fun w => isLetter_any (r0 : Int) w)
            have HD := Lib.hid (fun w => isDigit_any (r0 : Int) w)
            have hl : letB (r0 : Int) = false := by unfold letB; simp; omega
            have hd : digB (r0 : Int) = false := by unfold digB; simp; omega
            have hm : mkB (y : Int) = false := by unfold mkB letB digB; simp; omega
            rw [hl] at HL
            rw [hd] at HD
            obtain rfl : k = N := by have := HQ.out; have := run_stop s k hlt (by rw [hy]; exact hm); omega
            have hrr := HR.out
            clear hl hd hm hy h0 h1 hh
            go_wp2_with (first | (go_at_call 74; refine (HL.out _).mono ?_; rintro e w' ⟨rfl, rfl⟩) | (go_at_call 72; refine (HD.out _).mono ?_; rintro e w' ⟨rfl, rfl⟩))
            go_ret
            exact ⟨ret_str HF2.out.symm, below_iter _ _ _⟩
        · have hnx := fun ty => run_next_end (P := Tryd.prog) w s k ty hlt
          obtain rfl : s.size = N := by have := HQ.out; have := run_end s k (by omega); omega
          go_wp2_with fail
          go_ret
          exact ⟨ret_str (by rw [HF2.out, extract_all]), below_iter _ _ _⟩
end Go.Proofs.YtdmcgjohpnojkaaDoor
