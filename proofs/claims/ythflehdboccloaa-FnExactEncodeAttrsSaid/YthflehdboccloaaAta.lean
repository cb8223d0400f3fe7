/- Valid attributes: contracts of both sides. -/
import Derived.Test.YthflehdboccloaaAtm
import Derived.Test.YthflehdboccloaaIsi
import Derived.WalkMore
import Derived.WalkSmall
import Derived.Deep.RegionWith
import Derived.Deep.QuietTactic
import Derived.BigQuiet
import Derived.Lib.Strings
namespace Go.Proofs.Ythflehdboccloaa
open Go.RowKit
set_option linter.unusedVariables false
set_option maxRecDepth 100000

set_option maxHeartbeats 1600000 in
theorem isAttr_any (x : At) (w : World) (hs : x.s.size ≤ 9223372036854775807) : Calls Try.prog 50 #[atV x] w (SaysB w (okA x)) := by
  have HI := Lib.hid (fun w => isIn_any x.t 0 32767 w)
  have HX : Hid (okA x = (inB x.t 0 32767 && decide ((x.s.size : Int) ≤ if x.n then 0 else 1000))) := Lib.hid (by
    unfold okA; congr 1; cases x.n <;> simp <;> omega)
  generalize okA x = B at HX ⊢
  generalize inB x.t 0 32767 = b at HX HI
  obtain ⟨xd, xt, xn, s⟩ := x
  unfold atV
  simp only at HI HX ⊢ hs
  cases b <;> cases xn
  all_goals
    go_enter Try.func50, Try.ntmps50
    go_wp2_with (go_at_call 49; refine (HI.out _).mono ?_; rintro e w' ⟨rfl, rfl⟩)
    go_ret
    exact ⟨ret_bool (by rw [HX.out]; simp), one_new2 _ _⟩
theorem atr_is (w : World) (x : At) (t : TypeId) : AtrIs (w.alloc (.cells #[.int .i64 x.d, .int .i64 x.t, .bool x.n, .string x.s] t)) w.heap.size x := by
  refine ⟨⟨?_, ?_, ?_, ?_⟩, ?_⟩ <;> simp [go_sem]
/-- the state of the walk over the attributes -/
def AaRel (w : World) (l : List At) (n : Nat) (B : Bool) (m i : Value) (wr : World) : Prop := ∃ (k : Nat) (M : Int), k ≤ n ∧ i = .int .i64 k ∧ m = .int .i64 M ∧ BX w wr ∧ Hid (gdA M (l.drop k) = B) ∧ Hid (M = mA l k) ∧ 1 ≤ M ∧ M ≤ 8
theorem aa_next {l : List At} {k : Nat} {M : Int} {B : Bool} (hM : M = mA l k) (hk : k < l.length) (HP : gdA M (l.drop k) = B) :
    B = (inB (gA l k).d 1 M && okA (gA l k) && gdA (mA l (k + 1)) (l.drop (k + 1))) := by
  rw [← HP, hM, gdA_at l k hk]
theorem mA_succ (l : List At) (k : Nat) : mA l (k + 1) = nxA (gA l k) := by unfold mA; simp
theorem inB_of {a b c : Int} (h : inB a b c = true) : b ≤ a ∧ a ≤ c := by unfold inB at h; simpa using h
set_option maxHeartbeats 6400000 in
theorem areAttrs_any (ad : Option Addr) (n cap : Nat) (l : List At) (w : World) (HI : Hid (InX w ad n (atCs l))) (hn : Hid (l.length = n)) (HM : Hid (SzM l)) (hm : n ≤ 1048576) :
    Calls Try.prog 17 #[.slice ad n cap] w (SaysB w (lsA l)) := by
  by_cases h40 : 400 < n
  · have HX : Hid (lsA l = false) := Lib.hid (by unfold lsA; rw [hn.out]; simp; intro _; omega)
    have d : decide ((400 : Int) < (n : Int)) = true := by simp; omega
    generalize lsA l = R at HX ⊢
    clear h40
    go_enter Try.func17, Try.ntmps17
    go_wp2_with fail
    go_ret
    exact ⟨ret_bool HX.out.symm, Below.refl _ _⟩
  obtain ⟨B, hB⟩ : ∃ B, gdA 1 l = B := ⟨_, rfl⟩
  have H0 : Hid (gdA 1 (l.drop 0) = B) := Lib.hid hB
  have HX : Hid (lsA l = B) := Lib.hid (by unfold lsA; rw [hB, hn.out]; simp; intro _; omega)
  have d : decide ((400 : Int) < (n : Int)) = false := by simp; omega
  generalize lsA l = R at HX ⊢
  clear hB
  go_enter Try.func17, Try.ntmps17
  go_wp2_with fail
  go_loopw [3, 11] (fun m i wr => AaRel w l n B m i wr) (fun _ i _ => n - (intOf i).toNat)
  case atStart => exact ⟨0, 1, Nat.zero_le _, rfl, rfl, BX.refl _, H0, Lib.hid rfl, by omega, by omega⟩
  case round =>
    obtain ⟨k, M, hk, rfl, rfl, hb, HP, HM2, hM1, hM8⟩ := hrel
    have X1 := Lib.hid hb
    by_cases hlt : k < n
    · obtain ⟨g, rfl, ht, hg⟩ := HI.out (by omega)
      obtain ⟨x, hx⟩ : ∃ x, gA l k = x := ⟨_, rfl⟩
      have hl1 : k < l.length := by rw [hn.out]; exact hlt
      obtain ⟨a0, a1, a2, a3⟩ := (ht.below hb hg).atr k hl1 x hx
      have HE := Lib.hid (aa_next HM2.out hl1 HP.out)
      have HS := Lib.hid (mA_succ l k)
      have hsz := HM.out k hl1
      rw [hx] at HE HS hsz
      have HG := Lib.hid (fun w => isAttr_any x w hsz)
      have HN := Lib.hid (fun w => isIn_any x.d 1 M w)
      have HB1 := Lib.hid (fun h => inB_of (a := x.d) (b := 1) (c := M) h)
      generalize inB x.d 1 M = b at HN HE HB1
      generalize okA x = o at HG HE
      cases b
      · have HZ : Hid (B = false) := Lib.hid (by rw [HE.out]; rfl)
        obtain ⟨xd, xt, xn, s⟩ := x
        unfold atV at HG
        simp only at a0 a1 a2 a3 HG HN
        clear hb hx hl1 ht HE HP HS HB1
        go_wp2_with (go_at_call 49; refine (HN.out _).mono ?_; rintro e w' ⟨rfl, rfl⟩)
        go_ret
        exact ⟨ret_bool (by rw [HX.out, HZ.out]), X1.out.alloc _⟩
      cases o
      · have HZ : Hid (B = false) := Lib.hid (by rw [HE.out]; rfl)
        obtain ⟨xd, xt, xn, s⟩ := x
        unfold atV at HG
        simp only at a0 a1 a2 a3 HG HN
        clear hb hx hl1 ht HE HP HS HB1
        go_wp2_with (first | (go_at_call 49; refine (HN.out _).mono ?_; rintro e w' ⟨rfl, rfl⟩) | (go_at_call 50; refine (HG.out _).mono ?_; rintro e w' ⟨rfl, b⟩; have X2 := Lib.hid ((X1.out.alloc _).call b); clear b))
        go_ret
        exact ⟨ret_bool (by rw [HX.out, HZ.out]), X2.out⟩
      · have HZ : Hid (gdA (mA l (k + 1)) (l.drop (k + 1)) = B) := Lib.hid (by rw [HE.out]; rfl)
        obtain ⟨h1, h2⟩ := HB1.out rfl
        obtain ⟨xd, xt, xn, s⟩ := x
        unfold atV at HG
        simp only at a0 a1 a2 a3 HG HN h1 h2
        clear hb hx hl1 ht HE HP HB1
        cases xn
        · have HD : Hid (xd = mA l (k + 1)) := Lib.hid (by rw [HS.out]; rfl)
          have h8 : xd ≤ 8 := by omega
          go_wp2_with (first | (go_at_call 49; refine (HN.out _).mono ?_; rintro e w' ⟨rfl, rfl⟩) | (go_at_call 50; refine (HG.out _).mono ?_; rintro e w' ⟨rfl, b⟩; obtain ⟨⟨c0, c1, c2, c3⟩, cl⟩ := (atr_is wr ⟨xd, xt, false, s⟩ 56).on b; have X2 := Lib.hid ((X1.out.alloc _).call b); clear b))
          go_roundw
          case rel => exact ⟨k + 1, xd, by omega, by go_num, rfl, X2.out, by rw [HD.out]; exact HZ, HD, h1, h8⟩
          case measure => simp [intOf]; omega
        · by_cases h7 : xd + 1 ≤ 8
          · have HD : Hid (xd + 1 = mA l (k + 1)) := Lib.hid (by rw [HS.out]; unfold nxA; simp; omega)
            go_wp2_with (first | (go_at_call 49; refine (HN.out _).mono ?_; rintro e w' ⟨rfl, rfl⟩) | (go_at_call 50; refine (HG.out _).mono ?_; rintro e w' ⟨rfl, b⟩; obtain ⟨⟨c0, c1, c2, c3⟩, cl⟩ := (atr_is wr ⟨xd, xt, true, s⟩ 56).on b; have X2 := Lib.hid ((X1.out.alloc _).call b); clear b))
            go_roundw
            case rel => exact ⟨k + 1, xd + 1, by omega, by go_num, by go_num, X2.out, by rw [HD.out]; exact HZ, HD, by omega, h7⟩
            case measure => simp [intOf]; omega
          · have HD : Hid ((8 : Int) = mA l (k + 1)) := Lib.hid (by rw [HS.out]; unfold nxA; simp; omega)
            go_wp2_with (first | (go_at_call 49; refine (HN.out _).mono ?_; rintro e w' ⟨rfl, rfl⟩) | (go_at_call 50; refine (HG.out _).mono ?_; rintro e w' ⟨rfl, b⟩; obtain ⟨⟨c0, c1, c2, c3⟩, cl⟩ := (atr_is wr ⟨xd, xt, true, s⟩ 56).on b; have X2 := Lib.hid ((X1.out.alloc _).call b); clear b))
            go_roundw
            case rel => exact ⟨k + 1, 8, by omega, by go_num, by go_num, X2.out, by rw [HD.out]; exact HZ, HD, by omega, by omega⟩
            case measure => simp [intOf]; omega
    · have HZ : Hid (B = true) := Lib.hid (by rw [← HP.out, gdA_end l k (by rw [hn.out]; omega)])
      clear hb
      go_wp2_with fail
      go_ret
      exact ⟨ret_bool (by rw [HX.out, HZ.out]), X1.out⟩
/-- the walk of the model -/
def TgRel (w : World) (l : List At) (n : Nat) (B : Bool) (i : Value) (wr : World) : Prop := ∃ k : Nat, k ≤ n ∧ i = .int .i64 k ∧ BX w wr ∧ Hid (gdA (mA l k) (l.drop k) = B) ∧ Hid (0 < k → 1 ≤ (gA l (k - 1)).d ∧ (gA l (k - 1)).d ≤ 8)
def lstI (a b : Int) : Int := if a < b then a else b
theorem size_nil {s : ByteArray} (h : s.size = 0) : s = ⟨#[]⟩ := by
  obtain ⟨d⟩ := s
  have : d = #[] := Array.eq_empty_of_size_eq_zero h
  rw [this]
theorem not_empty {s : ByteArray} (h : ¬ s = ⟨#[]⟩) : s.toList.isEmpty = false := by
  have hs : s.size ≠ 0 := fun q => h (size_nil q)
  have e : s.toList.length = s.size := by rw [Lib.toList_data]; rfl
  cases hl : s.toList with
  | nil => rw [hl] at e; exact absurd e.symm hs
  | cons a r => rfl
theorem l1Least_any (a b : Int) (w : World) : Calls Try.prog 75 #[.int .i64 a, .int .i64 b] w fun e w' => e = .returned (.int .i64 (lstI a b)) ∧ w = w' := by
  by_cases h : a < b
  · have H : Hid (lstI a b = a) := Lib.hid (if_pos h)
    have d := is_lt h
    go_enter Try.func75, Try.ntmps75
    go_wp2
    go_ret
    exact ⟨ret_int H.out.symm, rfl⟩
  · have H : Hid (lstI a b = b) := Lib.hid (if_neg h)
    have d := not_lt (Int.not_lt.1 h)
    go_enter Try.func75, Try.ntmps75
    go_wp2
    go_ret
    exact ⟨ret_int H.out.symm, rfl⟩
theorem quiet_same {f : FuncId} {args : Array Value} {v : Value} (h : ∀ w, Calls Try.prog f args w fun e w' => e = .returned v ∧ w = w') : ∀ (w : World) (n : Nat), Calls Try.prog f args (w.drewN n) fun e w'' => e = .returned v ∧ ∃ m, w'' = w.drewN m :=
  fun w n => Calls.quiet_of_same ((h _).mono fun _ _ q => ⟨q.1, q.2.symm⟩)
theorem lst_one (l : List At) : lstI 1 8 = mA l 0 := rfl
theorem lst_same {l : List At} {j : Nat} {d : Int} {s : ByteArray} {t : Int} (h8 : d ≤ 8) (hx : gA l j = ⟨d, t, false, s⟩) : lstI d 8 = mA l (j + 1) := by
  rw [mA_succ, hx]; unfold lstI nxA; simp only [Bool.false_eq_true, if_false]; split <;> omega
theorem lst_more {l : List At} {j : Nat} {d : Int} {s : ByteArray} {t : Int} (h8 : d ≤ 8) (hx : gA l j = ⟨d, t, true, s⟩) : lstI (d + 1) 8 = mA l (j + 1) := by
  rw [mA_succ, hx]; unfold lstI nxA; simp only [if_true]; split <;> split <;> omega
theorem okA_ways (x : At) : okA x = (inB x.t 0 32767 && (decide (x.s.size ≤ 1000) && !(x.n && !decide (x.s.size = 0)))) := by
  unfold okA; congr 1; cases x.n; simp; rw [Bool.eq_iff_iff]; simp only [if_true, Bool.true_and, Bool.and_eq_true, decide_eq_true_eq, Bool.not_not]; omega
set_option maxHeartbeats 12800000 in
theorem tvGood_any (ad : Option Addr) (n cap : Nat) (l : List At) (w : World) (HI : Hid (InX w ad n (atCs l))) (hn : Hid (l.length = n)) (HM : Hid (SzM l)) (hm : n ≤ 1048576) :
    Calls Try.prog 47 #[.slice ad n cap] w (SaysB w (lsA l)) := by
  obtain ⟨B, hB⟩ : ∃ B, gdA 1 l = B := ⟨_, rfl⟩
  have H0 : Hid (gdA (mA l 0) (l.drop 0) = B) := Lib.hid hB
  have HX' : Hid (lsA l = (B && decide ((n : Int) ≤ 400))) := Lib.hid (by unfold lsA; rw [hB, hn.out]; congr 1; rw [Bool.eq_iff_iff]; simp; omega)
  have HX : Hid (B = false → lsA l = false) := Lib.hid (fun h => by rw [HX'.out, h]; rfl)
  generalize lsA l = R at HX' HX ⊢
  clear hB
  go_enter Try.func47, Try.ntmps47
  go_wp2_with fail
  go_loopw [8] (fun i wr => TgRel w l n B i wr) (fun i _ => n - (intOf i).toNat)
  case atStart => exact ⟨0, Nat.zero_le _, rfl, BX.refl _, H0, Lib.hid (fun h => absurd h (by omega))⟩
  case round =>
    obtain ⟨k, hk, rfl, hb, HP, HD⟩ := hrel
    have X1 := Lib.hid hb
    by_cases hlt : k < n
    · obtain ⟨g, rfl, ht, hg⟩ := HI.out (by omega)
      obtain ⟨x, hx⟩ : ∃ x, gA l k = x := ⟨_, rfl⟩
      have hl1 : k < l.length := by rw [hn.out]; exact hlt
      obtain ⟨a0, a1, a2, a3⟩ := (ht.below hb hg).atr k hl1 x hx
      have HE := Lib.hid (aa_next rfl hl1 HP.out)
      have HO := Lib.hid (okA_ways x)
      have hsz := HM.out k hl1
      have HX0 := Lib.hid hx
      rw [hx] at HE hsz
      have HT := Lib.hid (quiet_same (l1In_any x.t 0 32767))
      obtain ⟨xd, xt, xn, s⟩ := x
      simp only at a0 a1 a2 a3 HT HO hsz
      generalize inB xt 0 32767 = t at HT HO
      rcases Nat.eq_zero_or_pos k with hk0 | hk0
      · subst hk0
        have HL := Lib.hid (quiet_same (l1Least_any 1 8))
        have HM8 : Hid (mA l 0 ≤ 8) := Lib.hid (by unfold mA; simp)
        rw [lst_one l] at HL
        generalize mA l 0 = M at HL HE HM8
        have HN := Lib.hid (quiet_same (l1In_any xd 1 M))
        have HB1 := Lib.hid (fun h => inB_of (a := xd) (b := 1) (c := M) h)
        simp only at HE
        generalize inB xd 1 M = b at HN HE HB1
        clear hb hx hl1 ht HD
        go_wp2_with fail
        have AI := Lib.hid (atr_is wr ⟨xd, xt, xn, s⟩ 56)
        have X2 := Lib.hid (X1.out.alloc (Obj.cells #[.int .i64 xd, .int .i64 xt, .bool xn, .string s] 56))
        simp only at AI
        generalize wr.alloc (Obj.cells #[.int .i64 xd, .int .i64 xt, .bool xn, .string s] 56) = wq at AI X2 ⊢
        obtain ⟨⟨c0, c1, c2, c3⟩, cl⟩ := AI.out
        simp only at c0 c1 c2 c3
        clear AI a0 a1 a2 a3
        cases b
        · have HZ : Hid (B = false) := Lib.hid (by rw [HE.out, HO.out]; rfl)
          clear HE HO HP
          go_quiet (first | (go_at_call 75; (with_reducible exact HL.out _ _)) | (go_at_call 67; (with_reducible exact HN.out _ _)) | (go_at_call 67; (with_reducible exact HT.out _ _)))
          go_wp2_with fail
          go_ret
          exact ⟨ret_bool (by rw [HX.out HZ.out]), (X2.out.call (below_drewN (Below.refl _ _) _))⟩
        cases t
        · have HZ : Hid (B = false) := Lib.hid (by rw [HE.out, HO.out]; simp)
          clear HE HO HP
          go_quiet (first | (go_at_call 75; (with_reducible exact HL.out _ _)) | (go_at_call 67; (with_reducible exact HN.out _ _)) | (go_at_call 67; (with_reducible exact HT.out _ _)))
          go_wp2_with fail
          go_ret
          exact ⟨ret_bool (by rw [HX.out HZ.out]), (X2.out.call (below_drewN (Below.refl _ _) _))⟩
        by_cases h1000 : 1000 < s.size
        · have HZ : Hid (B = false) := Lib.hid (by rw [HE.out, HO.out]; cases xn <;> simp <;> omega)
          have d1 : decide ((1000 : Int) < (s.size : Int)) = true := is_lt (by omega)
          clear HE HO HP h1000
          go_quiet (first | (go_at_call 75; (with_reducible exact HL.out _ _)) | (go_at_call 67; (with_reducible exact HN.out _ _)) | (go_at_call 67; (with_reducible exact HT.out _ _)))
          go_wp2_with fail
          go_ret
          exact ⟨ret_bool (by rw [HX.out HZ.out]), (X2.out.call (below_drewN (Below.refl _ _) _))⟩
        have d1 : decide ((1000 : Int) < (s.size : Int)) = false := not_lt (by omega)
        have HY : Hid (0 < 0 + 1 → 1 ≤ (gA l (0 + 1 - 1)).d ∧ (gA l (0 + 1 - 1)).d ≤ 8) := Lib.hid (fun _ => by rw [show 0 + 1 - 1 = 0 by omega, HX0.out]; exact ⟨(HB1.out rfl).1, Int.le_trans (HB1.out rfl).2 HM8.out⟩)
        cases xn
        · have HZ : Hid (gdA (mA l (0 + 1)) (l.drop (0 + 1)) = B) := Lib.hid (by rw [HE.out, HO.out]; simp; intro _; omega)
          clear HE HO HP
          go_quiet (first | (go_at_call 75; (with_reducible exact HL.out _ _)) | (go_at_call 67; (with_reducible exact HN.out _ _)) | (go_at_call 67; (with_reducible exact HT.out _ _)))
          go_wp2_with fail
          go_roundw
          case rel => exact ⟨0 + 1, by omega, by go_num, X2.out.call (below_drewN (Below.refl _ _) _), HZ, HY⟩
          case measure => simp [intOf]; omega
        · by_cases h0 : s = ⟨#[]⟩
          · have HZ : Hid (gdA (mA l (0 + 1)) (l.drop (0 + 1)) = B) := Lib.hid (by rw [HE.out, HO.out, h0]; rfl)
            have d2 := Lib.hid h0
            subst h0
            clear HE HO HP
            go_quiet (first | (go_at_call 75; (with_reducible exact HL.out _ _)) | (go_at_call 67; (with_reducible exact HN.out _ _)) | (go_at_call 67; (with_reducible exact HT.out _ _)))
            go_wp2_with fail
            go_roundw
            case rel => exact ⟨0 + 1, by omega, by go_num, X2.out.call (below_drewN (Below.refl _ _) _), HZ, HY⟩
            case measure => simp [intOf]; omega
          · have HZ : Hid (B = false) := Lib.hid (by rw [HE.out, HO.out, decide_eq_false (fun q => h0 (size_nil q))]; simp)
            have d2 := not_empty h0
            clear HE HO HP
            go_quiet (first | (go_at_call 75; (with_reducible exact HL.out _ _)) | (go_at_call 67; (with_reducible exact HN.out _ _)) | (go_at_call 67; (with_reducible exact HT.out _ _)))
            go_wp2_with fail
            go_ret
            exact ⟨ret_bool (by rw [HX.out HZ.out]), (X2.out.call (below_drewN (Below.refl _ _) _))⟩

      · obtain ⟨j, rfl⟩ : ∃ j, k = j + 1 := ⟨k - 1, by omega⟩
        obtain ⟨y, hy⟩ : ∃ y, gA l j = y := ⟨_, rfl⟩
        obtain ⟨b0, b1, b2, b3⟩ := (ht.below hb hg).atr j (by omega) y hy
        have hd := HD.out (by omega)
        rw [show j + 1 - 1 = j by omega, hy] at hd
        have HM8 : Hid (mA l (j + 1) ≤ 8) := Lib.hid (by rw [mA_succ, hy]; exact nxA_8 hd.2)
        obtain ⟨yd, yt, yn, ys⟩ := y
        simp only at b0 b1 b2 b3 hd
        obtain ⟨hd1, hd8⟩ := hd
        have hgr : g < wr.heap.size := Nat.lt_of_lt_of_le hg (BX.size hb)
        have b0' := fun o => ((bcell (one_new2 wr o)).1 _ (j * 4) hgr).trans b0
        have b2' := fun o => ((bcell (one_new2 wr o)).1 _ (j * 4 + 2) hgr).trans b2
        cases yn
        · have HL := Lib.hid (quiet_same (l1Least_any yd 8))
          rw [lst_same hd8 hy] at HL
          generalize mA l (j + 1) = M at HL HE HM8
          have HN := Lib.hid (quiet_same (l1In_any xd 1 M))
          have HB1 := Lib.hid (fun h => inB_of (a := xd) (b := 1) (c := M) h)
          simp only at HE
          generalize inB xd 1 M = b at HN HE HB1
          clear hb hx hl1 ht HD hy
          go_wp2_with fail
          have AI := Lib.hid (atr_is wr ⟨xd, xt, xn, s⟩ 56)
          have X2 := Lib.hid (X1.out.alloc (Obj.cells #[.int .i64 xd, .int .i64 xt, .bool xn, .string s] 56))
          simp only at AI
          generalize wr.alloc (Obj.cells #[.int .i64 xd, .int .i64 xt, .bool xn, .string s] 56) = wq at AI X2 ⊢
          obtain ⟨⟨c0, c1, c2, c3⟩, cl⟩ := AI.out
          simp only at c0 c1 c2 c3
          clear AI a0 a1 a2 a3
          cases b
          · have HZ : Hid (B = false) := Lib.hid (by rw [HE.out, HO.out]; rfl)
            clear HE HO HP
            go_quiet (first | (go_at_call 75; (with_reducible exact HL.out _ _)) | (go_at_call 67; (with_reducible exact HN.out _ _)) | (go_at_call 67; (with_reducible exact HT.out _ _)))
            go_wp2_with fail
            go_ret
            exact ⟨ret_bool (by rw [HX.out HZ.out]), (X2.out.call (below_drewN (Below.refl _ _) _))⟩
          cases t
          · have HZ : Hid (B = false) := Lib.hid (by rw [HE.out, HO.out]; simp)
            clear HE HO HP
            go_quiet (first | (go_at_call 75; (with_reducible exact HL.out _ _)) | (go_at_call 67; (with_reducible exact HN.out _ _)) | (go_at_call 67; (with_reducible exact HT.out _ _)))
            go_wp2_with fail
            go_ret
            exact ⟨ret_bool (by rw [HX.out HZ.out]), (X2.out.call (below_drewN (Below.refl _ _) _))⟩
          by_cases h1000 : 1000 < s.size
          · have HZ : Hid (B = false) := Lib.hid (by rw [HE.out, HO.out]; cases xn <;> simp <;> omega)
            have d1 : decide ((1000 : Int) < (s.size : Int)) = true := is_lt (by omega)
            clear HE HO HP h1000
            go_quiet (first | (go_at_call 75; (with_reducible exact HL.out _ _)) | (go_at_call 67; (with_reducible exact HN.out _ _)) | (go_at_call 67; (with_reducible exact HT.out _ _)))
            go_wp2_with fail
            go_ret
            exact ⟨ret_bool (by rw [HX.out HZ.out]), (X2.out.call (below_drewN (Below.refl _ _) _))⟩
          have d1 : decide ((1000 : Int) < (s.size : Int)) = false := not_lt (by omega)
          have HY : Hid (0 < j + 1 + 1 → 1 ≤ (gA l (j + 1 + 1 - 1)).d ∧ (gA l (j + 1 + 1 - 1)).d ≤ 8) := Lib.hid (fun _ => by rw [show j + 1 + 1 - 1 = j + 1 by omega, HX0.out]; exact ⟨(HB1.out rfl).1, Int.le_trans (HB1.out rfl).2 HM8.out⟩)
          cases xn
          · have HZ : Hid (gdA (mA l (j + 1 + 1)) (l.drop (j + 1 + 1)) = B) := Lib.hid (by rw [HE.out, HO.out]; simp; intro _; omega)
            clear HE HO HP
            go_quiet (first | (go_at_call 75; (with_reducible exact HL.out _ _)) | (go_at_call 67; (with_reducible exact HN.out _ _)) | (go_at_call 67; (with_reducible exact HT.out _ _)))
            go_wp2_with fail
            go_roundw
            case rel => exact ⟨j + 1 + 1, by omega, by go_num, X2.out.call (below_drewN (Below.refl _ _) _), HZ, HY⟩
            case measure => simp [intOf]; omega
          · by_cases h0 : s = ⟨#[]⟩
            · have HZ : Hid (gdA (mA l (j + 1 + 1)) (l.drop (j + 1 + 1)) = B) := Lib.hid (by rw [HE.out, HO.out, h0]; rfl)
              have d2 := Lib.hid h0
              subst h0
              clear HE HO HP
              go_quiet (first | (go_at_call 75; (with_reducible exact HL.out _ _)) | (go_at_call 67; (with_reducible exact HN.out _ _)) | (go_at_call 67; (with_reducible exact HT.out _ _)))
              go_wp2_with fail
              go_roundw
              case rel => exact ⟨j + 1 + 1, by omega, by go_num, X2.out.call (below_drewN (Below.refl _ _) _), HZ, HY⟩
              case measure => simp [intOf]; omega
            · have HZ : Hid (B = false) := Lib.hid (by rw [HE.out, HO.out, decide_eq_false (fun q => h0 (size_nil q))]; simp)
              have d2 := not_empty h0
              clear HE HO HP
              go_quiet (first | (go_at_call 75; (with_reducible exact HL.out _ _)) | (go_at_call 67; (with_reducible exact HN.out _ _)) | (go_at_call 67; (with_reducible exact HT.out _ _)))
              go_wp2_with fail
              go_ret
              exact ⟨ret_bool (by rw [HX.out HZ.out]), (X2.out.call (below_drewN (Below.refl _ _) _))⟩
        · have HL := Lib.hid (quiet_same (l1Least_any (yd + 1) 8))
          rw [lst_more hd8 hy] at HL
          generalize mA l (j + 1) = M at HL HE HM8
          have HN := Lib.hid (quiet_same (l1In_any xd 1 M))
          have HB1 := Lib.hid (fun h => inB_of (a := xd) (b := 1) (c := M) h)
          simp only at HE
          generalize inB xd 1 M = b at HN HE HB1
          clear hb hx hl1 ht HD hy
          go_wp2_with fail
          have AI := Lib.hid (atr_is wr ⟨xd, xt, xn, s⟩ 56)
          have X2 := Lib.hid (X1.out.alloc (Obj.cells #[.int .i64 xd, .int .i64 xt, .bool xn, .string s] 56))
          simp only at AI
          generalize wr.alloc (Obj.cells #[.int .i64 xd, .int .i64 xt, .bool xn, .string s] 56) = wq at AI X2 ⊢
          obtain ⟨⟨c0, c1, c2, c3⟩, cl⟩ := AI.out
          simp only at c0 c1 c2 c3
          clear AI a0 a1 a2 a3
          cases b
          · have HZ : Hid (B = false) := Lib.hid (by rw [HE.out, HO.out]; rfl)
            clear HE HO HP
            go_quiet (first | (go_at_call 75; (with_reducible exact HL.out _ _)) | (go_at_call 67; (with_reducible exact HN.out _ _)) | (go_at_call 67; (with_reducible exact HT.out _ _)))
            go_wp2_with fail
            go_ret
            exact ⟨ret_bool (by rw [HX.out HZ.out]), (X2.out.call (below_drewN (Below.refl _ _) _))⟩
          cases t
          · have HZ : Hid (B = false) := Lib.hid (by rw [HE.out, HO.out]; simp)
            clear HE HO HP
            go_quiet (first | (go_at_call 75; (with_reducible exact HL.out _ _)) | (go_at_call 67; (with_reducible exact HN.out _ _)) | (go_at_call 67; (with_reducible exact HT.out _ _)))
            go_wp2_with fail
            go_ret
            exact ⟨ret_bool (by rw [HX.out HZ.out]), (X2.out.call (below_drewN (Below.refl _ _) _))⟩
          by_cases h1000 : 1000 < s.size
          · have HZ : Hid (B = false) := Lib.hid (by rw [HE.out, HO.out]; cases xn <;> simp <;> omega)
            have d1 : decide ((1000 : Int) < (s.size : Int)) = true := is_lt (by omega)
            clear HE HO HP h1000
            go_quiet (first | (go_at_call 75; (with_reducible exact HL.out _ _)) | (go_at_call 67; (with_reducible exact HN.out _ _)) | (go_at_call 67; (with_reducible exact HT.out _ _)))
            go_wp2_with fail
            go_ret
            exact ⟨ret_bool (by rw [HX.out HZ.out]), (X2.out.call (below_drewN (Below.refl _ _) _))⟩
          have d1 : decide ((1000 : Int) < (s.size : Int)) = false := not_lt (by omega)
          have HY : Hid (0 < j + 1 + 1 → 1 ≤ (gA l (j + 1 + 1 - 1)).d ∧ (gA l (j + 1 + 1 - 1)).d ≤ 8) := Lib.hid (fun _ => by rw [show j + 1 + 1 - 1 = j + 1 by omega, HX0.out]; exact ⟨(HB1.out rfl).1, Int.le_trans (HB1.out rfl).2 HM8.out⟩)
          cases xn
          · have HZ : Hid (gdA (mA l (j + 1 + 1)) (l.drop (j + 1 + 1)) = B) := Lib.hid (by rw [HE.out, HO.out]; simp; intro _; omega)
            clear HE HO HP
            go_quiet (first | (go_at_call 75; (with_reducible exact HL.out _ _)) | (go_at_call 67; (with_reducible exact HN.out _ _)) | (go_at_call 67; (with_reducible exact HT.out _ _)))
            go_wp2_with fail
            go_roundw
            case rel => exact ⟨j + 1 + 1, by omega, by go_num, X2.out.call (below_drewN (Below.refl _ _) _), HZ, HY⟩
            case measure => simp [intOf]; omega
          · by_cases h0 : s = ⟨#[]⟩
            · have HZ : Hid (gdA (mA l (j + 1 + 1)) (l.drop (j + 1 + 1)) = B) := Lib.hid (by rw [HE.out, HO.out, h0]; rfl)
              have d2 := Lib.hid h0
              subst h0
              clear HE HO HP
              go_quiet (first | (go_at_call 75; (with_reducible exact HL.out _ _)) | (go_at_call 67; (with_reducible exact HN.out _ _)) | (go_at_call 67; (with_reducible exact HT.out _ _)))
              go_wp2_with fail
              go_roundw
              case rel => exact ⟨j + 1 + 1, by omega, by go_num, X2.out.call (below_drewN (Below.refl _ _) _), HZ, HY⟩
              case measure => simp [intOf]; omega
            · have HZ : Hid (B = false) := Lib.hid (by rw [HE.out, HO.out, decide_eq_false (fun q => h0 (size_nil q))]; simp)
              have d2 := not_empty h0
              clear HE HO HP
              go_quiet (first | (go_at_call 75; (with_reducible exact HL.out _ _)) | (go_at_call 67; (with_reducible exact HN.out _ _)) | (go_at_call 67; (with_reducible exact HT.out _ _)))
              go_wp2_with fail
              go_ret
              exact ⟨ret_bool (by rw [HX.out HZ.out]), (X2.out.call (below_drewN (Below.refl _ _) _))⟩
    · have HZ : Hid (B = true) := Lib.hid (by rw [← HP.out, gdA_end l k (by rw [hn.out]; omega)])
      clear hb
      go_wp2_with fail
      go_ret
      exact ⟨ret_bool (by rw [HX'.out, HZ.out]; simp), X1.out⟩
theorem tvGoodS_any (ad : Option Addr) (n cap : Nat) (l : List At) (w : World) (HI : Hid (InX w ad n (atCs l))) (hn : Hid (l.length = n)) (HM : Hid (SzM l)) (hm : n ≤ 1048576) :
    Calls Try.prog 15 #[.slice ad n cap] w (SaysB w (lsA l)) := by
  have HG := Lib.hid (tvGood_any ad n cap l w HI hn HM hm)
  generalize lsA l = B at HG ⊢
  go_enter Try.func15, Try.ntmps15
  go_wp2_with (go_at_call 47; refine (HG.out).mono ?_; rintro e w1 ⟨rfl, b⟩; have B1 := Lib.hid b; clear b)
  go_ret
  exact ⟨rfl, B1.out⟩
end Go.Proofs.Ythflehdboccloaa
