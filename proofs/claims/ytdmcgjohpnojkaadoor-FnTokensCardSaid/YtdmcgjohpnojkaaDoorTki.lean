/- Tokens that a text can have: the model's answer in one form; lists of such tokens: contracts of areTokens and tkList. -/
import Derived.Test.YtdmcgjohpnojkaaDoorTkh
import Derived.Test.YtdmcgjohpnojkaaDoorTkv
namespace Go.Proofs.YtdmcgjohpnojkaaDoor
set_option maxRecDepth 100000
open Go.RowKit
set_option linter.unusedVariables false

theorem sg_head (c d : UInt8) (r t : List UInt8) (h : mkB (c.toNat : Int) = true) (hd : mkB (d.toNat : Int) = false) : ¬ Lib.hasPrefix (c :: r) (d :: t) = true := by
  intro q
  unfold Lib.hasPrefix at q
  simp [List.isPrefixOf] at q
  rw [q.1, h] at hd
  cases hd
theorem sg_none (c : UInt8) (r : List UInt8) (h : mkB (c.toNat : Int) = true) : sgOf (c :: r) = ⟨#[]⟩ := by
  unfold sgOf sgA
  rw [pfxOf, if_neg (sg_head c 123 r [] h (by decide)), pfxOf, if_neg (sg_head c 125 r [] h (by decide)), pfxOf, if_neg (sg_head c 59 r [] h (by decide)), pfxOf, if_neg (sg_head c 47 r [] h (by decide)), pfxOf, if_neg (sg_head c 61 r [] h (by decide)), pfxOf, if_neg (sg_head c 45 r [62] h (by decide)), pfxOf]
theorem run_eq (s : ByteArray) : s.extract 0 (0 + runN (s.data.toList.drop 0)) = ⟨(s.data.toList.take (runN s.data.toList)).toArray⟩ := by
  rw [Lib.extract_eq, List.drop_zero, Nat.zero_add, Nat.sub_zero]
theorem bytes_ne {u s : ByteArray} (h : u ≠ s) : (u.toList == s.toList) = false := by
  rw [Bool.eq_false_iff]
  intro q
  apply h
  have : u.toList = s.toList := by simpa using q
  rw [ByteArray.toList_eq, ByteArray.toList_eq] at this
  exact ByteArray.ext (Array.toList_inj.1 this)
theorem good_norun {k a v : Int} {s : ByteArray} (ho : oneOf s sgA = false) (hu : s.extract 0 (0 + runN (s.data.toList.drop 0)) ≠ s) : goodT k a s v = false := by
  have h : ((ftL s.data.toList).toList == s.toList) = false := by
    refine bytes_ne fun e => ?_
    by_cases hsg : sgOf s.data.toList = ⟨#[]⟩
    · apply hu
      rw [run_eq]
      have e' := e
      unfold ftL at e'
      rw [if_pos hsg] at e'
      exact e'
    · unfold ftL at e
      rw [if_neg hsg] at e
      rcases pfxOf_in s.data.toList sgA with q | q
      · exact hsg q
      · rw [show pfxOf s.data.toList sgA = s from e] at q
        rw [in_one s sgA q] at ho
        cases ho
  unfold goodT
  rw [h]
  simp
theorem good_run {k a v : Int} {s : ByteArray} (hi : inB a 0 4000 = true) (hz : 0 < s.size) (hu : s.extract 0 (0 + runN (s.data.toList.drop 0)) = s) : goodT k a s v = (decide (tkFa s = 0) && ((tkKi s == k) && ((s.toList == s.toList) && (tkVa s == v)))) := by
  have hf : ftL s.data.toList = s := by
    rw [run_eq] at hu
    have hl : runN s.data.toList = s.size := by
      have := congrArg ByteArray.size hu
      rw [size_list, size_list] at this
      simp at this
      have h2 := runN_le s.data.toList
      rw [← size_list] at h2
      omega
    have hd := drop_at s 0 hz
    rw [List.drop_zero] at hd
    have hm : mkB ((s[0]'hz).toNat : Int) = true := by
      rcases Bool.eq_false_or_eq_true (mkB ((s[0]'hz).toNat : Int)) with q | q
      · exact q
      · have := run_stop s 0 hz q
        rw [List.drop_zero] at this
        omega
    have hsg : sgOf s.data.toList = ⟨#[]⟩ := by rw [hd]; exact sg_none _ _ hm
    unfold ftL
    rw [if_pos hsg, hu]
  rw [good_in hi, hf]
theorem specGood_any (k a v : Int) (s : ByteArray) (w : World) (hs : s.size ≤ 1048576) :
    Calls Tryd.prog 121 #[.agg #[.int .i64 k, .int .i64 a, .string s, .int .i64 v]] w (SaysB w (goodT k a s v)) := by
  rcases Bool.eq_false_or_eq_true (inB a 0 4000) with hi | hi
  · rcases Nat.eq_zero_or_pos s.size with hz | hz
    · have hg : goodT k a s v = false := by
        have hl : s.data.toList = [] := List.eq_nil_of_length_eq_zero (by rw [← size_list]; exact hz)
        have hf : tkFa (ftL s.data.toList) = 1 := by rw [hl]; decide
        rw [good_in hi, hf]; rfl
      rw [hg]
      exact specGood_empty k a v s w hi hz
    · rcases Bool.eq_false_or_eq_true (oneOf s sgA) with ho | ho
      · rw [good_sign hi ho]
        exact specGood_sign k a v s w hi hz ho
      · by_cases hu : s.extract 0 (0 + runN (s.data.toList.drop 0)) = s
        · have HM := fun w => tkMake_any s a w hz hs
          have hg := good_run (k := k) (v := v) hi hz hu
          by_cases hf : tkFa s = 0
          · rw [(tokR_yes a hf rfl rfl).1] at HM
            refine specGood_make k a v s w hi hz hs ho hu _ _ _ _ _ (Lib.hid HM) _ (Lib.hid ?_) (Lib.hid fun _ => by simp)
            rw [hg, decide_eq_true hf]
            have : (tkFa s == 0) = true := by simpa using hf
            rw [this]
          · rw [(tokR_no a rfl hf).1] at HM
            refine specGood_make k a v s w hi hz hs ho hu _ _ _ _ _ (Lib.hid HM) _ (Lib.hid ?_) (Lib.hid fun q => absurd q hf)
            rw [hg, decide_eq_false hf]
            have : (tkFa s == 0) = false := by simpa using hf
            rw [this]; rfl
        · rw [good_norun ho hu]
          exact specGood_norun k a v s w hi hz hs ho _ rfl (bytes_ne hu)
  · rw [good_out hi]
    exact specGood_out k a v s w hi
/-- all tokens of a list are such tokens -/
def alG : List Tok → Bool
  | [] => true
  | x :: r => goodT x.k x.a x.t x.v && alG r
theorem alG_at (l : List Tok) (k : Nat) (h : k < l.length) (x : Tok) (hx : l.getD k tok0 = x) : alG (l.drop k) = (goodT x.k x.a x.t x.v && alG (l.drop (k + 1))) := by
  rw [List.drop_eq_getElem_cons h]
  subst hx
  simp [alG, List.getD_eq_getElem?_getD, h]
theorem alG_end (l : List Tok) (k : Nat) (h : l.length ≤ k) : alG (l.drop k) = true := by
  rw [List.drop_eq_nil_of_le h]; rfl
/-- no text of a list is too long -/
def SzT (l : List Tok) : Prop := ∀ k, k < l.length → (l.getD k tok0).t.size ≤ 1048576
def AlRelT (w : World) (l : List Tok) (b : Bool) (n : Nat) (i : Value) (wr : World) : Prop := ∃ k : Nat, k ≤ n ∧ i = .int .i64 k ∧ Below w.heap.size w wr ∧ Hid (alG (l.drop k) = b)
set_option maxHeartbeats 1600000 in
theorem areTokens_go (g n c : Nat) (l : List Tok) (w : World) (HT : Hid (Tabs w)) (HA : Hid (ToksAt w g l)) (hn : Hid (l.length = n)) (hg : g < w.heap.size) (hm : n ≤ 600) (HZ : Hid (SzT l)) :
    Calls Tryd.prog 84 #[.slice (some ⟨g, 0, none⟩) n c] w (SaysB w (alG l)) := by
  obtain ⟨b, hb⟩ : ∃ b, alG l = b := ⟨_, rfl⟩
  have H0 : Hid (alG (l.drop 0) = b) := Lib.hid hb
  rw [hb]
  clear hb
  go_enter Tryd.func84, Tryd.ntmps84
  go_wp2_with fail
  go_loopw [10] (fun i wr => AlRelT w l b n i wr) (fun i _ => n - (intOf i).toNat)
  case atStart => exact ⟨0, Nat.zero_le _, rfl, Below.refl _ _, H0⟩
  case round =>
    obtain ⟨k, hk, rfl, hb, HP⟩ := hrel
    have HR := Lib.hid hb
    by_cases hlt : k < n
    · obtain ⟨x, hx⟩ : ∃ x, l.getD k tok0 = x := ⟨_, rfl⟩
      have hl1 : k < l.length := by rw [hn.out]; exact hlt
      obtain ⟨a0, a1, a2, a3⟩ := (HA.out.below hb hg).four k hl1 x hx
      have HE := Lib.hid (alG_at l k hl1 x hx)
      have hz := HZ.out k hl1
      rw [hx] at hz
      obtain ⟨xk, xa, xt, xv⟩ := x
      have HS := Lib.hid (fun w hT => implIsToken_any xk xa xv xt w hz hT)
      have T1 : Hid (Tabs (wr.alloc (.cells #[.int .i64 xk, .int .i64 xa, .string xt, .int .i64 xv] 32))) := Lib.hid (HT.out.below (hb.alloc hb.size _))
      clear hb hx hl1
      rcases Bool.eq_false_or_eq_true (goodT xk xa xt xv) with hs | hs
      · have HX : Hid (alG (l.drop (k + 1)) = b) := Lib.hid (by rw [← HP.out, HE.out, hs]; rfl)
        rw [hs] at HS
        clear hs
        go_wp2_with (go_at_call 14; refine (HS.out _ T1).mono ?_; rintro e w1 ⟨rfl, b1⟩; have B1 := Lib.hid ((one_new2 _ _).trans (b1.mono (one_new2 _ _).size)); clear b1)
        go_roundw
        case rel => exact ⟨k + 1, by omega, by go_num, HR.out.trans (B1.out.mono HR.out.size), HX⟩
        case measure => simp [intOf]; omega
      · have HX : Hid (b = false) := Lib.hid (by rw [← HP.out, HE.out, hs]; rfl)
        rw [hs] at HS
        clear hs
        go_wp2_with (go_at_call 14; refine (HS.out _ T1).mono ?_; rintro e w1 ⟨rfl, b1⟩; have B1 := Lib.hid ((one_new2 _ _).trans (b1.mono (one_new2 _ _).size)); clear b1)
        go_ret
        exact ⟨ret_bool HX.out.symm, HR.out.trans (B1.out.mono HR.out.size)⟩
    · have HX : Hid (b = true) := Lib.hid (by rw [← HP.out, alG_end l k (by rw [hn.out]; omega)])
      go_wp2_with fail
      go_ret
      exact ⟨ret_bool HX.out.symm, HR.out⟩
theorem areTokens_none (a : Option Addr) (c : Nat) (w : World) :
    Calls Tryd.prog 84 #[.slice a 0 c] w (SaysB w true) := by
  go_enter Tryd.func84, Tryd.ntmps84
  go_wp2
  refine wp_loop_rounds 1 ?_
  rw [rounds_succ]
  go_wp2
  go_ret
  exact ⟨rfl, Below.refl _ _⟩
theorem areTokens_long (a : Option Addr) (n c : Nat) (w : World) (h : 600 < n) :
    Calls Tryd.prog 84 #[.slice a n c] w (SaysB w false) := by
  have d : decide ((600 : Int) < n) = true := by simp; omega
  go_enter Tryd.func84, Tryd.ntmps84
  go_wp2
  go_ret
  exact ⟨rfl, Below.refl _ _⟩
/-- a list of tokens that JoinTokens takes -/
def lsG (l : List Tok) : Bool := alG l && decide (l.length ≤ 600)
theorem areTokens_any (v : Value) (l : List Tok) (w : World) (HT : Hid (Tabs w)) (h : Hid (SlT w v l)) (HZ : Hid (SzT l)) :
    Calls Tryd.prog 84 #[v] w (SaysB w (lsG l)) := by
  by_cases hl6 : l.length ≤ 600
  · have e : lsG l = alG l := by unfold lsG; rw [decide_eq_true hl6, Bool.and_true]
    rw [e]
    rcases h.out with ⟨hl, ad, c, hv⟩ | ⟨g, c, hv, ht, hg⟩
    · rw [hv, hl]; exact areTokens_none _ _ w
    · rw [hv]; exact areTokens_go g l.length c l w HT ht rfl hg hl6 HZ
  · have e : lsG l = false := by unfold lsG; rw [decide_eq_false hl6, Bool.and_false]
    rw [e]
    rcases h.out with ⟨hl, ad, c, hv⟩ | ⟨g, c, hv, ht, hg⟩
    · rw [hl] at hl6; exact absurd (Nat.zero_le _) hl6
    · rw [hv]; exact areTokens_long _ _ _ w (by omega)
set_option maxHeartbeats 1600000 in
theorem tkList_go (g n c : Nat) (l : List Tok) (w : World) (HA : Hid (ToksAt w g l)) (hn : Hid (l.length = n)) (hg : g < w.heap.size) (hm : n ≤ 1048576) (HZ : Hid (SzT l)) :
    Calls Tryd.prog 86 #[.slice (some ⟨g, 0, none⟩) n c] w (SaysB w (lsG l)) := by
  obtain ⟨b, hb⟩ : ∃ b, alG l = b := ⟨_, rfl⟩
  have H0 : Hid (alG (l.drop 0) = b) := Lib.hid hb
  have HL : Hid (lsG l = (b && decide (n ≤ 600))) := Lib.hid (by unfold lsG; rw [hb, hn.out])
  clear hb
  have D6 : Hid (decide ((n : Int) ≤ 600) = decide (n ≤ 600)) := Lib.hid (by rw [decide_eq_decide]; omega)
  go_enter Tryd.func86, Tryd.ntmps86
  go_wp2_with fail
  go_loopw [7] (fun i wr => AlRelT w l b n i wr) (fun i _ => n - (intOf i).toNat)
  case atStart => exact ⟨0, Nat.zero_le _, rfl, Below.refl _ _, H0⟩
  case round =>
    obtain ⟨k, hk, rfl, hb, HP⟩ := hrel
    have HR := Lib.hid hb
    by_cases hlt : k < n
    · obtain ⟨x, hx⟩ : ∃ x, l.getD k tok0 = x := ⟨_, rfl⟩
      have hl1 : k < l.length := by rw [hn.out]; exact hlt
      obtain ⟨a0, a1, a2, a3⟩ := (HA.out.below hb hg).four k hl1 x hx
      have HE := Lib.hid (alG_at l k hl1 x hx)
      have hz := HZ.out k hl1
      rw [hx] at hz
      obtain ⟨xk, xa, xt, xv⟩ := x
      have HS := Lib.hid (fun w => specGood_any xk xa xv xt w hz)
      clear hb hx hl1
      rcases Bool.eq_false_or_eq_true (goodT xk xa xt xv) with hs | hs
      · have HX : Hid (alG (l.drop (k + 1)) = b) := Lib.hid (by rw [← HP.out, HE.out, hs]; rfl)
        rw [hs] at HS
        clear hs
        go_wp2_with (go_at_call 121; refine (HS.out _).mono ?_; rintro e w1 ⟨rfl, b1⟩; have B1 := Lib.hid ((one_new2 _ _).trans (b1.mono (one_new2 _ _).size)); clear b1)
        go_roundw
        case rel => exact ⟨k + 1, by omega, by go_num, HR.out.trans (B1.out.mono HR.out.size), HX⟩
        case measure => simp [intOf]; omega
      · have HX : Hid (lsG l = false) := Lib.hid (by rw [HL.out, ← HP.out, HE.out, hs]; rfl)
        rw [hs] at HS
        clear hs
        go_wp2_with (go_at_call 121; refine (HS.out _).mono ?_; rintro e w1 ⟨rfl, b1⟩; have B1 := Lib.hid ((one_new2 _ _).trans (b1.mono (one_new2 _ _).size)); clear b1)
        go_ret
        exact ⟨ret_bool HX.out.symm, HR.out.trans (B1.out.mono HR.out.size)⟩
    · have HX : Hid (lsG l = decide (n ≤ 600)) := Lib.hid (by rw [HL.out, ← HP.out, alG_end l k (by rw [hn.out]; omega)]; rfl)
      go_wp2_with fail
      go_ret
      exact ⟨ret_bool (by rw [HX.out]; exact D6.out), HR.out⟩
theorem tkList_none (a : Option Addr) (c : Nat) (w : World) :
    Calls Tryd.prog 86 #[.slice a 0 c] w (SaysB w true) := by
  go_enter Tryd.func86, Tryd.ntmps86
  go_wp2
  refine wp_loop_rounds 1 ?_
  rw [rounds_succ]
  go_wp2
  go_ret
  exact ⟨rfl, Below.refl _ _⟩
theorem tkList_any (v : Value) (l : List Tok) (w : World) (h : Hid (SlT w v l)) (HZ : Hid (SzT l)) (hm : l.length ≤ 1048576) :
    Calls Tryd.prog 86 #[v] w (SaysB w (lsG l)) := by
  rcases h.out with ⟨hl, ad, c, hv⟩ | ⟨g, c, hv, ht, hg⟩
  · rw [hv, hl]; exact tkList_none _ _ w
  · rw [hv]; exact tkList_go g l.length c l w ht rfl hg hm HZ
end Go.Proofs.YtdmcgjohpnojkaaDoor
