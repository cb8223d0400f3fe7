import Derived.Test.YtmmofchfafnkcaaGreatDoorPki
import Derived.Test.YtmmofchfafnkcaaGreatDoorPkh
import Derived.Lib.Join
import Derived.Deep.OwnRows
/- Tokens that a text can have: the model's answer in one form; lists of such tokens: contracts of areTokens and tkList. -/
namespace Go.Proofs.YtmmofchfafnkcaaGreatDoor
set_option maxRecDepth 100000
open Go.RowKit
set_option linter.unusedVariables false

theorem sg_head (c d : UInt8) (r t : List UInt8) (h : mkB (c.toNat : Int) = true) (hd : mkB (d.toNat : Int) = false) : ¬ Lib.hasPrefix (c :: r) (d :: t) = true := by
  intro q
  unfold Lib.hasPrefix at q
  simp [List.isPrefixOf] at q
  rw [q.1, h] at hd
  cases hd
theorem sg_none (c : UInt8) (r : List UInt8) (h : mkB (c.toNat : Int) = true) : sgOf (c :: r) = ⟨#[]⟩ := by
  unfold sgOf sgA
  rw [pfxOf, if_neg (sg_head c 123 r [] h (by decide)), pfxOf, if_neg (sg_head c 125 r [] h (by decide)), pfxOf, if_neg (sg_head c 59 r [] h (by decide)), pfxOf, if_neg (sg_head c 47 r [] h (by decide)), pfxOf, if_neg (sg_head c 61 r [] h (by decide)), pfxOf, if_neg (sg_head c 45 r [62] h (by decide)), pfxOf]
theorem run_eq (s : ByteArray) : s.extract 0 (0 + runN (s.data.toList.drop 0)) = ⟨(s.data.toList.take (runN s.data.toList)).toArray⟩ := by
  rw [Lib.extract_eq, List.drop_zero, Nat.zero_add, Nat.sub_zero]
theorem bytes_ne {u s : ByteArray} (h : u ≠ s) : (u.toList == s.toList) = false := by
  rw [Bool.eq_false_iff]
  intro q
  apply h
  have : u.toList = s.toList := by simpa using q
  rw [ByteArray.toList_eq, ByteArray.toList_eq] at this
  exact ByteArray.ext (Array.toList_inj.1 this)
theorem good_norun {k a v : Int} {s : ByteArray} (ho : oneOf s sgA = false) (hu : s.extract 0 (0 + runN (s.data.toList.drop 0)) ≠ s) : goodT k a s v = false := by
  have h : ((ftL s.data.toList).toList == s.toList) = false := by
    refine bytes_ne fun e => ?_
    by_cases hsg : sgOf s.data.toList = ⟨#[]⟩
    · apply hu
      rw [run_eq]
      have e' := e
      unfold ftL at e'
      rw [if_pos hsg] at e'
      exact e'
    · unfold ftL at e
      rw [if_neg hsg] at e
      rcases pfxOf_in s.data.toList sgA with q | q
      · exact hsg q
      · rw [show pfxOf s.data.toList sgA = s from e] at q
        rw [in_one s sgA q] at ho
        cases ho
  unfold goodT
  rw [h]
  simp
theorem good_run {k a v : Int} {s : ByteArray} (hi : inB a 0 4000 = true) (hz : 0 < s.size) (hu : s.extract 0 (0 + runN (s.data.toList.drop 0)) = s) : goodT k a s v = (decide (tkFa s = 0) && ((tkKi s == k) && ((s.toList == s.toList) && (tkVa s == v)))) := by
  have hf : ftL s.data.toList = s := by
    rw [run_eq] at hu
    have hl : runN s.data.toList = s.size := by
      have := congrArg ByteArray.size hu
      rw [size_list, size_list] at this
      simp at this
      have h2 := runN_le s.data.toList
      rw [← size_list] at h2
      omega
    have hd := drop_at s 0 hz
    rw [List.drop_zero] at hd
    have hm : mkB ((s[0]'hz).toNat : Int) = true := by
      rcases Bool.eq_false_or_eq_true (mkB ((s[0]'hz).toNat : Int)) with q | q
      · exact q
      · have := run_stop s 0 hz q
        rw [List.drop_zero] at this
        omega
    have hsg : sgOf s.data.toList = ⟨#[]⟩ := by rw [hd]; exact sg_none _ _ hm
    unfold ftL
    rw [if_pos hsg, hu]
  rw [good_in hi, hf]
theorem specGood_any (k a v : Int) (s : ByteArray) (w : World) (hs : s.size ≤ 1048576) :
    Calls Tryz.prog 74 #[.agg #[.int .i64 k, .int .i64 a, .string s, .int .i64 v]] w (SaysB w (goodT k a s v)) := by
  rcases Bool.eq_false_or_eq_true (inB a 0 4000) with hi | hi
  · rcases Nat.eq_zero_or_pos s.size with hz | hz
    · have hg : goodT k a s v = false := by
        have hl : s.data.toList = [] := List.eq_nil_of_length_eq_zero (by rw [← size_list]; exact hz)
        have hf : tkFa (ftL s.data.toList) = 1 := by rw [hl]; decide
        rw [good_in hi, hf]; rfl
      rw [hg]
      exact specGood_empty k a v s w hi hz
    · rcases Bool.eq_false_or_eq_true (oneOf s sgA) with ho | ho
      · rw [good_sign hi ho]
        exact specGood_sign k a v s w hi hz ho
      · by_cases hu : s.extract 0 (0 + runN (s.data.toList.drop 0)) = s
        · have HM := fun w => tkMake_any s a w hz hs
          have hg := good_run (k := k) (v := v) hi hz hu
          by_cases hf : tkFa s = 0
          · rw [(tokR_yes a hf rfl rfl).1] at HM
            refine specGood_make k a v s w hi hz hs ho hu _ _ _ _ _ (Lib.hid HM) _ (Lib.hid ?_) (Lib.hid fun _ => by simp)
            rw [hg, decide_eq_true hf]
            have : (tkFa s == 0) = true := by simpa using hf
            rw [this]
          · rw [(tokR_no a rfl hf).1] at HM
            refine specGood_make k a v s w hi hz hs ho hu _ _ _ _ _ (Lib.hid HM) _ (Lib.hid ?_) (Lib.hid fun q => absurd q hf)
            rw [hg, decide_eq_false hf]
            have : (tkFa s == 0) = false := by simpa using hf
            rw [this]; rfl
        · rw [good_norun ho hu]
          exact specGood_norun k a v s w hi hz hs ho _ rfl (bytes_ne hu)
  · rw [good_out hi]
    exact specGood_out k a v s w hi
theorem specIsToken_any (k a v : Int) (s : ByteArray) (w : World) (hs : s.size ≤ 1048576) :
    Calls Tryz.prog 22 #[.agg #[.int .i64 k, .int .i64 a, .string s, .int .i64 v]] w (SaysB w (goodT k a s v)) := by
  have HG := Lib.hid (fun w => specGood_any k a v s w hs)
  obtain ⟨r, hr⟩ : ∃ r, goodT k a s v = r := ⟨_, rfl⟩
  rw [hr] at HG ⊢
  clear hr
  go_enter Tryz.func22, Tryz.ntmps22
  go_wp2_with (go_at_call 74; refine (HG.out _).mono ?_; rintro e w1 ⟨rfl, b1⟩; have B1 := Lib.hid ((one_new2 _ _).trans (b1.mono (one_new2 _ _).size)); clear b1)
  go_ret
  exact ⟨rfl, B1.out⟩
/-- all tokens of a list are such tokens -/
def alG : List Tok → Bool
  | [] => true
  | x :: r => goodT x.k x.a x.t x.v && alG r
theorem alG_at (l : List Tok) (k : Nat) (h : k < l.length) (x : Tok) (hx : l.getD k tok0 = x) : alG (l.drop k) = (goodT x.k x.a x.t x.v && alG (l.drop (k + 1))) := by
  rw [List.drop_eq_getElem_cons h]
  subst hx
  simp [alG, List.getD_eq_getElem?_getD, h]
theorem alG_end (l : List Tok) (k : Nat) (h : l.length ≤ k) : alG (l.drop k) = true := by
  rw [List.drop_eq_nil_of_le h]; rfl
/-- no text of a list is too long -/
def SzT (l : List Tok) : Prop := ∀ k, k < l.length → (l.getD k tok0).t.size ≤ 1048576
def AlRelT (w : World) (l : List Tok) (b : Bool) (n : Nat) (i : Value) (wr : World) : Prop := ∃ k : Nat, k ≤ n ∧ i = .int .i64 k ∧ Below w.heap.size w wr ∧ Hid (alG (l.drop k) = b)
set_option maxHeartbeats 1600000 in
theorem areTokens_go (g n c : Nat) (l : List Tok) (w : World) (HT : Hid (Tabs w)) (HA : Hid (ToksAt w g l)) (hn : Hid (l.length = n)) (hg : g < w.heap.size) (hm : n ≤ 600) (HZ : Hid (SzT l)) :
    Calls Tryz.prog 64 #[.slice (some ⟨g, 0, none⟩) n c] w (SaysB w (alG l)) := by
  obtain ⟨b, hb⟩ : ∃ b, alG l = b := ⟨_, rfl⟩
  have H0 : Hid (alG (l.drop 0) = b) := Lib.hid hb
  rw [hb]
  clear hb
  go_enter Tryz.func64, Tryz.ntmps64
  go_wp2_with fail
  go_loopw [10] (fun i wr => AlRelT w l b n i wr) (fun i _ => n - (intOf i).toNat)
  case atStart => exact ⟨0, Nat.zero_le _, rfl, Below.refl _ _, H0⟩
  case round =>
    obtain ⟨k, hk, rfl, hb, HP⟩ := hrel
    have HR := Lib.hid hb
    by_cases hlt : k < n
    · obtain ⟨x, hx⟩ : ∃ x, l.getD k tok0 = x := ⟨_, rfl⟩
      have hl1 : k < l.length := by rw [hn.out]; exact hlt
      obtain ⟨a0, a1, a2, a3⟩ := (HA.out.below hb hg).four k hl1 x hx
      have HE := Lib.hid (alG_at l k hl1 x hx)
      have hz := HZ.out k hl1
      rw [hx] at hz
      obtain ⟨xk, xa, xt, xv⟩ := x
      have HS := Lib.hid (fun w hT => implIsToken_any xk xa xv xt w hz hT)
      have T1 : Hid (Tabs (wr.alloc (.cells #[.int .i64 xk, .int .i64 xa, .string xt, .int .i64 xv] 31))) := Lib.hid (HT.out.below (hb.alloc hb.size _))
      clear hb hx hl1
      rcases Bool.eq_false_or_eq_true (goodT xk xa xt xv) with hs | hs
      · have HX : Hid (alG (l.drop (k + 1)) = b) := Lib.hid (by rw [← HP.out, HE.out, hs]; rfl)
        rw [hs] at HS
        clear hs
        go_wp2_with (go_at_call 21; refine (HS.out _ T1).mono ?_; rintro e w1 ⟨rfl, b1⟩; have B1 := Lib.hid ((one_new2 _ _).trans (b1.mono (one_new2 _ _).size)); clear b1)
        go_roundw
        case rel => exact ⟨k + 1, by omega, by go_num, HR.out.trans (B1.out.mono HR.out.size), HX⟩
        case measure => simp [intOf]; omega
      · have HX : Hid (b = false) := Lib.hid (by rw [← HP.out, HE.out, hs]; rfl)
        rw [hs] at HS
        clear hs
        go_wp2_with (go_at_call 21; refine (HS.out _ T1).mono ?_; rintro e w1 ⟨rfl, b1⟩; have B1 := Lib.hid ((one_new2 _ _).trans (b1.mono (one_new2 _ _).size)); clear b1)
        go_ret
        exact ⟨ret_bool HX.out.symm, HR.out.trans (B1.out.mono HR.out.size)⟩
    · have HX : Hid (b = true) := Lib.hid (by rw [← HP.out, alG_end l k (by rw [hn.out]; omega)])
      go_wp2_with fail
      go_ret
      exact ⟨ret_bool HX.out.symm, HR.out⟩
theorem areTokens_none (a : Option Addr) (c : Nat) (w : World) :
    Calls Tryz.prog 64 #[.slice a 0 c] w (SaysB w true) := by
  go_enter Tryz.func64, Tryz.ntmps64
  go_wp2
  refine wp_loop_rounds 1 ?_
  rw [rounds_succ]
  go_wp2
  go_ret
  exact ⟨rfl, Below.refl _ _⟩
theorem areTokens_long (a : Option Addr) (n c : Nat) (w : World) (h : 600 < n) :
    Calls Tryz.prog 64 #[.slice a n c] w (SaysB w false) := by
  have d : decide ((600 : Int) < n) = true := by simp; omega
  go_enter Tryz.func64, Tryz.ntmps64
  go_wp2
  go_ret
  exact ⟨rfl, Below.refl _ _⟩
/-- a list of tokens that JoinTokens takes -/
def lsG (l : List Tok) : Bool := alG l && decide (l.length ≤ 600)
theorem areTokens_any (v : Value) (l : List Tok) (w : World) (HT : Hid (Tabs w)) (h : Hid (SlT w v l)) (HZ : Hid (SzT l)) :
    Calls Tryz.prog 64 #[v] w (SaysB w (lsG l)) := by
  by_cases hl6 : l.length ≤ 600
  · have e : lsG l = alG l := by unfold lsG; rw [decide_eq_true hl6, Bool.and_true]
    rw [e]
    rcases h.out with ⟨hl, ad, c, hv⟩ | ⟨g, c, hv, ht, hg⟩
    · rw [hv, hl]; exact areTokens_none _ _ w
    · rw [hv]; exact areTokens_go g l.length c l w HT ht rfl hg hl6 HZ
  · have e : lsG l = false := by unfold lsG; rw [decide_eq_false hl6, Bool.and_false]
    rw [e]
    rcases h.out with ⟨hl, ad, c, hv⟩ | ⟨g, c, hv, ht, hg⟩
    · rw [hl] at hl6; exact absurd (Nat.zero_le _) hl6
    · rw [hv]; exact areTokens_long _ _ _ w (by omega)
set_option maxHeartbeats 1600000 in
theorem tkList_go (g n c : Nat) (l : List Tok) (w : World) (HA : Hid (ToksAt w g l)) (hn : Hid (l.length = n)) (hg : g < w.heap.size) (hm : n ≤ 1048576) (HZ : Hid (SzT l)) :
    Calls Tryz.prog 67 #[.slice (some ⟨g, 0, none⟩) n c] w (SaysB w (lsG l)) := by
  obtain ⟨b, hb⟩ : ∃ b, alG l = b := ⟨_, rfl⟩
  have H0 : Hid (alG (l.drop 0) = b) := Lib.hid hb
  have HL : Hid (lsG l = (b && decide (n ≤ 600))) := Lib.hid (by unfold lsG; rw [hb, hn.out])
  clear hb
  have D6 : Hid (decide ((n : Int) ≤ 600) = decide (n ≤ 600)) := Lib.hid (by rw [decide_eq_decide]; omega)
  go_enter Tryz.func67, Tryz.ntmps67
  go_wp2_with fail
  go_loopw [7] (fun i wr => AlRelT w l b n i wr) (fun i _ => n - (intOf i).toNat)
  case atStart => exact ⟨0, Nat.zero_le _, rfl, Below.refl _ _, H0⟩
  case round =>
    obtain ⟨k, hk, rfl, hb, HP⟩ := hrel
    have HR := Lib.hid hb
    by_cases hlt : k < n
    · obtain ⟨x, hx⟩ : ∃ x, l.getD k tok0 = x := ⟨_, rfl⟩
      have hl1 : k < l.length := by rw [hn.out]; exact hlt
      obtain ⟨a0, a1, a2, a3⟩ := (HA.out.below hb hg).four k hl1 x hx
      have HE := Lib.hid (alG_at l k hl1 x hx)
      have hz := HZ.out k hl1
      rw [hx] at hz
      obtain ⟨xk, xa, xt, xv⟩ := x
      have HS := Lib.hid (fun w => specGood_any xk xa xv xt w hz)
      clear hb hx hl1
      rcases Bool.eq_false_or_eq_true (goodT xk xa xt xv) with hs | hs
      · have HX : Hid (alG (l.drop (k + 1)) = b) := Lib.hid (by rw [← HP.out, HE.out, hs]; rfl)
        rw [hs] at HS
        clear hs
        go_wp2_with (go_at_call 74; refine (HS.out _).mono ?_; rintro e w1 ⟨rfl, b1⟩; have B1 := Lib.hid ((one_new2 _ _).trans (b1.mono (one_new2 _ _).size)); clear b1)
        go_roundw
        case rel => exact ⟨k + 1, by omega, by go_num, HR.out.trans (B1.out.mono HR.out.size), HX⟩
        case measure => simp [intOf]; omega
      · have HX : Hid (lsG l = false) := Lib.hid (by rw [HL.out, ← HP.out, HE.out, hs]; rfl)
        rw [hs] at HS
        clear hs
        go_wp2_with (go_at_call 74; refine (HS.out _).mono ?_; rintro e w1 ⟨rfl, b1⟩; have B1 := Lib.hid ((one_new2 _ _).trans (b1.mono (one_new2 _ _).size)); clear b1)
        go_ret
        exact ⟨ret_bool HX.out.symm, HR.out.trans (B1.out.mono HR.out.size)⟩
    · have HX : Hid (lsG l = decide (n ≤ 600)) := Lib.hid (by rw [HL.out, ← HP.out, alG_end l k (by rw [hn.out]; omega)]; rfl)
      go_wp2_with fail
      go_ret
      exact ⟨ret_bool (by rw [HX.out]; exact D6.out), HR.out⟩
theorem tkList_none (a : Option Addr) (c : Nat) (w : World) :
    Calls Tryz.prog 67 #[.slice a 0 c] w (SaysB w true) := by
  go_enter Tryz.func67, Tryz.ntmps67
  go_wp2
  refine wp_loop_rounds 1 ?_
  rw [rounds_succ]
  go_wp2
  go_ret
  exact ⟨rfl, Below.refl _ _⟩
theorem tkList_any (v : Value) (l : List Tok) (w : World) (h : Hid (SlT w v l)) (HZ : Hid (SzT l)) (hm : l.length ≤ 1048576) :
    Calls Tryz.prog 67 #[v] w (SaysB w (lsG l)) := by
  rcases h.out with ⟨hl, ad, c, hv⟩ | ⟨g, c, hv, ht, hg⟩
  · rw [hv, hl]; exact tkList_none _ _ w
  · rw [hv]; exact tkList_go g l.length c l w ht rfl hg hm HZ
end Go.Proofs.YtmmofchfafnkcaaGreatDoor

/- Texts of tokens joined: plain facts, and the model's tkJoin. -/
namespace Go.Proofs.YtmmofchfafnkcaaGreatDoor
set_option maxRecDepth 100000
open Go.RowKit
set_option linter.unusedVariables false

/-- the bytes of the first tokens' texts, single blanks between -/
def jL (l : List Tok) (k : Nat) : List UInt8 := Lib.join ((l.take k).map fun x => x.t.data.toList) [32]
def jS (l : List Tok) (k : Nat) : ByteArray := ⟨(jL l k).toArray⟩
theorem join_snoc (x : List UInt8) (r : List (List UInt8)) (y : List UInt8) : Lib.join ((x :: r) ++ [y]) [32] = Lib.join (x :: r) [32] ++ ([32] ++ y) := by
  rw [List.cons_append, Lib.join_cons, Lib.join_cons]
  unfold Lib.joinTail
  simp
theorem jL_one (l : List Tok) (h : 0 < l.length) (x : Tok) (hx : l.getD 0 tok0 = x) : jL l 1 = x.t.data.toList := by
  subst hx
  match l, h with
  | a :: r, _ => simp [jL, Lib.join_one]
theorem jL_more (l : List Tok) (k : Nat) (h0 : 0 < k) (h : k < l.length) (x : Tok) (hx : l.getD k tok0 = x) : jL l (k + 1) = jL l k ++ ([32] ++ x.t.data.toList) := by
  have hl : l[k] = x := by rw [← hx]; simp [List.getD_eq_getElem?_getD, h]
  unfold jL
  rw [List.take_succ_eq_append_getElem h, List.map_append, hl]
  match l, h with
  | a :: r, h =>
    obtain ⟨j, rfl⟩ : ∃ j, k = j + 1 := ⟨k - 1, by omega⟩
    simp only [List.take_succ_cons, List.map_cons, List.map_nil]
    exact join_snoc _ _ _
theorem jS_zero (l : List Tok) : jS l 0 = ⟨#[]⟩ := rfl
theorem jS_one (l : List Tok) (h : 0 < l.length) (x : Tok) (hx : l.getD 0 tok0 = x) : (⟨#[]⟩ : ByteArray) ++ x.t = jS l 1 := by
  unfold jS
  rw [jL_one l h x hx]
  apply ByteArray.ext
  simp [ByteArray.data_append]
theorem jS_more (l : List Tok) (k : Nat) (h0 : 0 < k) (h : k < l.length) (x : Tok) (hx : l.getD k tok0 = x) : (jS l k ++ (⟨#[32]⟩ : ByteArray)) ++ x.t = jS l (k + 1) := by
  unfold jS
  rw [jL_more l k h0 h x hx]
  apply ByteArray.ext
  apply Array.toList_inj.1
  simp [ByteArray.data_append]
theorem jS_size (l : List Tok) (HZ : SzT l) : ∀ k, k ≤ l.length → (jS l k).size ≤ k * 1048577
  | 0, _ => by rw [jS_zero]; exact Nat.zero_le _
  | k + 1, h => by
    have ih := jS_size l HZ k (by omega)
    have hz := HZ k (by omega)
    rcases Nat.eq_zero_or_pos k with rfl | h0
    · rw [← jS_one l (by omega) _ rfl, ByteArray.size_append]
      have : (⟨#[]⟩ : ByteArray).size = 0 := rfl
      omega
    · rw [← jS_more l k h0 (by omega) _ rfl, ByteArray.size_append, ByteArray.size_append]
      have : (⟨#[32]⟩ : ByteArray).size = 1 := rfl
      omega
def JnRel (w : World) (l : List Tok) (n : Nat) (o i : Value) (wr : World) : Prop := ∃ k : Nat, k ≤ n ∧ i = .int .i64 k ∧ o = .string (jS l k) ∧ Below w.heap.size w wr
set_option maxHeartbeats 1600000 in
theorem tkJoin_go (g n c : Nat) (l : List Tok) (w : World) (HA : Hid (ToksAt w g l)) (hn : Hid (l.length = n)) (hg : g < w.heap.size) (hm : n ≤ 600) (HZ : Hid (SzT l)) :
    Calls Tryz.prog 69 #[.slice (some ⟨g, 0, none⟩) n c] w (SaysT w (jS l n)) := by
  go_enter Tryz.func69, Tryz.ntmps69
  go_wp2_with fail
  go_loopw [3, 8] (fun o i wr => JnRel w l n o i wr) (fun _ i _ => n - (intOf i).toNat)
  case atStart => exact ⟨0, Nat.zero_le _, rfl, rfl, Below.refl _ _⟩
  case round =>
    obtain ⟨k, hk, rfl, rfl, hb⟩ := hrel
    have HR := Lib.hid hb
    by_cases hlt : k < n
    · obtain ⟨x, hx⟩ : ∃ x, l.getD k tok0 = x := ⟨_, rfl⟩
      have hl1 : k < l.length := by rw [hn.out]; exact hlt
      obtain ⟨a0, a1, a2, a3⟩ := (HA.out.below hb hg).four k hl1 x hx
      have hz := HZ.out k hl1
      rw [hx] at hz
      have hjz := jS_size l HZ.out k (by omega)
      have hj1 : (jS l k).size ≤ 629146200 := by
        have : k * 1048577 ≤ 600 * 1048577 := Nat.mul_le_mul_right _ (by omega)
        omega
      have hs1 : (⟨#[32]⟩ : ByteArray).size = 1 := rfl
      rcases Nat.eq_zero_or_pos k with hk0 | hk0
      · have HJ := Lib.hid (jS_one l (by omega) x (by rw [← hk0]; exact hx))
        subst hk0
        obtain ⟨xk, xa, xt, xv⟩ := x
        have hz2 : xt.size ≤ 1048576 := hz
        clear hz
        have HS : Hid (jS l 0 ++ xt = jS l (0 + 1)) := Lib.hid HJ.out
        obtain ⟨J, hJ⟩ : ∃ J, jS l 0 = J := ⟨_, rfl⟩
        rw [hJ] at HS hj1
        clear hb hx hl1 hjz HJ hs1
        rw [hJ]
        clear hJ
        go_wp2_with fail
        go_roundw
        case rel => exact ⟨0 + 1, by omega, by go_num, by rw [← HS.out], HR.out.alloc HR.out.size _⟩
        case measure => simp [intOf]; omega
      · have HJ := Lib.hid (jS_more l k hk0 hl1 x hx)
        obtain ⟨xk, xa, xt, xv⟩ := x
        have hz2 : xt.size ≤ 1048576 := hz
        clear hz
        obtain ⟨J, hJ⟩ : ∃ J, jS l k = J := ⟨_, rfl⟩
        rw [hJ] at HJ hj1
        clear hb hx hl1 hjz
        rw [hJ]
        clear hJ
        have hsz : (J ++ (⟨#[32]⟩ : ByteArray)).size = J.size + 1 := by rw [ByteArray.size_append, hs1]
        go_wp2_with fail
        go_roundw
        case rel => exact ⟨k + 1, by omega, by go_num, by rw [← HJ.out], HR.out.alloc HR.out.size _⟩
        case measure => simp [intOf]; omega
    · obtain rfl : k = n := by omega
      clear hb
      go_wp2_with fail
      go_ret
      exact ⟨rfl, HR.out⟩
theorem tkJoin_none (a : Option Addr) (c : Nat) (w : World) :
    Calls Tryz.prog 69 #[.slice a 0 c] w (SaysT w ⟨#[]⟩) := by
  go_enter Tryz.func69, Tryz.ntmps69
  go_wp2
  refine wp_loop_rounds 1 ?_
  rw [rounds_succ]
  go_wp2
  go_ret
  exact ⟨rfl, Below.refl _ _⟩
theorem tkJoin_any (v : Value) (l : List Tok) (w : World) (h : Hid (SlT w v l)) (HZ : Hid (SzT l)) (hm : l.length ≤ 600) :
    Calls Tryz.prog 69 #[v] w (SaysT w (jS l l.length)) := by
  rcases h.out with ⟨hl, ad, c, hv⟩ | ⟨g, c, hv, ht, hg⟩
  · rw [hv, hl]; exact tkJoin_none _ _ w
  · rw [hv]; exact tkJoin_go g l.length c l w ht rfl hg hm HZ
end Go.Proofs.YtmmofchfafnkcaaGreatDoor

/- JoinTokens: contracts, program and model. -/
namespace Go.Proofs.YtmmofchfafnkcaaGreatDoor
set_option maxRecDepth 100000
open Go.RowKit
set_option linter.unusedVariables false

/-- what JoinTokens answers -/
def jnO (l : List Tok) : Bool := lsG l && decide ((jS l l.length).size ≤ 4000)
def jnR (l : List Tok) : ByteArray := if jnO l then jS l l.length else ⟨#[]⟩
def SaysTB (w : World) (t : ByteArray) (b : Bool) (e : Ending) (w' : World) : Prop := e = .returned (.tuple #[.string t, .bool b]) ∧ Below w.heap.size w w'
inductive JnWay (l : List Tok) : Prop
  | bad (h : lsG l = false) (o : jnO l = false) (r : jnR l = ⟨#[]⟩)
  | long (h : lsG l = true) (z : (4000 : Int) < (jS l l.length).size) (o : jnO l = false) (r : jnR l = ⟨#[]⟩)
  | good (h : lsG l = true) (z : ((jS l l.length).size : Int) ≤ 4000) (o : jnO l = true) (r : jnR l = jS l l.length)
theorem jn_way (l : List Tok) : JnWay l := by
  rcases Bool.eq_false_or_eq_true (lsG l) with h | h
  · by_cases z : (jS l l.length).size ≤ 4000
    · have o : jnO l = true := by unfold jnO; rw [h, decide_eq_true z]; rfl
      exact .good h (by omega) o (by unfold jnR; rw [if_pos o])
    · have o : jnO l = false := by unfold jnO; rw [decide_eq_false z, Bool.and_false]
      exact .long h (by omega) o (by unfold jnR; rw [if_neg (by rw [o]; simp)])
  · have o : jnO l = false := by unfold jnO; rw [h]; rfl
    exact .bad h o (by unfold jnR; rw [if_neg (by rw [o]; simp)])
theorem lsG_len {l : List Tok} (h : lsG l = true) : l.length ≤ 600 := by
  unfold lsG at h
  have := (Bool.and_eq_true_iff.1 h).2
  simpa using this
set_option maxHeartbeats 1600000 in
theorem specJoin_any (v : Value) (l : List Tok) (w : World) (h : Hid (SlT w v l)) (HZ : Hid (SzT l)) (hm : l.length ≤ 1048576) :
    Calls Tryz.prog 8 #[v] w (SaysTB w (jnR l) (jnO l)) := by
  have HL := Lib.hid (tkList_any v l w h HZ hm)
  rcases jn_way l with ⟨hg, o, r⟩ | ⟨hg, z, o, r⟩ | ⟨hg, z, o, r⟩
  · rw [hg] at HL
    rw [o, r]
    clear hg o r
    go_enter Tryz.func8, Tryz.ntmps8
    go_wp2_with (go_at_call 67; refine (HL.out).mono ?_; rintro e w1 ⟨rfl, b1⟩; have B1 := Lib.hid b1; clear b1)
    go_ret2
    exact ⟨rfl, B1.out⟩
  · have HJ := Lib.hid (fun w h => tkJoin_any v l w h HZ (lsG_len hg))
    rw [hg] at HL
    rw [o, r]
    obtain ⟨J, hJ⟩ : ∃ J, jS l l.length = J := ⟨_, rfl⟩
    rw [hJ] at HJ z
    clear hg o r hJ
    go_enter Tryz.func8, Tryz.ntmps8
    go_wp2_with (first | (go_at_call 67; refine (HL.out).mono ?_; rintro e w1 ⟨rfl, b1⟩; have B1 := Lib.hid b1; have S1 := Lib.hid (h.out.below b1); clear b1) | (go_at_call 69; refine (HJ.out _ S1).mono ?_; rintro e w2 ⟨rfl, b2⟩; have B2 := Lib.hid b2; clear b2) | (go_at_call 68; refine (scBytes_false _ _ z).mono ?_; rintro e w' ⟨rfl, rfl⟩))
    go_ret2
    exact ⟨rfl, B1.out.trans (B2.out.mono B1.out.size)⟩
  · have HJ := Lib.hid (fun w h => tkJoin_any v l w h HZ (lsG_len hg))
    rw [hg] at HL
    rw [o, r]
    obtain ⟨J, hJ⟩ : ∃ J, jS l l.length = J := ⟨_, rfl⟩
    rw [hJ] at HJ z ⊢
    clear hg o r hJ
    go_enter Tryz.func8, Tryz.ntmps8
    go_wp2_with (go_at_call 67; refine (HL.out).mono ?_; rintro e w1 ⟨rfl, b1⟩; have B1 := Lib.hid b1; have S1 := Lib.hid (h.out.below b1); clear b1)
    go_wp2_with (first | (go_at_call 69; refine (HJ.out _ S1).mono ?_; rintro e w2 ⟨rfl, b2⟩; have B2 := Lib.hid b2; have S2 := Lib.hid (S1.out.below b2); clear b2; refine Hid.out ?_))
    refine Lib.hid ?_
    go_wp2_with (first | (go_at_call 68; refine (scBytes_true _ _ z).mono ?_; rintro e w' ⟨rfl, rfl⟩) | (go_at_call 69; refine (HJ.out _ S2).mono ?_; rintro e w3 ⟨rfl, b3⟩; have B3 := Lib.hid b3; clear b3))
    go_ret2
    exact ⟨rfl, (B1.out.trans (B2.out.mono B1.out.size)).trans (B3.out.mono (Nat.le_trans B1.out.size B2.out.size))⟩
/-- the texts of the first tokens, the rest empty -/
def txL (l : List Tok) (k : Nat) : List ByteArray := (l.take k).map (fun x => x.t) ++ List.replicate (l.length - k) ⟨#[]⟩
theorem txL_len (l : List Tok) (k : Nat) (h : k ≤ l.length) : (txL l k).length = l.length := by unfold txL; simp; omega
theorem txL_set (l : List Tok) (k : Nat) (h : k < l.length) (x : Tok) (hx : l.getD k tok0 = x) : (txL l k).set k x.t = txL l (k + 1) := by
  have hl : l[k] = x := by rw [← hx]; simp [List.getD_eq_getElem?_getD, h]
  unfold txL
  rw [List.set_append_right _ _ (by simp; omega), List.take_succ_eq_append_getElem h, List.map_append, hl, List.append_assoc]
  congr 1
  have e1 : k - ((l.take k).map (fun x => x.t)).length = 0 := by simp; omega
  have e2 : l.length - k = (l.length - (k + 1)) + 1 := by omega
  rw [e1, e2, List.replicate_succ, List.set_cons_zero]
  rfl
theorem txL_all (l : List Tok) : txL l l.length = l.map (fun x => x.t) := by unfold txL; simp
theorem jn_join (l : List Tok) : (⟨(Lib.join ((l.map (fun x => x.t)).map (·.data.toList)) [32]).toArray⟩ : ByteArray) = jS l l.length := by
  unfold jS jL
  rw [List.take_length, List.map_map]
  rfl
def TxRel (W0 : World) (l : List Tok) (n gt : Nat) (i : Value) (wr : World) : Prop := ∃ k : Nat, k ≤ n ∧ i = .int .i64 k ∧ OwnS wr gt gt n n (txL l k) ∧ Below gt W0 wr
theorem impl_join_all (gt : Nat) (l : List Tok) (wr : World) (k : Nat) (hk : l.length = k) (hm : k ≤ 600) (ho : OwnS wr gt gt k k (txL l k)) (J : ByteArray) (HJ : jS l l.length = J) (hz : J.size ≤ 629146200) :
    Calls Tryz.prog 65 #[.slice (some ⟨gt, 0, none⟩) k k, .string ⟨#[32]⟩] wr (fun e w' => e = .returned (.string J) ∧ Below wr.heap.size wr w') := by
  subst hk
  rw [txL_all] at ho
  have hl : (l.map (fun x => x.t)).length = l.length := by simp
  have q := Tryz.strings_Join gt 0 l.length (l.map (fun x => x.t)) ⟨#[32]⟩ wr (by
    intro j x hx
    have hj : j < (l.map (fun x => x.t)).length := by
      rcases Nat.lt_or_ge j (l.map (fun x => x.t)).length with h | h
      · exact h
      · rw [List.getElem?_eq_none h] at hx; cases hx
    rw [Nat.zero_add, OwnS.cell ho j (by omega)]
    rw [List.getD_eq_getElem?_getD, hx]
    rfl) ho.lt.2 (by rw [hl]; omega) (by rw [hl]; exact Nat.le_refl _) (by
      have e := jn_join l
      rw [HJ] at e
      have e2 := congrArg ByteArray.size e
      have e3 : (Lib.join ((l.map (fun x => x.t)).map (·.data.toList)) [32]).length = J.size := by rw [← e2]; simp [ByteArray.size]
      show (Lib.join ((l.map (fun x => x.t)).map (·.data.toList)) [32]).length ≤ _
      rw [e3]; omega)
  rw [hl] at q
  refine q.mono ?_
  rintro e w' ⟨rfl, hb⟩
  have e := jn_join l
  rw [HJ] at e
  exact ⟨by rw [← e], hb⟩
theorem ret_two {a a' : ByteArray} {b : Bool} (h : a' = a) : Ending.returned (.tuple #[.string a, .bool b]) = Ending.returned (.tuple #[.string a', .bool b]) := by rw [h]
/-- where the loop begins -/
theorem tx_start (l : List Tok) (n : Nat) (hn : l.length = n) (hm : n ≤ 600) (w1 : World) :
    OwnS (w1.alloc (.cells (madeCells #[.string ⟨#[]⟩] n) 9)) w1.heap.size w1.heap.size n n (txL l 0) ∧ Below w1.heap.size w1 (w1.alloc (.cells (madeCells #[.string ⟨#[]⟩] n) 9)) := by
  refine ⟨?_, one_new2 w1 _⟩
  have h := World.ownsRow_lit (base := w1.heap.size) (e := 9) (size := 1) w1 (madeCells #[.string ⟨#[]⟩] n) n (Nat.le_refl _) (by unfold maxLen; omega) (by rw [← Array.length_toList, toList_madeCells_one]; simp)
  rw [toList_madeCells_one] at h
  unfold OwnS txL
  rw [hn]
  simpa [sv] using h
theorem OwnS.walk {w : World} {g n : Nat} {l : List ByteArray} (h : OwnS w g g n n l) (k : Nat) (hk : k < n) :
    (∀ o, (w.alloc o).cell? ⟨g, k, none⟩ = some (.string (l.getD k ⟨#[]⟩))) ∧ (∀ o, (w.alloc o).frozen? ⟨g, k, none⟩ = false) :=
  ⟨fun o => OwnS.cell (World.ownsRow.alloc (w := w) h o : OwnS (w.alloc o) g g n n l) k hk, fun o => World.ownsRow.frozenAt (World.ownsRow.alloc (w := w) h o) k⟩
theorem tx_round {W0 wr : World} {l : List Tok} {n gt k : Nat} {T : TypeId} {cs : Array Value} (ho : OwnS wr gt gt n n (txL l k)) (hb : Below gt W0 wr) (hk : k < l.length) (x : Tok) (hx : l.getD k tok0 = x) :
    OwnS ((wr.setCell ⟨gt, k, none⟩ (.string x.t)).alloc (.cells cs T)) gt gt n n (txL l (k + 1)) ∧ Below gt W0 ((wr.setCell ⟨gt, k, none⟩ (.string x.t)).alloc (.cells cs T)) := by
  have hlt := ho.lt.2
  have h2 := ho.store k x.t
  rw [txL_set l k hk x hx] at h2
  have b2 := hb.setCell (p := ⟨gt, k, none⟩) (Nat.le_refl gt) (.string x.t)
  exact ⟨World.ownsRow.alloc h2 _, b2.alloc (by simp; omega) _⟩
set_option maxHeartbeats 3200000 in
theorem implJoin_try (g n c : Nat) (l : List Tok) (w : World) (HT : Hid (Tabs w)) (h : Hid (SlT w (.slice (some ⟨g, 0, none⟩) n c) l)) (HTk : Hid (ToksAt w g l)) (hg : g < w.heap.size) (HZ : Hid (SzT l)) (hn : Hid (l.length = n)) (h0 : 0 < n) (hm : n ≤ 600) (hls : Hid (lsG l = true)) (J : ByteArray) (HJ : Hid (jS l l.length = J)) (b : Bool) (hjz : J.size ≤ 629146200)
    (HS : Hid (∀ w, Calls Tryz.prog 66 #[.string J] w fun e w' => e = .returned (.bool b) ∧ w = w')) (R : ByteArray) (HR : Hid (R = if b then J else ⟨#[]⟩)) :
    Calls Tryz.prog 7 #[.slice (some ⟨g, 0, none⟩) n c] w (SaysTB w R b) := by
  have HA := Lib.hid (fun w HT h => areTokens_any (.slice (some ⟨g, 0, none⟩) n c) l w HT h HZ)
  rw [hls.out] at HA
  have hmk := run_make_row' (P := Tryz.prog) 82 9 (.string ⟨#[]⟩) 16 Tryz.underlying82 infoStr rfl .i64 .i64 n (by omega) (by omega)
  go_enter Tryz.func7, Tryz.ntmps7
  go_wp2_with (go_at_call 64; refine (HA.out _ HT h).mono ?_; rintro e w1 ⟨rfl, b1⟩; have B1 := Lib.hid b1; have K1 := Lib.hid (HTk.out.below b1 hg); have hg1 := Nat.lt_of_lt_of_le hg b1.size; clear b1)
  have hst := tx_start l n hn.out hm w1
  have HST := Lib.hid hst
  clear hst
  go_loopw [16] (fun i wr => TxRel w1 l n w1.heap.size i wr) (fun i _ => n - (intOf i).toNat)
  case atStart => exact ⟨0, Nat.zero_le _, rfl, HST.out.1, HST.out.2⟩
  case round =>
    obtain ⟨k, hk, rfl, ho, hb⟩ := hrel
    have HO := Lib.hid ho
    have HB := Lib.hid hb
    by_cases hlt : k < n
    · obtain ⟨x, hx⟩ : ∃ x, l.getD k tok0 = x := ⟨_, rfl⟩
      have hl1 : k < l.length := by rw [hn.out]; exact hlt
      obtain ⟨a0, a1, a2, a3⟩ := (K1.out.below hb hg1).four k hl1 x hx
      obtain ⟨s0, s1⟩ := ho.walk k hlt
      obtain ⟨xk, xa, xt, xv⟩ := x
      have HX := Lib.hid hx
      have hgt := ho.lt.2
      clear ho hb hx
      go_wp2_with fail
      go_roundw
      case rel =>
        have q := tx_round (T := 31) (cs := #[.int .i64 xk, .int .i64 xa, .string xt, .int .i64 xv]) HO.out HB.out hl1 ⟨xk, xa, xt, xv⟩ HX.out
        exact ⟨k + 1, by omega, by go_num, q.1, q.2⟩
      case measure => simp [intOf]; omega
    · have hkn : k = n := by omega
      subst hkn
      have hgt := ho.lt.2
      have HB1 := Lib.hid (B1.out.trans (HB.out.mono B1.out.size))
      have HJN := Lib.hid (impl_join_all w1.heap.size l wr k hn.out hm ho J HJ.out hjz)
      clear ho hb
      cases b
      all_goals
        go_wp2_with (first | (go_at_call 65; refine (HJN.out).mono ?_; rintro e w2 ⟨rfl, b2⟩; have B2 := Lib.hid b2; clear b2) | (go_at_call 66; refine (HS.out _).mono ?_; rintro e w' ⟨rfl, rfl⟩))
        go_ret2
        exact ⟨ret_two (by rw [HR.out]; rfl), HB1.out.trans (B2.out.mono HB1.out.size)⟩
set_option maxHeartbeats 1600000 in
theorem implJoin_none (a : Option Addr) (c : Nat) (w : World) (HT : Hid (Tabs w)) :
    Calls Tryz.prog 7 #[.slice a 0 c] w (SaysTB w ⟨#[]⟩ true) := by
  have HA := Lib.hid (fun w HT h => areTokens_any (.slice a 0 c) [] w HT h (Lib.hid (fun k h => absurd h (by simp))))
  have e : lsG [] = true := rfl
  rw [e] at HA
  clear e
  have hs := (show Hid (SlT w (.slice a 0 c) []) from Lib.hid (.inl ⟨rfl, a, c, rfl⟩))
  have hmk := run_make_row' (P := Tryz.prog) 82 9 (.string ⟨#[]⟩) 16 Tryz.underlying82 infoStr rfl .i64 .i64 0 (by omega) (by omega)
  rw [show ((0 : Nat) : Int) = 0 from rfl] at hmk
  go_enter Tryz.func7, Tryz.ntmps7
  go_wp2_with (go_at_call 64; refine (HA.out _ HT hs).mono ?_; rintro e w1 ⟨rfl, b1⟩; have B1 := Lib.hid b1; clear b1)
  refine wp_loop_rounds 1 ?_
  rw [rounds_succ]
  go_wp2_with (first | (go_at_call 65; refine (Tryz.strings_Join_none _ _ _ _).mono ?_; rintro e w2 ⟨rfl, rfl⟩) | (go_at_call 66; refine (isText_true _ _ (by decide)).mono ?_; rintro e w' ⟨rfl, rfl⟩))
  go_ret2
  exact ⟨rfl, B1.out.alloc B1.out.size _⟩
theorem implJoin_bad (v : Value) (l : List Tok) (w : World) (HT : Hid (Tabs w)) (h : Hid (SlT w v l)) (HZ : Hid (SzT l)) (hls : lsG l = false) :
    Calls Tryz.prog 7 #[v] w (SaysTB w ⟨#[]⟩ false) := by
  have HA := Lib.hid (fun w HT h => areTokens_any v l w HT h HZ)
  rw [hls] at HA
  clear hls
  go_enter Tryz.func7, Tryz.ntmps7
  go_wp2_with (go_at_call 64; refine (HA.out _ HT h).mono ?_; rintro e w1 ⟨rfl, b1⟩; have B1 := Lib.hid b1; clear b1)
  go_ret2
  exact ⟨rfl, B1.out⟩
theorem implJoin_any (v : Value) (l : List Tok) (w : World) (HT : Hid (Tabs w)) (h : Hid (SlT w v l)) (HZ : Hid (SzT l)) :
    Calls Tryz.prog 7 #[v] w (SaysTB w (jnR l) (jnO l)) := by
  rcases h.out with ⟨hl, ad, c, hv⟩ | ⟨g, c, hv, ht, hg⟩
  · have e1 : jnO [] = true := rfl
    have e2 : jnR [] = ⟨#[]⟩ := rfl
    rw [hl, hv, e1, e2]
    exact implJoin_none ad c w HT
  · rcases Nat.eq_zero_or_pos l.length with h0 | h0
    · have hl := List.eq_nil_of_length_eq_zero h0
      have e1 : jnO [] = true := rfl
      have e2 : jnR [] = ⟨#[]⟩ := rfl
      rw [h0] at hv
      rw [hl, hv, e1, e2]
      exact implJoin_none _ c w HT
    · rcases jn_way l with ⟨hls, o, r⟩ | ⟨hls, z, o, r⟩ | ⟨hls, z, o, r⟩
      · rw [o, r]; exact implJoin_bad v l w HT h HZ hls
      · have hm := lsG_len hls
        have hs := jS_size l HZ.out l.length (Nat.le_refl _)
        rw [o, r, hv]
        rw [hv] at h
        exact implJoin_try g l.length c l w HT h ht hg HZ rfl h0 hm hls (jS l l.length) rfl false (by have := Nat.mul_le_mul_right 1048577 hm; omega) (fun w => isText_false _ w z) _ rfl
      · have hm := lsG_len hls
        have hs := jS_size l HZ.out l.length (Nat.le_refl _)
        rw [o, r, hv]
        rw [hv] at h
        exact implJoin_try g l.length c l w HT h ht hg HZ rfl h0 hm hls (jS l l.length) rfl true (by omega) (fun w => isText_true _ w z) _ rfl
end Go.Proofs.YtmmofchfafnkcaaGreatDoor

/- SpacedText: contracts, program and model. -/
namespace Go.Proofs.YtmmofchfafnkcaaGreatDoor
set_option maxRecDepth 100000
open Go.RowKit
set_option linter.unusedVariables false

/-- the texts of the tokens of a text are short -/
theorem SzT.snoc {l : List Tok} {x : Tok} (h : SzT l) (hx : x.t.size ≤ 1048576) : SzT (l ++ [x]) := by
  intro k hk
  rw [List.length_append] at hk
  by_cases hlt : k < l.length
  · have := h k hlt
    rw [List.getD_eq_getElem?_getD, List.getElem?_append_left hlt, ← List.getD_eq_getElem?_getD]
    exact this
  · have hk1 : k = l.length := by simp at hk; omega
    subst hk1
    simp [List.getD_eq_getElem?_getD, hx]
theorem SzT.nil : SzT [] := fun k h => absurd h (by simp)
theorem tkA_size (s : ByteArray) (i : Nat) : (tkA s i).t.size ≤ s.size := by
  unfold tkA
  simp only []
  split
  · exact Nat.zero_le _
  · split
    · show (ftL _).size ≤ _
      have := ftL_len (s.data.toList.drop (i + skL false (s.data.toList.drop i)))
      rw [List.length_drop, ← size_list] at this
      omega
    · exact Nat.zero_le _
theorem tkGo_sz (s : ByteArray) (hs : s.size ≤ 4000) : ∀ m i acc, SzT acc → SzT (tkGo s m i acc).l
  | 0, _, _, _ => SzT.nil
  | m + 1, i, acc, h => by
    unfold tkGo
    split
    · exact SzT.nil
    · split
      · exact h
      · split
        · exact SzT.nil
        · exact tkGo_sz s hs m _ _ (h.snoc (Nat.le_trans (tkA_size s i) (by omega)))
theorem tkT_sz (s : ByteArray) : SzT (tkT s).l := by
  unfold tkT
  split
  · rename_i h; exact tkGo_sz s h 601 0 [] SzT.nil
  · exact SzT.nil
/-- what SpacedText answers -/
def spO (s : ByteArray) : Bool := flO s && jnO (tkT s).l
def spR (s : ByteArray) : ByteArray := if flO s then jnR (tkT s).l else ⟨#[]⟩
theorem sp_no {s : ByteArray} (h : flO s = false) : spO s = false ∧ spR s = ⟨#[]⟩ := ⟨by unfold spO; rw [h]; rfl, by unfold spR; rw [if_neg (by rw [h]; simp)]⟩
theorem sp_yes {s : ByteArray} (h : flO s = true) : spO s = jnO (tkT s).l ∧ spR s = jnR (tkT s).l := ⟨by unfold spO; rw [h]; rfl, by unfold spR; rw [if_pos h]⟩
set_option maxHeartbeats 1600000 in
theorem specSpaced_any (s : ByteArray) (w : World) : Calls Tryz.prog 79 #[.string s] w (SaysTB w (spR s) (spO s)) := by
  have HA := Lib.hid (fun w => specTokensOf_any s w)
  have HZ := Lib.hid (tkT_sz s)
  have hl1 := tkT_len s
  have HO : Hid (flO s = (tkO s && ((tkT s).f == 0))) := Lib.hid rfl
  have HN := Lib.hid (fun h => sp_no (s := s) h)
  have HY := Lib.hid (fun h => sp_yes (s := s) h)
  obtain ⟨R, hR⟩ : ∃ R, tkT s = R := ⟨_, rfl⟩
  obtain ⟨o, ho⟩ : ∃ o, tkO s = o := ⟨_, rfl⟩
  rw [hR] at HA HY HO HZ hl1
  rw [ho] at HA HO
  clear ho hR
  obtain ⟨l, f, g⟩ := R
  have hl2 : l.length ≤ 1048576 := Nat.le_trans hl1 (by omega)
  have HJ := Lib.hid (fun v w h => specJoin_any v l w h HZ hl2)
  cases o
  · have HX := Lib.hid (HN.out (by rw [HO.out]; rfl))
    rw [HX.out.1, HX.out.2]
    clear HY HN HX HO
    go_enter Tryz.func79, Tryz.ntmps79
    go_wp2_with (go_at_call 26; refine (HA.out _).mono ?_; rintro e w1 ⟨v, rfl, o1, b1⟩; have B1 := Lib.hid b1; clear b1 o1)
    go_ret2
    exact ⟨rfl, B1.out.alloc B1.out.size _⟩
  · by_cases hf : f = 0
    · subst hf
      have HX := Lib.hid (HY.out (by rw [HO.out]; rfl))
      rw [HX.out.1, HX.out.2]
      clear HY HN HX HO
      show Calls Tryz.prog 79 #[.string s] w (SaysTB w (jnR l) (jnO l))
      obtain ⟨r, hr⟩ : ∃ r, jnR l = r := ⟨_, rfl⟩
      obtain ⟨p, hp⟩ : ∃ p, jnO l = p := ⟨_, rfl⟩
      rw [hr, hp] at HJ
      rw [hr, hp]
      clear hr hp
      go_enter Tryz.func79, Tryz.ntmps79
      go_wp2_with (go_at_call 26; refine (HA.out _).mono ?_; rintro e w1 ⟨v, rfl, o1, b1⟩; have B1 := Lib.hid b1; have O1 := Lib.hid o1.slt; clear b1 o1; refine Hid.out ?_)
      refine Lib.hid ?_
      go_wp2_with (go_at_call 8; refine (HJ.out v _ (O1.out.below (one_new2 _ _))).mono ?_; rintro e w2 ⟨rfl, b2⟩; have B2 := Lib.hid ((one_new2 _ _).trans (b2.mono (one_new2 _ _).size)); clear b2)
      go_ret2
      exact ⟨rfl, B1.out.trans (B2.out.mono B1.out.size)⟩
    · have df : (f != 0) = true := by simpa using hf
      have HX := Lib.hid (HN.out (by rw [HO.out]; simp [hf]))
      rw [HX.out.1, HX.out.2]
      clear HY HN HX HO hf
      go_enter Tryz.func79, Tryz.ntmps79
      go_wp2_with (go_at_call 26; refine (HA.out _).mono ?_; rintro e w1 ⟨v, rfl, o1, b1⟩; have B1 := Lib.hid b1; clear b1 o1)
      go_ret2
      exact ⟨rfl, B1.out.alloc B1.out.size _⟩
end Go.Proofs.YtmmofchfafnkcaaGreatDoor

/- SameTokens: contracts, program and model. -/
namespace Go.Proofs.YtmmofchfafnkcaaGreatDoor
set_option maxRecDepth 100000
open Go.RowKit
set_option linter.unusedVariables false

/-- what SameTokens answers -/
def smO (s t : ByteArray) : Bool := flO s && flO t
def smR (s t : ByteArray) : Bool := smO s t && sameL (tkT s).l (tkT t).l
theorem smR_no {s t : ByteArray} (h : smO s t = false) : smR s t = false := by unfold smR; rw [h]; rfl
theorem smR_yes {s t : ByteArray} (h : smO s t = true) : smR s t = sameL (tkT s).l (tkT t).l := by unfold smR; rw [h]; rfl
def SaysBB (w : World) (a b : Bool) (e : Ending) (w' : World) : Prop := e = .returned (.tuple #[.bool a, .bool b]) ∧ Below w.heap.size w w'
set_option maxHeartbeats 1600000 in
theorem implSame_any (s t : ByteArray) (w : World) (hT : Hid (Tabs w)) : Calls Tryz.prog 17 #[.string s, .string t] w (SaysBB w (smR s t) (smO s t)) := by
  have HA := Lib.hid (fun w hT => faultless_any s w hT)
  have HB := Lib.hid (fun w hT => faultless_any t w hT)
  have hl1 := tkT_len s
  have HO : Hid (smO s t = (flO s && flO t)) := Lib.hid rfl
  have HN := Lib.hid (fun h => smR_no (s := s) (t := t) h)
  have HY := Lib.hid (fun h => smR_yes (s := s) (t := t) h)
  obtain ⟨l, hl⟩ : ∃ l, (tkT s).l = l := ⟨_, rfl⟩
  obtain ⟨m, hm⟩ : ∃ m, (tkT t).l = m := ⟨_, rfl⟩
  obtain ⟨o, ho⟩ : ∃ o, flO s = o := ⟨_, rfl⟩
  obtain ⟨o', ho'⟩ : ∃ o, flO t = o := ⟨_, rfl⟩
  rw [hl] at HA HY hl1
  rw [hm] at HB HY
  rw [ho] at HA HO
  rw [ho'] at HB HO
  clear ho ho' hl hm
  have hl2 : l.length ≤ 1048576 := Nat.le_trans hl1 (by omega)
  have HE := Lib.hid (fun v v' w h h' => equalFunc_any v v' l m w h h' hl2)
  cases o
  · have HX : Hid (smR s t = false ∧ smO s t = false) := Lib.hid ⟨HN.out (by rw [HO.out]; rfl), by rw [HO.out]; rfl⟩
    go_enter Tryz.func17, Tryz.ntmps17
    go_wp2_with (go_at_call 71; refine (HA.out _ hT).mono ?_; rintro e w1 ⟨v, rfl, o1, b1⟩; have B1 := Lib.hid b1; have O1 := Lib.hid o1; have T1 := Lib.hid (hT.out.below b1); clear b1 o1; refine Hid.out ?_)
    refine Lib.hid ?_
    go_wp2_with (go_at_call 71; refine (HB.out _ T1).mono ?_; rintro e w2 ⟨v', rfl, o2, b2⟩; have B2 := Lib.hid b2; have O2 := Lib.hid o2; clear b2 o2)
    go_ret2
    exact ⟨ret_pair (by rw [HX.out.1]; rfl) (by rw [HX.out.2]; rfl), B1.out.trans (B2.out.mono B1.out.size)⟩
  · cases o'
    · have HX : Hid (smR s t = false ∧ smO s t = false) := Lib.hid ⟨HN.out (by rw [HO.out]; rfl), by rw [HO.out]; rfl⟩
      go_enter Tryz.func17, Tryz.ntmps17
      go_wp2_with (go_at_call 71; refine (HA.out _ hT).mono ?_; rintro e w1 ⟨v, rfl, o1, b1⟩; have B1 := Lib.hid b1; have O1 := Lib.hid o1; have T1 := Lib.hid (hT.out.below b1); clear b1 o1; refine Hid.out ?_)
      refine Lib.hid ?_
      go_wp2_with (go_at_call 71; refine (HB.out _ T1).mono ?_; rintro e w2 ⟨v', rfl, o2, b2⟩; have B2 := Lib.hid b2; have O2 := Lib.hid o2; clear b2 o2)
      go_ret2
      exact ⟨ret_pair (by rw [HX.out.1]; rfl) (by rw [HX.out.2]; rfl), B1.out.trans (B2.out.mono B1.out.size)⟩
    · have HX : Hid (smR s t = sameL l m ∧ smO s t = true) := Lib.hid ⟨HY.out (by rw [HO.out]; rfl), by rw [HO.out]; rfl⟩
      obtain ⟨r, hr⟩ : ∃ r, sameL l m = r := ⟨_, rfl⟩
      rw [hr] at HX HE
      clear hr
      go_enter Tryz.func17, Tryz.ntmps17
      go_wp2_with (go_at_call 71; refine (HA.out _ hT).mono ?_; rintro e w1 ⟨v, rfl, o1, b1⟩; have B1 := Lib.hid b1; have O1 := Lib.hid o1; have T1 := Lib.hid (hT.out.below b1); clear b1 o1; refine Hid.out ?_)
      refine Lib.hid ?_
      go_wp2_with (go_at_call 71; refine (HB.out _ T1).mono ?_; rintro e w2 ⟨v', rfl, o2, b2⟩; have B2 := Lib.hid b2; have S2 := Lib.hid (O1.out.slt.below b2); have S2' := Lib.hid o2.slt; clear b2 o2)
      go_wp2_with (go_at_call 72; refine (HE.out v v' _ S2 S2').mono ?_; rintro e w3 ⟨rfl, b3⟩; have B3 := Lib.hid b3; clear b3)
      go_ret2
      exact ⟨ret_pair (by rw [HX.out.1]; rfl) (by rw [HX.out.2]; rfl), (B1.out.trans (B2.out.mono B1.out.size)).trans (B3.out.mono (Nat.le_trans B1.out.size B2.out.size))⟩
set_option maxHeartbeats 3200000 in
theorem specSame_any (s t : ByteArray) (w : World) : Calls Tryz.prog 18 #[.string s, .string t] w (SaysBB w (smR s t) (smO s t)) := by
  have HA := Lib.hid (fun w => specTokensOf_any s w)
  have HB := Lib.hid (fun w => specTokensOf_any t w)
  have hl1 := tkT_len s
  have HO : Hid (smO s t = ((tkO s && ((tkT s).f == 0)) && (tkO t && ((tkT t).f == 0)))) := Lib.hid rfl
  have HN := Lib.hid (fun h => smR_no (s := s) (t := t) h)
  have HY := Lib.hid (fun h => smR_yes (s := s) (t := t) h)
  obtain ⟨R, hR⟩ : ∃ R, tkT s = R := ⟨_, rfl⟩
  obtain ⟨R', hR'⟩ : ∃ R, tkT t = R := ⟨_, rfl⟩
  obtain ⟨o, ho⟩ : ∃ o, tkO s = o := ⟨_, rfl⟩
  obtain ⟨o', ho'⟩ : ∃ o, tkO t = o := ⟨_, rfl⟩
  rw [hR] at HA HY hl1 HO
  rw [hR'] at HB HY HO
  rw [ho] at HA HO
  rw [ho'] at HB HO
  clear ho ho' hR hR'
  obtain ⟨l, f, g⟩ := R
  obtain ⟨m, f', g'⟩ := R'
  have hl2 : l.length ≤ 1048576 := Nat.le_trans hl1 (by omega)
  have HE := Lib.hid (fun v v' w h h' => tkSame_any v v' l m w h h' hl2)
  by_cases hgo : o = true ∧ o' = true ∧ f = 0 ∧ f' = 0
  · obtain ⟨rfl, rfl, rfl, rfl⟩ := hgo
    have HX : Hid (smR s t = sameL l m ∧ smO s t = true) := Lib.hid ⟨HY.out (by rw [HO.out]; rfl), by rw [HO.out]; rfl⟩
    obtain ⟨r, hr⟩ : ∃ r, sameL l m = r := ⟨_, rfl⟩
    rw [hr] at HX HE
    clear hr
    go_enter Tryz.func18, Tryz.ntmps18
    go_wp2_with (go_at_call 26; refine (HA.out _).mono ?_; rintro e w1 ⟨v, rfl, o1, b1⟩; have B1 := Lib.hid b1; have O1 := Lib.hid o1; clear b1 o1; refine Hid.out ?_)
    refine Lib.hid ?_
    go_wp2_with fail
    obtain ⟨wa, hwa⟩ : ∃ wa, w1.alloc (.cells #[.int .i64 0, .int .i64 g] 46) = wa := ⟨_, rfl⟩
    rw [hwa]
    have PA := Lib.hid (two_cells hwa)
    have BA := Lib.hid (B1.out.trans (PA.out.2.1.mono B1.out.size))
    have SA := Lib.hid (O1.out.slt.below PA.out.2.1)
    clear hwa
    go_wp2_with (go_at_call 26; refine (HB.out _).mono ?_; rintro e w2 ⟨v', rfl, o2, b2⟩; obtain ⟨c0, c1⟩ := PA.out.1.below b2 PA.out.2.2; have B2 := Lib.hid (BA.out.trans (b2.mono BA.out.size)); have S2 := Lib.hid (SA.out.below b2); have O2 := Lib.hid o2.slt; have C2 := bcell (one_new2 w2 (.cells #[.int .i64 0, .int .i64 g'] 46)); have e0 := (C2.1 w1.heap.size 0 (Nat.lt_of_lt_of_le PA.out.2.2 b2.size)).trans c0; clear C2 b2 o2)
    go_wp2_with (go_at_call 76; refine (HE.out v v' _ (S2.out.below (one_new2 _ _)) (O2.out.below (one_new2 _ _))).mono ?_; rintro e w3 ⟨rfl, b3⟩; have B3 := Lib.hid ((one_new2 _ _).trans (b3.mono (one_new2 _ _).size)); clear b3)
    go_ret2
    exact ⟨ret_pair (by rw [HX.out.1]; rfl) (by rw [HX.out.2]; rfl), B2.out.trans (B3.out.mono B2.out.size)⟩
  · have HG := Lib.hid hgo
    have HX : Hid (smR s t = false ∧ smO s t = false) := Lib.hid (by
      have h0 : smO s t = false := by
        rw [HO.out, Bool.eq_false_iff]
        intro q
        simp at q
        exact hgo ⟨q.1.1, q.2.1, q.1.2, q.2.2⟩
      exact ⟨HN.out h0, h0⟩)
    clear hgo HN HY HE HO
    cases o
    · skip
      go_enter Tryz.func18, Tryz.ntmps18
      go_wp2_with (go_at_call 26; refine (HA.out _).mono ?_; rintro e w1 ⟨v, rfl, o1, b1⟩; have B1 := Lib.hid b1; clear b1 o1; refine Hid.out ?_)
      refine Lib.hid ?_
      go_wp2_with fail
      obtain ⟨wa, hwa⟩ : ∃ wa, w1.alloc (.cells #[.int .i64 f, .int .i64 g] 46) = wa := ⟨_, rfl⟩
      rw [hwa]
      have PA := Lib.hid (two_cells hwa)
      have BA := Lib.hid (B1.out.trans (PA.out.2.1.mono B1.out.size))
      clear hwa
      go_wp2_with (go_at_call 26; refine (HB.out _).mono ?_; rintro e w2 ⟨v', rfl, o2, b2⟩; obtain ⟨c0, c1⟩ := PA.out.1.below b2 PA.out.2.2; have B2 := Lib.hid (BA.out.trans (b2.mono BA.out.size)); have C2 := bcell (one_new2 w2 (.cells #[.int .i64 f', .int .i64 g'] 46)); have e0 := (C2.1 w1.heap.size 0 (Nat.lt_of_lt_of_le PA.out.2.2 b2.size)).trans c0; clear C2 b2 o2)
      go_ret2
      exact ⟨ret_pair (by rw [HX.out.1]; rfl) (by rw [HX.out.2]; rfl), B2.out.alloc B2.out.size _⟩
    · cases o'
      · skip
        go_enter Tryz.func18, Tryz.ntmps18
        go_wp2_with (go_at_call 26; refine (HA.out _).mono ?_; rintro e w1 ⟨v, rfl, o1, b1⟩; have B1 := Lib.hid b1; clear b1 o1; refine Hid.out ?_)
        refine Lib.hid ?_
        go_wp2_with fail
        obtain ⟨wa, hwa⟩ : ∃ wa, w1.alloc (.cells #[.int .i64 f, .int .i64 g] 46) = wa := ⟨_, rfl⟩
        rw [hwa]
        have PA := Lib.hid (two_cells hwa)
        have BA := Lib.hid (B1.out.trans (PA.out.2.1.mono B1.out.size))
        clear hwa
        go_wp2_with (go_at_call 26; refine (HB.out _).mono ?_; rintro e w2 ⟨v', rfl, o2, b2⟩; obtain ⟨c0, c1⟩ := PA.out.1.below b2 PA.out.2.2; have B2 := Lib.hid (BA.out.trans (b2.mono BA.out.size)); have C2 := bcell (one_new2 w2 (.cells #[.int .i64 f', .int .i64 g'] 46)); have e0 := (C2.1 w1.heap.size 0 (Nat.lt_of_lt_of_le PA.out.2.2 b2.size)).trans c0; clear C2 b2 o2)
        go_ret2
        exact ⟨ret_pair (by rw [HX.out.1]; rfl) (by rw [HX.out.2]; rfl), B2.out.alloc B2.out.size _⟩
      · by_cases hf : f = 0
        · have df : (f' != 0) = true := by
            have := HG.out
            by_cases q : f' = 0
            · exact absurd ⟨rfl, rfl, hf, q⟩ this
            · simpa using q
          subst hf
          clear HG
          go_enter Tryz.func18, Tryz.ntmps18
          go_wp2_with (go_at_call 26; refine (HA.out _).mono ?_; rintro e w1 ⟨v, rfl, o1, b1⟩; have B1 := Lib.hid b1; clear b1 o1; refine Hid.out ?_)
          refine Lib.hid ?_
          go_wp2_with fail
          obtain ⟨wa, hwa⟩ : ∃ wa, w1.alloc (.cells #[.int .i64 0, .int .i64 g] 46) = wa := ⟨_, rfl⟩
          rw [hwa]
          have PA := Lib.hid (two_cells hwa)
          have BA := Lib.hid (B1.out.trans (PA.out.2.1.mono B1.out.size))
          clear hwa
          go_wp2_with (go_at_call 26; refine (HB.out _).mono ?_; rintro e w2 ⟨v', rfl, o2, b2⟩; obtain ⟨c0, c1⟩ := PA.out.1.below b2 PA.out.2.2; have B2 := Lib.hid (BA.out.trans (b2.mono BA.out.size)); have C2 := bcell (one_new2 w2 (.cells #[.int .i64 f', .int .i64 g'] 46)); have e0 := (C2.1 w1.heap.size 0 (Nat.lt_of_lt_of_le PA.out.2.2 b2.size)).trans c0; clear C2 b2 o2)
          go_ret2
          exact ⟨ret_pair (by rw [HX.out.1]; rfl) (by rw [HX.out.2]; rfl), B2.out.alloc B2.out.size _⟩
        · have df : (f != 0) = true := by simpa using hf
          clear hf HG
          go_enter Tryz.func18, Tryz.ntmps18
          go_wp2_with (go_at_call 26; refine (HA.out _).mono ?_; rintro e w1 ⟨v, rfl, o1, b1⟩; have B1 := Lib.hid b1; clear b1 o1; refine Hid.out ?_)
          refine Lib.hid ?_
          go_wp2_with fail
          obtain ⟨wa, hwa⟩ : ∃ wa, w1.alloc (.cells #[.int .i64 f, .int .i64 g] 46) = wa := ⟨_, rfl⟩
          rw [hwa]
          have PA := Lib.hid (two_cells hwa)
          have BA := Lib.hid (B1.out.trans (PA.out.2.1.mono B1.out.size))
          clear hwa
          go_wp2_with (go_at_call 26; refine (HB.out _).mono ?_; rintro e w2 ⟨v', rfl, o2, b2⟩; obtain ⟨c0, c1⟩ := PA.out.1.below b2 PA.out.2.2; have B2 := Lib.hid (BA.out.trans (b2.mono BA.out.size)); have C2 := bcell (one_new2 w2 (.cells #[.int .i64 f', .int .i64 g'] 46)); have e0 := (C2.1 w1.heap.size 0 (Nat.lt_of_lt_of_le PA.out.2.2 b2.size)).trans c0; clear C2 b2 o2)
          go_ret2
          exact ⟨ret_pair (by rw [HX.out.1]; rfl) (by rw [HX.out.2]; rfl), B2.out.alloc B2.out.size _⟩
end Go.Proofs.YtmmofchfafnkcaaGreatDoor
