import Derived.Test.YthgbhnedfdnfpaaDoorPkza
import Derived.Test.YthgbhnedfdnfpaaDoorPkh
import Derived.Test.YthgbhnedfdnfpaaDoorPky
/- Chapter 4's functions that return lists of indices: all leaves, ways up. -/
namespace Go.Proofs.YthgbhnedfdnfpaaDoor
set_option maxRecDepth 100000
open Go.RowKit
set_option linter.unusedVariables false

/-- the indices of the leaves, from an index on -/
def lvsF (cs : List Cls) : Nat → List Cls → List Nat
  | _, [] => []
  | k, x :: r => if hasK cs x.i then lvsF cs (k + 1) r else k :: lvsF cs (k + 1) r
theorem lvsF_at (cs : List Cls) (k : Nat) (h : k < cs.length) (x : Cls) (hx : cs.getD k cls0 = x) : lvsF cs k (cs.drop k) = if hasK cs x.i then lvsF cs (k + 1) (cs.drop (k + 1)) else k :: lvsF cs (k + 1) (cs.drop (k + 1)) := by
  rw [drop_cls cs k h x hx, lvsF]
theorem lvsF_end (cs : List Cls) (k : Nat) (h : cs.length ≤ k) : lvsF cs k (cs.drop k) = [] := by
  rw [List.drop_eq_nil_of_le h]; rfl
theorem lvsF_len (cs : List Cls) : ∀ (l : List Cls) (k : Nat), (lvsF cs k l).length ≤ l.length
  | [], _ => Nat.le_refl _
  | y :: r, k => by
    have := lvsF_len cs r (k + 1)
    unfold lvsF
    split <;> simp <;> omega
def leaves (cs : List Cls) : List Nat := lvsF cs 0 cs
def resLeavesOf1 (c : Cfg) : List Nat := if goodC c then leaves c.cs else []
def resLeavesOf2 (c : Cfg) : Bool := goodC c
theorem lenLeavesOf (c : Cfg) : (resLeavesOf1 c).length ≤ 24 := by
  unfold resLeavesOf1
  by_cases h : goodC c = true
  · rw [if_pos h]
    have h1 := lvsF_len c.cs c.cs 0
    have h2 := (good_of h).n24
    unfold leaves
    omega
  · rw [if_neg h]; simp
theorem lo_bad {c : Cfg} (h : goodC c = false) : resLeavesOf1 c = [] ∧ resLeavesOf2 c = false := by unfold resLeavesOf1 resLeavesOf2; rw [h]; exact ⟨rfl, rfl⟩
theorem lo_good {c : Cfg} (h : goodC c = true) : resLeavesOf1 c = leaves c.cs ∧ resLeavesOf2 c = true := by unfold resLeavesOf1 resLeavesOf2; rw [h]; exact ⟨rfl, rfl⟩
def LvRel (w : World) (o : Obj) (B n : Nat) (cs : List Cls) (K : List Nat) (out i : Value) (wr : World) : Prop :=
  ∃ (k : Nat) (ks : List Nat), k ≤ n ∧ ks.length ≤ k ∧ i = .int .i64 k ∧ Aft w o wr ∧ wr.ownsRow B 3 1 out ks.length (nv ks) ∧ Hid (ks ++ lvsF cs k (cs.drop k) = K)
set_option maxHeartbeats 6400000 in
theorem cfLeaves_any (s : ByteArray) (ac af : Option Addr) (n cc m cf : Nat) (d : Int) (cs : List Cls) (w : World) (HI : Hid (InX w ac n (clsCs cs))) (hn : Hid (cs.length = n)) (hm : n ≤ 1048576) :
    Calls Tryd.prog 32 #[(.agg #[.string s, .slice ac n cc, .slice af m cf, .int .i64 d])] w (SaysNs w (leaves cs)) := by
  obtain ⟨i0, hi, hz0, hz1, hz2⟩ := info_parts infoI
  obtain ⟨K, hK⟩ : ∃ K, leaves cs = K := ⟨_, rfl⟩
  have H0 : Hid ([] ++ lvsF cs 0 (cs.drop 0) = K) := Lib.hid hK
  have HLF := Lib.hid (fun q w HI hq => cfLeaf_any s ac af n cc m cf d cs q w HI hn hm hq)
  rw [hK]
  clear hK
  go_enter Tryd.func32, Tryd.ntmps32
  go_wp2_with fail
  go_loopw [3, 8] (fun out i wr => LvRel w (Obj.cells #[.string s, .slice ac n cc, .slice af m cf, .int .i64 d] 26) (w.heap.size + 1) n cs K out i wr) (fun _ i _ => n - (intOf i).toNat)
  case atStart => exact ⟨0, [], Nat.zero_le _, Nat.le_refl _, rfl, Aft.refl _ _, World.ownsRow_nil _ _ _ _, H0⟩
  case round =>
    obtain ⟨k, ks, hk, hkl, rfl, hb, ho, HP⟩ := hrel
    have HB := Lib.hid hb
    have HO := Lib.hid ho
    obtain ⟨e0, e1, e2, e3, hgw⟩ := hb.all.1
    by_cases hlt : k < n
    · obtain ⟨x, hx⟩ : ∃ x, cs.getD k cls0 = x := ⟨_, rfl⟩
      have hl1 : k < cs.length := by rw [hn.out]; exact hlt
      have HE := Lib.hid (lvsF_at cs k hl1 x hx)
      have HL := Lib.hid (fun w HI => HLF.out k w HI hlt)
      rw [hx] at HL
      clear hb ho hx hl1
      rcases Bool.eq_false_or_eq_true (hasK cs x.i) with hh | hh
      · have HX : Hid (ks ++ lvsF cs (k + 1) (cs.drop (k + 1)) = K) := Lib.hid (by rw [← HP.out, HE.out, hh]; rfl)
        rw [hh] at HL
        clear hh
        go_wp2_with (go_at_call 55; refine (HL.out _ (Lib.hid (HI.out.below HB.out.all.2))).mono ?_; rintro e w1 ⟨rfl, b1⟩; have A1 := Lib.hid (HB.out.on b1); have O1 := Lib.hid (own_low HO.out b1 (Nat.le_refl _)); clear b1)
        go_roundw
        case rel => exact ⟨k + 1, ks, by omega, by omega, by go_num, A1.out, O1.out, HX⟩
        case measure => simp [intOf]; omega
      · have HX : Hid ((ks ++ [k]) ++ lvsF cs (k + 1) (cs.drop (k + 1)) = K) := Lib.hid (by rw [← HP.out, HE.out, hh]; simp)
        rw [hh] at HL
        clear hh
        go_wp2_with (go_at_call 55; refine (HL.out _ (Lib.hid (HI.out.below HB.out.all.2))).mono ?_; rintro e w1 ⟨rfl, b1⟩; have A1 := Lib.hid (HB.out.on b1); have O1 := Lib.hid (own_low HO.out b1 (Nat.le_refl _)); have hz9 : w.heap.size + 1 ≤ w1.heap.size := Nat.le_trans hgw b1.size; clear b1; refine Hid.out ?_)
        refine Lib.hid ?_
        go_wp2_with (at_builtin; refine wpList_append_own _ rfl _ _ 29 rfl (w.heap.size + 1) 3 i0 (.int .i64 0) 1 8 Tryd.underlying29 hi hz0 hz1 hz2 rfl (by decide) _ _ _ rfl (World.ownsRow.alloc O1.out _) ⟨w1.heap.size, 0, none⟩ 1 1 [.int .i64 (k : Int)] rfl rfl (by have := one_int w1 (.int .i64 (k : Int)) 3; simpa using this) (by intro u hu; simp at hu; subst hu; rfl) (by unfold maxLen; omega) (by omega) (by simp; omega) ?_; intro v' w3 hown1 hgrow1 _; have F := Lib.hid (own_snoc rfl ((Below.refl (w.heap.size + 1) w1).alloc hz9 (.cells #[.int .i64 (k : Int)] 3)) hown1 (by simp; omega) hgrow1 (fun g h => (World.ownsRow.lt O1.out g h).1)); clear hown1 hgrow1)
        go_roundw
        case rel => exact ⟨k + 1, ks ++ [k], by omega, by simp; omega, by go_num, A1.out.up F.out.2, F.out.1, HX⟩
        case measure => simp [intOf]; omega
    · have HX : Hid (ks = K) := Lib.hid (by rw [← HP.out, lvsF_end cs k (by rw [hn.out]; omega), List.append_nil])
      clear hb ho
      go_wp2_with fail
      go_ret
      exact ⟨_, rfl, by rw [← HX.out]; exact own_base HO.out (Nat.le_succ _), HB.out.all.2⟩
set_option maxHeartbeats 3200000 in
theorem specLeavesOf_any (v : Value) (c : Cfg) (w : World) (HV : Hid (CfgV w v c)) (HM : Hid (CfgM c)) :
    Calls Tryd.prog 12 #[v] w (SaysTS w (resLeavesOf1 c) (resLeavesOf2 c)) := by
  obtain ⟨ac, cc, af, cf, rfl, ic, if_⟩ := HV.out
  obtain ⟨s, cs, fs, d⟩ := c
  have hM := HM.out
  unfold CfgM at hM
  simp only at ic if_ hM HV ⊢
  obtain ⟨q0, q1, q2⟩ := hM
  have HI := Lib.hid ic
  have HJ := Lib.hid if_
  have HVB := Lib.hid (fun w' (b : Below w.heap.size w w') => Lib.hid (HV.out.below b))
  have A0 := Lib.hid (Aft.refl w (Obj.cells #[.string s, .slice ac cs.length cc, .slice af fs.length cf, .int .i64 d] 26))
  clear ic if_
  have HGD := Lib.hid (fun w' (b : Below w.heap.size w w') => cfGood_any (.agg #[.string s, .slice ac cs.length cc, .slice af fs.length cf, .int .i64 d]) ⟨s, cs, fs, d⟩ w' (HVB.out w' b) HM)
  cases hg : goodC ⟨s, cs, fs, d⟩
  · obtain ⟨x1, x2⟩ := lo_bad hg
    rw [x1, x2]
    rw [hg] at HGD
    clear x1 x2 hg
    go_enter Tryd.func12, Tryd.ntmps12
    go_wp2_with (go_at_call 31; refine (HGD.out _ A0.out.all.2).mono ?_; rintro e w1 ⟨rfl, b1⟩; have A1 := Lib.hid (A0.out.on b1); clear b1)
    go_ret2
    exact ⟨_, rfl, World.ownsRow_nil _ _ _ _, A1.out.all.2⟩
  · obtain ⟨x1, x2⟩ := lo_good hg
    have HKD := Lib.hid (fun w' HI => cfLeaves_any s ac af cs.length cc fs.length cf d cs w' HI (Lib.hid rfl) q1)
    rw [x1, x2]
    rw [hg] at HGD
    simp only
    generalize leaves cs = K at HKD ⊢
    clear x1 x2 hg
    go_enter Tryd.func12, Tryd.ntmps12
    go_wp2_with (go_at_call 31; refine (HGD.out _ A0.out.all.2).mono ?_; rintro e w1 ⟨rfl, b1⟩; have A1 := Lib.hid (A0.out.on b1); obtain ⟨c0, c1, c2, c3, _⟩ := A1.out.all.1; clear b1)
    go_wp2_with (go_at_call 32; refine (HKD.out _ (Lib.hid (HI.out.below A1.out.all.2))).mono ?_; rintro e w2 ⟨v2, rfl, o2, b2⟩; have A2 := Lib.hid (A1.out.on b2); have O2 := Lib.hid (own_base o2 A1.out.all.2.size); clear b2 o2)
    go_ret2
    exact ⟨_, rfl, O2.out, A2.out.all.2⟩
def LiRel (w : World) (o : Obj) (M n : Nat) (cs : List Cls) (K : List Nat) (out i : Value) (wr : World) : Prop :=
  ∃ (k : Nat) (ks : List Nat), k ≤ n ∧ ks.length ≤ k ∧ i = .int .i64 k ∧ Aft w o wr ∧ MarkA wr w.heap.size M (mkX cs n) ∧ wr.ownsRow (M + 1) 3 1 out ks.length (nv ks) ∧ Hid (ks ++ lvsF cs k (cs.drop k) = K)
set_option maxHeartbeats 6400000 in
theorem implLeavesOf_any (v : Value) (c : Cfg) (w : World) (HK : Hid (Kwt w)) (HV : Hid (CfgV w v c)) (HM : Hid (CfgM c)) :
    Calls Tryd.prog 11 #[v] w (SaysTS w (resLeavesOf1 c) (resLeavesOf2 c)) := by
  obtain ⟨ac, cc, af, cf, rfl, ic, if_⟩ := HV.out
  obtain ⟨s, cs, fs, d⟩ := c
  have hM := HM.out
  unfold CfgM at hM
  simp only at ic if_ hM HV ⊢
  obtain ⟨q0, q1, q2⟩ := hM
  have HI := Lib.hid ic
  have HJ := Lib.hid if_
  have HVB := Lib.hid (fun w' (b : Below w.heap.size w w') => Lib.hid (HV.out.below b))
  have A0 := Lib.hid (Aft.refl w (Obj.cells #[.string s, .slice ac cs.length cc, .slice af fs.length cf, .int .i64 d] 26))
  clear ic if_
  have HGD := Lib.hid (fun w' (b : Below w.heap.size w w') => implIsConfig_any (.agg #[.string s, .slice ac cs.length cc, .slice af fs.length cf, .int .i64 d]) ⟨s, cs, fs, d⟩ w' (Lib.hid (HK.out.below b)) (HVB.out w' b) HM)
  cases hg : goodC ⟨s, cs, fs, d⟩
  · obtain ⟨x1, x2⟩ := lo_bad hg
    rw [x1, x2]
    rw [hg] at HGD
    clear x1 x2 hg
    go_enter Tryd.func11, Tryd.ntmps11
    go_wp2_with (go_at_call 29; refine (HGD.out _ A0.out.all.2).mono ?_; rintro e w1 ⟨rfl, b1⟩; have A1 := Lib.hid (A0.out.on b1); clear b1)
    go_ret2
    exact ⟨_, rfl, World.ownsRow_nil _ _ _ _, A1.out.all.2⟩
  · obtain ⟨x1, x2⟩ := lo_good hg
    have G := good_of hg
    have h24 : cs.length ≤ 24 := G.n24
    have HIN := Lib.hid (okL_inc cs 0 G.ok)
    have HPM := Lib.hid (fun w' HI => parentMarks_any ac cs.length cc cs w' HI (Lib.hid rfl) q1 HIN h24)
    obtain ⟨i0, hi, hz0, hz1, hz2⟩ := info_parts infoI
    rw [x1, x2]
    rw [hg] at HGD
    simp only
    obtain ⟨K, hK⟩ : ∃ K, leaves cs = K := ⟨_, rfl⟩
    have H0 : Hid ([] ++ lvsF cs 0 (cs.drop 0) = K) := Lib.hid hK
    rw [hK]
    obtain ⟨n, hn⟩ : ∃ n, cs.length = n := ⟨_, rfl⟩
    have HN := Lib.hid hn
    simp only [hn] at HGD HI A0 HV HVB HPM h24 q1 ⊢
    clear x1 x2 hg hK G hn
    go_enter Tryd.func11, Tryd.ntmps11
    go_wp2_with (go_at_call 29; refine (HGD.out _ A0.out.all.2).mono ?_; rintro e w1 ⟨rfl, b1⟩; have A1 := Lib.hid (A0.out.on b1); obtain ⟨c0, c1, c2, c3, _⟩ := A1.out.all.1; clear b1)
    go_wp2_with (go_at_call 30; refine (HPM.out _ (Lib.hid (HI.out.below A1.out.all.2))).mono ?_; rintro e w2 ⟨rfl, b2⟩; have A2 := Lib.hid (A1.out.on b2); obtain ⟨c0, c1, c2, c3, hgc⟩ := A2.out.all.1; have hst := marks_store w2 cs n; have c1' := fun o => ((bcell (one_new2 w2 o)).1 _ 1 hgc).trans c1; clear b2)
    go_loopw [5, 16] (fun out i wr => LiRel w (Obj.cells #[.string s, .slice ac n cc, .slice af fs.length cf, .int .i64 d] 26) w2.heap.size n cs K out i wr) (fun _ i _ => n - (intOf i).toNat)
    case atStart => exact ⟨0, [], Nat.zero_le _, Nat.le_refl _, rfl, A2.out.alloc _, marks_lit w2 _ A2.out.all.2.size cs n, World.ownsRow_nil _ _ _ _, H0⟩
    case round =>
      obtain ⟨k, ks, hk, hkl, rfl, hb, hmk, ho, HP⟩ := hrel
      have HB := Lib.hid hb
      have HMK := Lib.hid hmk
      have HO := Lib.hid ho
      have hgm : w2.heap.size < wr.heap.size := (World.ownsRow.lt hmk _ rfl).2
      clear c0 c1 c2 c3 hst c1' hmk
      by_cases hlt : k < n
      · obtain ⟨x, hx⟩ : ∃ x, cs.getD k cls0 = x := ⟨_, rfl⟩
        have hl1 : k < cs.length := by rw [HN.out]; exact hlt
        have HE := Lib.hid (lvsF_at cs k hl1 x hx)
        have hm0 := HMK.out.at k (by omega)
        rw [mkP_all HIN.out n k HN.out hlt, hx] at hm0
        have hk24 : (k : Int) < 24 := by omega
        clear hb ho hx hl1
        rcases Bool.eq_false_or_eq_true (hasK cs x.i) with hh | hh
        · have HX : Hid (ks ++ lvsF cs (k + 1) (cs.drop (k + 1)) = K) := Lib.hid (by rw [← HP.out, HE.out, hh]; rfl)
          rw [hh] at hm0
          clear hh
          go_wp2_with fail
          go_roundw
          case rel => exact ⟨k + 1, ks, by omega, by omega, by go_num, HB.out, HMK.out, HO.out, HX⟩
          case measure => simp [intOf]; omega
        · have HX : Hid ((ks ++ [k]) ++ lvsF cs (k + 1) (cs.drop (k + 1)) = K) := Lib.hid (by rw [← HP.out, HE.out, hh]; simp)
          rw [hh] at hm0
          clear hh
          go_wp2_with (at_builtin; refine wpList_append_own _ rfl _ _ 29 rfl (w2.heap.size + 1) 3 i0 (.int .i64 0) 1 8 Tryd.underlying29 hi hz0 hz1 hz2 rfl (by decide) _ _ _ rfl (World.ownsRow.alloc HO.out _) ⟨wr.heap.size, 0, none⟩ 1 1 [.int .i64 (k : Int)] rfl rfl (by have := one_int wr (.int .i64 (k : Int)) 3; simpa using this) (by intro u hu; simp at hu; subst hu; rfl) (by unfold maxLen; omega) (by omega) (by simp; omega) ?_; intro v' w3 hown1 hgrow1 _; have F := Lib.hid (own_snoc rfl ((Below.refl (w2.heap.size + 1) wr).alloc hgm (.cells #[.int .i64 (k : Int)] 3)) hown1 (by simp; omega) hgrow1 (fun g h => (World.ownsRow.lt HO.out g h).1)); clear hown1 hgrow1)
          go_roundw
          case rel => exact ⟨k + 1, ks ++ [k], by omega, by simp; omega, by go_num, HB.out.up (F.out.2.mono (Nat.succ_le_succ A2.out.all.2.size)), HMK.out.low F.out.2 (Nat.lt_succ_self _), F.out.1, HX⟩
          case measure => simp [intOf]; omega
      · have HX : Hid (ks = K) := Lib.hid (by rw [← HP.out, lvsF_end cs k (by rw [HN.out]; omega), List.append_nil])
        clear hb ho
        go_wp2_with fail
        go_ret2
        exact ⟨_, rfl, by rw [← HX.out]; exact own_base HO.out (Nat.le_succ_of_le A2.out.all.2.size), HB.out.all.2⟩
end Go.Proofs.YthgbhnedfdnfpaaDoor

/- What a law draws of configurations: strings of a list; a tree put in order has a leaf; two boxes at the start. -/
namespace Go.Proofs.YthgbhnedfdnfpaaDoor
set_option maxRecDepth 100000
open Go.RowKit
set_option linter.unusedVariables false
set_option linter.unusedSimpArgs false

/-- a list of strings in block gl, each of at most M bytes -/
def StrL (w : World) (gl m M : Nat) : Prop := ∀ i, i < m → ∃ x : ByteArray, x.size ≤ M ∧ w.cell? ⟨gl, i, none⟩ = some (.string x)
def strAt (M : Nat) : Option Value → Bool
  | some (.string x) => decide (x.size ≤ M)
  | _ => false
theorem strL_of (w : World) (cs : Array Value) (ty : TypeId) (m M : Nat) (h : (List.range m).all (fun i => strAt M cs[i]?) = true) : StrL (w.alloc (.cells cs ty)) w.heap.size m M := fun i hi => by
  have hq := List.all_eq_true.1 h i (List.mem_range.2 hi)
  rw [World.cell?_alloc_at _ _ _ _ rfl]
  cases hc : cs[i]? with
  | none => rw [hc] at hq; simp [strAt] at hq
  | some v =>
    rw [hc] at hq
    cases v with
    | string x => exact ⟨x, by simpa [strAt] using hq, rfl⟩
    | _ => simp [strAt] at hq
theorem strL_two (w : World) (o : Obj) (cs : Array Value) (ty : TypeId) (m M : Nat) (h : (List.range m).all (fun i => strAt M cs[i]?) = true) : StrL ((w.alloc o).alloc (.cells cs ty)) (w.heap.size + 1) m M := by
  have := strL_of (w.alloc o) cs ty m M h
  rw [World.size_alloc] at this
  exact this
theorem dr_ofL {w wr : World} {a : Option Addr} {n cap t m cl gl M : Nat} {zs : List Int} (HX : Hid (StrL wr gl m M)) (hg : gl ≠ w.heap.size) (hm : 1 < m) (hm2 : m ≤ 100) (HD : Hid (Dr w wr a n cap zs t)) (HL : Hid (zs.length = n)) (hn : n ≤ 9223372036854775807) (ht : t ≤ 1000000) :
    Calls Tryd.prog 58 #[.pointer (some ⟨w.heap.size, 0, none⟩), .slice (some ⟨gl, 0, none⟩) m cl] wr fun e w' => ∃ (x : ByteArray) (t' : Nat), e = .returned (.string x) ∧ x.size ≤ M ∧ t' ≤ t + 2 ∧ Dr w w' a n cap zs t' ∧ OnlyBlock w.heap.size wr w' := by
  go_enter Tryd.func58, Tryd.ntmps58
  go_wp2_with (go_at_call 57; refine (dr_pick (m : Int) (by omega) (by omega) HD HL hn ht).mono ?_; rintro e v1 ⟨r, t1, rfl, ⟨r0, r1⟩, ht1, d, o1⟩; obtain ⟨x, hxl, hx0⟩ := HX.out r.toNat (by omega); have hx := hx0; rw [← World.cell?_of_block (a := ⟨gl, r.toNat, none⟩) (o1.2.2 gl hg)] at hx; have D1 := Lib.hid d; have OO := Lib.hid o1; clear d o1 hx0)
  go_ret
  exact ⟨x, t1, rfl, hxl, ht1, D1.out, OO.out⟩
/-! A leaf. -/
theorem hasLf_mem {cs : List Cls} (h : HasLf cs) : ∃ x ∈ cs, ∀ y ∈ cs, y.p ≠ x.i := by
  obtain ⟨k, hk, hn⟩ := h
  refine ⟨cs.getD k cls0, ?_, fun y hy => ?_⟩
  · rw [List.getD_eq_getElem?_getD, List.getElem?_eq_getElem hk]; exact List.getElem_mem hk
  · obtain ⟨q, hq, rfl⟩ := List.getElem_of_mem hy
    have := hn q hq
    rw [List.getD_eq_getElem?_getD, List.getElem?_eq_getElem hq] at this
    exact this
theorem putC_perm (L : List Cls) (x : Cls) : (putC L x).Perm (x :: L) := by
  unfold putC
  refine List.perm_middle.trans ?_
  rw [List.take_append_drop]
theorem foldC_perm : ∀ (l acc : List Cls), (l.foldl putC acc).Perm (acc ++ l)
  | [], acc => by simp
  | x :: r, acc => by
    rw [List.foldl_cons]
    refine (foldC_perm r (putC acc x)).trans ?_
    refine ((putC_perm acc x).append_right r).trans ?_
    simpa using (List.perm_middle (l₁ := acc) (l₂ := r) (a := x)).symm
theorem ordC_perm (l : List Cls) : (ordC l).Perm l := by simpa [ordC] using foldC_perm l []
theorem leaf_at {cs : List Cls} (h : ∃ x ∈ cs, ∀ y ∈ cs, y.p ≠ x.i) : 0 < (leaves cs).length := by
  obtain ⟨x, hx, hn⟩ := h
  have hk : hasK cs x.i = false := by
    unfold hasK
    rw [List.any_eq_false]
    intro y hy
    simpa using hn y hy
  have key : ∀ (l : List Cls) (k : Nat), x ∈ l → 0 < (lvsF cs k l).length := by
    intro l
    induction l with
    | nil => intro k h; cases h
    | cons y r ih =>
      intro k h
      unfold lvsF
      by_cases hy : hasK cs y.i = true
      · rw [if_pos hy]
        rcases List.mem_cons.1 h with e | e
        · rw [← e, hk] at hy; cases hy
        · exact ih (k + 1) e
      · rw [if_neg hy]; simp
  exact key cs 0 hx
theorem leaf_lt (cs : List Cls) : ∀ j, j < (leaves cs).length → (leaves cs).getD j 0 < cs.length := by
  have key : ∀ (l : List Cls) (k : Nat), ∀ q ∈ lvsF cs k l, q < k + l.length := by
    intro l
    induction l with
    | nil => intro k q h; simp [lvsF] at h
    | cons y r ih =>
      intro k q h
      unfold lvsF at h
      split at h
      · have := ih (k + 1) q h; simp; omega
      · rcases List.mem_cons.1 h with e | e
        · simp; omega
        · have := ih (k + 1) q e; simp; omega
  intro j hj
  have := key cs 0 ((leaves cs).getD j 0) (by rw [List.getD_eq_getElem?_getD, List.getElem?_eq_getElem hj]; exact List.getElem_mem hj)
  omega
theorem ord_leaf {cs : List Cls} (h : HasLf cs) : 0 < (leaves (ordC cs)).length := by
  obtain ⟨x, hx, hn⟩ := hasLf_mem h
  have hp := ordC_perm cs
  exact leaf_at ⟨x, hp.symm.subset hx, fun y hy => hn y (hp.subset hy)⟩
/-- the leaves, of the parents and the Ids -/
def lvsM (ps : List Int) : Nat → List Int → List Nat
  | _, [] => []
  | k, x :: r => if ps.any (fun y => y == x) then lvsM ps (k + 1) r else k :: lvsM ps (k + 1) r
theorem lvsF_M (cs : List Cls) : ∀ (l : List Cls) (k : Nat), lvsF cs k l = lvsM (cs.map Cls.p) k (l.map Cls.i)
  | [], _ => rfl
  | x :: r, k => by
    unfold lvsF
    rw [List.map_cons, lvsM, lvsF_M cs r (k + 1)]
    have : hasK cs x.i = (cs.map Cls.p).any (fun y => y == x.i) := by unfold hasK; rw [List.any_map]; rfl
    rw [this]
theorem map_set_same {α β : Type} (f : α → β) (d : α) (l : List α) (k : Nat) (y : α) (h : f y = f (l.getD k d)) : (l.set k y).map f = l.map f := by
  rw [List.map_set, h]
  apply List.ext_getElem?
  intro m
  by_cases hm : m = k
  · subst hm
    by_cases hl : m < (l.map f).length
    · rw [List.getElem?_set_self hl]
      have hl' : m < l.length := by simpa using hl
      rw [List.getElem?_map, List.getD_eq_getElem?_getD, List.getElem?_eq_getElem hl']
      rfl
    · rw [List.getElem?_eq_none (by simpa using hl), List.getElem?_eq_none (by omega)]
  · rw [List.getElem?_set_ne (by omega)]
theorem leaves_lim (cs : List Cls) (k j : Nat) (z : Int) (hj : 2 ≤ j) : leaves (cs.set k (updC (cs.getD k cls0) j z)) = leaves cs := by
  unfold leaves
  rw [lvsF_M, lvsF_M]
  have hp : (updC (cs.getD k cls0) j z).p = (cs.getD k cls0).p := by
    unfold updC; split <;> first | rfl | omega
  have hi : (updC (cs.getD k cls0) j z).i = (cs.getD k cls0).i := by
    unfold updC; split <;> first | rfl | omega
  rw [map_set_same Cls.p cls0 cs k _ hp, map_set_same Cls.i cls0 cs k _ hi]
/-! The start. -/
theorem kc_new {w W v1 : World} {a : Option Addr} {n cap t : Nat} {x : ByteArray} {os : Obj} (hw : w.heap.size < W.heap.size) (hc : CurAt v1 w.heap.size a n cap t)
    (o : OnlyBlock w.heap.size ((W.alloc (.cells #[.string ⟨#[]⟩, .slice none 0 0, .slice none 0 0, .int .i64 0] 26)).alloc os) v1) :
    KC w W a n cap t v1.heap.size x (.slice none 0 0) (.slice none 0 0) (.slice none 0 0) 0 [] [] [] (v1.alloc (.cells #[.string x, .slice none 0 0, .slice none 0 0, .int .i64 0] 26)) := by
  have hz1 : (W.alloc (.cells #[.string ⟨#[]⟩, .slice none 0 0, .slice none 0 0, .int .i64 0] 26)).heap.size = W.heap.size + 1 := by simp
  have z0 : Zer (W.alloc (.cells #[.string ⟨#[]⟩, .slice none 0 0, .slice none 0 0, .int .i64 0] 26)) W.heap.size := ⟨(box_four (Below.refl _ _)).1, fun o => by simp⟩
  have z1 := z0.on (one_new2 _ os)
  have hsz := o.2.1
  have z2 := z1.same (o.2.2 W.heap.size (by omega)) (by rw [hsz]; exact Nat.le_refl _)
  have z3 := z2.on (one_new2 v1 (.cells #[.string x, .slice none 0 0, .slice none 0 0, .int .i64 0] 26))
  have hb0 : Bar w.heap.size W.heap.size W v1 := (Bar.of_below (one_new2 W _)).trans (((Bar.of_below (one_new2 _ os)).mono (by simp)).trans (Bar.of_only o _))
  have hv1 : W.heap.size < v1.heap.size := by rw [hsz]; simp; omega
  refine ⟨hc.alloc _, hb0.trans ((Bar.of_below (one_new2 v1 _)).mono hb0.size), z3, (box_four (Below.refl _ _)).1, FroB.new v1 _ _, hv1, World.ownsRow_nil _ _ _ _, World.ownsRow_nil _ _ _ _, World.ownsRow_nil _ _ _ _, ?_, ?_, ?_, ?_, ?_, ?_⟩
  all_goals (intro g e; cases e)
end Go.Proofs.YthgbhnedfdnfpaaDoor
