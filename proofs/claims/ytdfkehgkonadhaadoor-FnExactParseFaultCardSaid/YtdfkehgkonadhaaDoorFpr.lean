/- ParseFault: contracts of both sides (written by tools/gen_fpr.py). -/
import Derived.Test.YtdfkehgkonadhaaDoorFpp
import Derived.Test.YtdfkehgkonadhaaDoorFas
import Derived.Test.YtdfkehgkonadhaaDoorFlt
import Derived.Test.YtdfkehgkonadhaaDoorRdg
import Derived.Deep.CutRange
import Derived.Deep.RegionHeld3
namespace Go.Proofs.YtdfkehgkonadhaaDoor
set_option maxRecDepth 100000
open Go.RowKit
set_option linter.unusedVariables false
set_option linter.unusedSimpArgs false

theorem list3 {α : Type} {l : List α} (h : l.length = 3) : ∃ a b c, l = [a, b, c] := by
  match l, h with
  | [a, b, c], _ => exact ⟨a, b, c, rfl⟩
theorem bytes_inj {a b : ByteArray} (h : a.data.toList = b.data.toList) : a = b := by
  obtain ⟨⟨a⟩⟩ := a
  obtain ⟨⟨b⟩⟩ := b
  simp only at h
  rw [h]
/-- what the model reads -/
def l1V (l : List UInt8) : Int := if 1 ≤ l.length ∧ l.length ≤ 6 then (rdT 10 999999 l).getD (-1) else -1
theorem l1V_dec (n : Nat) (h : n ≤ 6000) : l1V (Lib.decDigits n) = n := by
  have h1 : 1 ≤ (Lib.decDigits n).length := len_pos (dec_ne n)
  have h2 : (Lib.decDigits n).length ≤ 6 := by
    have key : ∀ m k : Nat, 1 ≤ k → m < 10 ^ k → (Lib.decDigits m).length ≤ k := by
      intro m
      induction m using Nat.strongRecOn with
      | ind m ih =>
        intro k hk hm
        rcases Nat.lt_or_ge m 10 with q | q
        · rw [dec_small q]; simpa using hk
        · rw [dec_big q, List.length_append]
          obtain ⟨k', rfl⟩ : ∃ k', k = k' + 1 := ⟨k - 1, by omega⟩
          rw [Nat.pow_succ] at hm
          have hk' : 1 ≤ k' := by
            rcases Nat.eq_zero_or_pos k' with z | z
            · subst z; simp at hm; omega
            · exact z
          have := ih (m / 10) (by omega) k' hk' (by omega)
          simp; omega
    exact Nat.le_trans (key n 4 (by decide) (by omega)) (by decide)
  unfold l1V
  rw [if_pos ⟨h1, h2⟩, rdT_dec 999999 n (by omega)]
  rfl
def PfS (s : ByteArray) (r : Fa) (b : Bool) : Prop := (∃ k n, Val k n ∧ s = ftT k n ∧ r = ⟨(k : Int), (n : Int)⟩ ∧ b = true) ∨ ((∀ k n, Val k n → s ≠ ftT k n) ∧ r = fa0 ∧ b = false)
theorem pfS_ex (s : ByteArray) : ∃ r b, PfS s r b := by
  by_cases h : ∃ k n, Val k n ∧ s = ftT k n
  · obtain ⟨k, n, h1, h2⟩ := h
    exact ⟨_, _, .inl ⟨k, n, h1, h2, rfl, rfl⟩⟩
  · exact ⟨_, _, .inr ⟨fun k n h1 h2 => h ⟨k, n, h1, h2⟩, rfl, rfl⟩⟩
theorem pf_none {s : ByteArray} {r : Fa} {b : Bool} (h : PfS s r b) (hn : ∀ k n, Val k n → s ≠ ftT k n) : r = fa0 ∧ b = false := by
  rcases h with ⟨k, n, h1, h2, _, _⟩ | ⟨_, h1, h2⟩
  · exact absurd h2 (hn k n h1)
  · exact ⟨h1, h2⟩
/-! The model's way. -/
theorem pm_key {s p0 p1 p2 : ByteArray} {k n : Nat} (hv : Val k n) (hs : s = ftT k n) (hp : scB 32 s = [p0, p1, p2]) : kiOf p0 = k ∧ l1V p2.data.toList = n := by
  rw [hs, ft_pieces k n hv.2.1] at hp
  simp only [List.cons.injEq, and_true] at hp
  obtain ⟨rfl, _, rfl⟩ := hp
  refine ⟨ki_some (kd_kn k hv.2.1), ?_⟩
  have : (numS n).data.toList = Lib.decDigits n := by simp [numS]
  rw [this, l1V_dec n hv.2.2]
theorem pm_len {s : ByteArray} (h : (scB 32 s).length ≠ 3) : ∀ k n, Val k n → s ≠ ftT k n := fun k n hv hs => by
  rw [hs, ft_pieces k n hv.2.1] at h
  exact h rfl
theorem pm_bad {s p0 p1 p2 : ByteArray} (hp : scB 32 s = [p0, p1, p2]) (h : goodF ⟨kiOf p0, l1V p2.data.toList⟩ = false) : ∀ k n, Val k n → s ≠ ftT k n := fun k n hv hs => by
  obtain ⟨e1, e2⟩ := pm_key hv hs hp
  rw [e1, e2, val_good hv] at h
  cases h
theorem pm_ne {s p0 p1 p2 : ByteArray} (hp : scB 32 s = [p0, p1, p2]) (h : ftT (kiOf p0).toNat (l1V p2.data.toList).toNat ≠ s) : ∀ k n, Val k n → s ≠ ftT k n := fun k n hv hs => by
  obtain ⟨e1, e2⟩ := pm_key hv hs hp
  rw [e1, e2, Int.toNat_natCast, Int.toNat_natCast] at h
  exact h hs.symm
theorem pm_eq {s p0 p1 p2 : ByteArray} {r : Fa} {b : Bool} (hP : PfS s r b) (hp : scB 32 s = [p0, p1, p2]) (hg : goodF ⟨kiOf p0, l1V p2.data.toList⟩ = true) (h : ftT (kiOf p0).toNat (l1V p2.data.toList).toNat = s) : r = ⟨kiOf p0, l1V p2.data.toList⟩ ∧ b = true := by
  rcases hP with ⟨k, n, hv, hs, hr, hb⟩ | ⟨hn, _, _⟩
  · obtain ⟨e1, e2⟩ := pm_key hv hs hp
    rw [e1, e2]
    exact ⟨hr, hb⟩
  · obtain ⟨k, n, hv, e⟩ := good_val hg
    simp only [Fa.mk.injEq] at e
    rw [e.1, e.2, Int.toNat_natCast, Int.toNat_natCast] at h
    exact absurd h.symm (hn k n hv)
/-! The program's way. -/
def cutN (s : ByteArray) : ByteArray := ⟨(Lib.cut s.data.toList [32, 97, 116, 32]).1.toArray⟩
def cutP (s : ByteArray) : ByteArray := ⟨(Lib.cut s.data.toList [32, 97, 116, 32]).2.1.toArray⟩
theorem pi_key {s : ByteArray} {k n : Nat} (hv : Val k n) (hs : s = ftT k n) : kdV (cutN s) = k ∧ rdT 10 6000 (cutP s).data.toList = Option.some (n : Int) := by
  subst hs
  unfold cutN cutP
  rw [ft_cut k n hv.2.1]
  refine ⟨?_, ?_⟩
  · have : (⟨(kn k).data.toList.toArray⟩ : ByteArray) = kn k := by simp
    show kdV (⟨(kn k).data.toList.toArray⟩ : ByteArray) = k
    rw [this]
    unfold kdV
    rw [kd_kn k hv.2.1]
  · show rdT 10 6000 (Lib.decDigits n).toArray.toList = _
    rw [List.toList_toArray]
    exact rdT_dec 6000 n (by have := hv.2.2; omega)
theorem pi_no1 {s : ByteArray} (h : rdT 10 6000 (cutP s).data.toList = none) : ∀ k n, Val k n → s ≠ ftT k n := fun k n hv hs => by
  obtain ⟨_, e2⟩ := pi_key hv hs
  rw [e2] at h
  cases h
theorem pi_no2 {s : ByteArray} {v : Int} (h : rdT 10 6000 (cutP s).data.toList = Option.some v) (hg : goodF ⟨kdV (cutN s), v⟩ = false) : ∀ k n, Val k n → s ≠ ftT k n := fun k n hv hs => by
  obtain ⟨e1, e2⟩ := pi_key hv hs
  rw [e2] at h
  cases h
  rw [e1, val_good hv] at hg
  cases hg
theorem pi_yes {s : ByteArray} {v : Int} {r : Fa} {b : Bool} (hP : PfS s r b) (h : rdT 10 6000 (cutP s).data.toList = Option.some v) (hg : goodF ⟨kdV (cutN s), v⟩ = true) : r = ⟨kdV (cutN s), v⟩ ∧ b = true := by
  rcases hP with ⟨k, n, hv, hs, hr, hb⟩ | ⟨hn, _, _⟩
  · obtain ⟨e1, e2⟩ := pi_key hv hs
    rw [e2] at h
    cases h
    rw [e1]
    exact ⟨hr, hb⟩
  · exfalso
    have g := faok hg
    obtain ⟨k, ek, k1, k8, en⟩ := kd_name g.k1
    obtain ⟨n, ev, _, el⟩ := rdT_back 6000 _ v h
    have a6 : n ≤ 6000 := by have := g.a6; simp only at this; omega
    refine hn k n ⟨k1, k8, a6⟩ ?_
    apply bytes_inj
    rw [ft_list]
    have hne : Lib.index s.data.toList [32, 97, 116, 32] ≠ -1 := fun q => by
      have hc := cut_miss2 _ q
      unfold cutP at el
      rw [hc] at el
      exact dec_ne n el.symm
    have hb := cut_back s.data.toList hne
    have e1 : (Lib.cut s.data.toList [32, 97, 116, 32]).1 = (kn k).data.toList := by
      have := congrArg (fun x => x.data.toList) en
      simpa [cutN] using this
    have e2 : (Lib.cut s.data.toList [32, 97, 116, 32]).2.1 = Lib.decDigits n := by simpa [cutP] using el
    rw [e1, e2] at hb
    rw [hb]
    simp
def tn : Nat → Int
  | 0 => 0
  | k + 1 => 10 * tn k + 9
theorem tn_le (k : Nat) (h : k ≤ 6) : tn k ≤ 999999 := by
  rcases (show k = 0 ∨ k = 1 ∨ k = 2 ∨ k = 3 ∨ k = 4 ∨ k = 5 ∨ k = 6 by omega) with rfl | rfl | rfl | rfl | rfl | rfl | rfl <;> simp [tn]
theorem tn_succ (k : Nat) : tn (k + 1) = 10 * tn k + 9 := rfl
theorem dg_mid (c : Nat) (h : 48 ≤ c ∧ c ≤ 57) : dg 10 (c : Int) = (c : Int) - 48 := by
  rcases dv_cases (c : Int) with ⟨_, _⟩ | ⟨_, _, e⟩ | ⟨_, _, _⟩ | ⟨_, _, _⟩ | ⟨_, _⟩ <;> first | omega | (unfold dg; rw [e]; split <;> omega)
theorem dg_not (c : Nat) (h : ¬ (48 ≤ c ∧ c ≤ 57)) : ¬ 0 ≤ dg 10 (c : Int) := by
  intro a
  rcases dv_cases (c : Int) with ⟨_, e⟩ | ⟨_, _, e⟩ | ⟨_, _, e⟩ | ⟨_, _, e⟩ | ⟨_, e⟩ <;> unfold dg at a <;> rw [e] at a <;> split at a <;> omega
def R1Rel (s : ByteArray) (o : Option Int) (N I : Value) : Prop := ∃ (k : Nat) (t : Int), k ≤ s.size ∧ I = .int .i64 k ∧ N = .int .i64 t ∧ 0 ≤ t ∧ t ≤ tn k ∧ Hid (rdN 10 999999 (s.data.toList.drop k) t = o)
theorem l1V_out {s : ByteArray} (h : s.size < 1 ∨ 6 < s.size) : l1V s.data.toList = -1 := by
  unfold l1V
  rw [← Lib.size_eq, if_neg (by omega)]
set_option maxHeartbeats 3200000 in
theorem l1Read_any (s : ByteArray) (w : World) (hs : s.size ≤ 1048576) : Calls Tryd.prog 47 #[.string s] w (SaysI w (l1V s.data.toList)) := by
  have HI := Lib.hid (fun w => l1In_any (s.size : Int) 1 6 w)
  by_cases h1 : s.size < 1 ∨ 6 < s.size
  · have HX := Lib.hid (l1V_out h1)
    rw [show inB (s.size : Int) 1 6 = false by unfold inB; simp; omega] at HI
    generalize l1V s.data.toList = R at HX ⊢
    clear h1
    go_enter Tryd.func47, Tryd.ntmps47
    go_wp2_with (go_at_call 29; refine (HI.out _).mono ?_; rintro e w' ⟨rfl, rfl⟩)
    go_ret
    exact ⟨ret_int HX.out.symm, Below.refl _ _⟩
  have h0 : 0 < s.size := by omega
  have h6 : s.size ≤ 6 := by omega
  rw [show inB (s.size : Int) 1 6 = true by unfold inB; simp; omega] at HI
  have HV : Hid (l1V s.data.toList = (rdT 10 999999 s.data.toList).getD (-1)) := Lib.hid (by
    unfold l1V
    rw [← Lib.size_eq, if_pos (by omega)])
  generalize l1V s.data.toList = R at HV ⊢
  by_cases hz : 1 < s.size ∧ (s[0]'h0).toNat = 48
  · have HX : Hid (R = -1) := Lib.hid (by rw [HV.out, rdT_zero 10 999999 s hz.1 hz.2]; rfl)
    have hix := first_byte s h0
    rw [hz.2] at hix
    have dl := is_lt (show (1 : Int) < s.size by omega)
    clear h1 HV hz
    go_enter Tryd.func47, Tryd.ntmps47
    go_wp2_with (go_at_call 29; refine (HI.out _).mono ?_; rintro e w' ⟨rfl, rfl⟩)
    go_ret
    exact ⟨ret_int HX.out.symm, Below.refl _ _⟩
  have HG : Hid (rdT 10 999999 s.data.toList = rdN 10 999999 (s.data.toList.drop 0) 0) := Lib.hid (rdT_go 10 999999 s h0 (fun q e => hz ⟨q, e⟩))
  obtain ⟨o, ho⟩ : ∃ o, rdN 10 999999 (s.data.toList.drop 0) 0 = o := ⟨_, rfl⟩
  have HO := Lib.hid ho
  have HR : Hid (R = o.getD (-1)) := Lib.hid (by rw [HV.out, HG.out, ho])
  obtain ⟨x, hx⟩ : ∃ x : Int, ((s[0]'h0).toNat : Int) = x := ⟨_, rfl⟩
  have hix := first_byte s h0
  rw [hx] at hix
  have hw : (x = 48 ∧ s.size = 1) ∨ x ≠ 48 := by omega
  have HW := Lib.hid hw
  clear h1 HV HG ho hw hz hx
  rcases HW.out with ⟨q1, q2⟩ | q
  all_goals
    first
    | (have dz : (x == 48) = true := by rw [q1]; rfl
       have dl := not_lt (show (s.size : Int) ≤ 1 by omega)
       subst q1
       clear q2)
    | (have dz : (x == 48) = false := by simpa using q
       clear q)
    clear HW
    go_enter Tryd.func47, Tryd.ntmps47
    go_wp2_with (go_at_call 29; refine (HI.out _).mono ?_; rintro e w' ⟨rfl, rfl⟩)
    go_loop [3, 4] (fun N I => R1Rel s o N I) (fun _ I => s.size - (intOf I).toNat)
    case atStart => exact ⟨0, 0, Nat.zero_le _, rfl, rfl, Int.le_refl _, Int.le_refl _, HO⟩
    case round =>
      obtain ⟨k, t, hk, rfl, rfl, t0, t1, HP⟩ := hrel
      by_cases hlt : k < s.size
      · obtain ⟨c, hc⟩ : ∃ c, (s[k]'hlt).toNat = c := ⟨_, rfl⟩
        have hc255 : c < 256 := by rw [← hc]; exact UInt8.toNat_lt _
        have htn := tn_le (k + 1) (by omega)
        have hts := tn_succ k
        by_cases hd : 48 ≤ c ∧ c ≤ 57
        · have he : dg 10 ((s[k]'hlt).toNat : Int) = (c : Int) - 48 := by rw [hc]; exact dg_mid c hd
          have HE := Lib.hid (rdN_yes 10 999999 s k t ((c : Int) - 48) hlt he ⟨by omega, by omega⟩)
          have HZ : Hid (rdN 10 999999 (s.data.toList.drop (k + 1)) (t * 10 + ((c : Int) - 48)) = o) := Lib.hid (by rw [← HE.out]; exact HP.out)
          have d1 := not_lt (show (48 : Int) ≤ c by omega)
          have d2 := not_lt (show (c : Int) ≤ 57 by omega)
          have t2 : t ≤ 999999 := by omega
          have b1 : (48 : Int) ≤ c := by omega
          have b2 : (c : Int) ≤ 57 := by omega
          have t3 : t * 10 + ((c : Int) - 48) ≤ tn (k + 1) := by omega
          have HT := Lib.hid t3
          clear htn hts hd he HE t3 t1 hc255
          go_wp2
          go_round
          case rel => exact ⟨k + 1, t * 10 + ((c : Int) - 48), by omega, by go_num, by first | go_num | (congr 1; omega), by omega, HT.out, HZ⟩
          case measure => simp [intOf]; omega
        · have HE := Lib.hid (rdN_no 10 999999 s k t (dg 10 ((s[k]'hlt).toNat : Int)) hlt rfl (fun ⟨a, _⟩ => by rw [hc] at a; exact dg_not c hd a))
          have HZ : Hid (R = -1) := Lib.hid (by rw [HR.out, ← HP.out, HE.out]; rfl)
          clear htn hts HE t1
          rcases Nat.lt_or_ge c 48 with hl | hl
          · have d1 := is_lt (show (c : Int) < 48 by omega)
            clear hd
            go_wp2
            go_ret
            exact ⟨ret_int HZ.out.symm, Below.refl _ _⟩
          · have d1 := not_lt (show (48 : Int) ≤ c by omega)
            have d2 := is_lt (show (57 : Int) < c by omega)
            clear hd
            go_wp2
            go_ret
            exact ⟨ret_int HZ.out.symm, Below.refl _ _⟩
      · have HZ : Hid (R = t) := Lib.hid (by rw [HR.out, ← HP.out, rdN_end 10 999999 s k t (by omega)]; rfl)
        clear t1
        go_wp2
        go_ret
        exact ⟨ret_int HZ.out.symm, Below.refl _ _⟩
def DfR (w1 : World) (n0 n1 : Int) (v : Value) (wx : World) : Prop := ∃ bx, v = .pointer (some ⟨bx, 0, none⟩) ∧ Below w1.heap.size w1 wx ∧ w1.heap.size ≤ bx ∧ TwoIs wx bx (.int .i64 n0) (.int .i64 n1)
set_option maxHeartbeats 6400000 in
theorem specParse_any (s : ByteArray) (r : Fa) (bb : Bool) (hP : PfS s r bb) (w : World) (hs : s.size ≤ 1048576) : Calls Tryd.prog 26 #[.string s] w (SaysT2 w (faV r) (.bool bb)) := by
  have HS := Lib.hid (fun w => l1SplitG_any 32 s w hs)
  have T0 : TwoIs (w.alloc (Obj.cells #[.int .i64 0, .int .i64 0] 37)) w.heap.size (.int .i64 0) (.int .i64 0) := two_is w _ _ _
  have F0 := Lib.hid (FroC.new w #[.int .i64 0, .int .i64 0] 37)
  have T0' := Lib.hid T0
  have hpp := pieces_of 32 s hs
  clear T0
  unfold SaysG at HS
  by_cases h3 : (scB 32 s).length = 3
  case neg =>
    obtain ⟨e1, e2⟩ := pf_none hP (pm_len h3)
    have dq : (((scB 32 s).length : Int) != 3) = true := by simp; omega
    rw [e1, e2]
    clear hP e1 e2 h3 hpp
    generalize (scB 32 s).length = N at dq HS
    generalize scB 32 s = P at HS
    unfold faV fa0
    simp only
    go_enter Tryd.func26, Tryd.ntmps26
    go_wp2_with (go_at_call 39; refine (HS.out _).mono ?_; rintro e w1 ⟨g, cap, rfl, hcp, T, hl, b⟩; have B1 := Lib.hid ((one_new2 w _).trans (b.mono (by simp))); have F1 := Lib.hid (T0'.out.on b); obtain ⟨y0, y1, _⟩ := F1.out; have G1 := F0.out.on b (by simp); have z0 := G1 0; have z1 := G1 1; clear b T G1)
    obtain ⟨r0, r1⟩ := readS2 F1.out.some (.int .i64 0) (.int .i64 0) _ rfl
    exact bodyPost_ret (v := .tuple #[.agg #[.int .i64 0, .int .i64 0], .bool false]) (by simp [results, Tryd.results26, go_sem, r0, r1]) rfl ⟨rfl, setS2 B1.out _ (Nat.le_refl _) _ _⟩
  obtain ⟨p0, p1, p2, hp⟩ := list3 h3
  have HBAD := Lib.hid (fun h => pf_none hP (pm_bad hp h))
  have HNE := Lib.hid (fun h => pf_none hP (pm_ne hp h))
  have HEQ := Lib.hid (fun hg h => pm_eq hP hp hg h)
  have hs0 := pc_rng hpp 0 (by rw [hp]; simp)
  have hs2 := pc_rng hpp 2 (by rw [hp]; simp)
  rw [hp] at HS hs0 hs2
  simp only [List.length_cons, List.length_nil, List.getD_cons_zero, List.getD_cons_succ] at hs0 hs2
  have HR0 := Lib.hid (fun w => erNamed_any p0 w)
  have HR1 := Lib.hid (fun w => l1Read_any p2 w hs2)
  generalize kiOf p0 = n0 at HR0 HBAD HNE HEQ
  generalize l1V p2.data.toList = n1 at HR1 HBAD HNE HEQ
  clear hp h3 hpp hP
  have HGD := Lib.hid (fun w => erGood_any ⟨n0, n1⟩ w)
  unfold faV at HGD
  simp only at HGD
  go_enter Tryd.func26, Tryd.ntmps26
  go_wp2_with (go_at_call 39; refine (HS.out _).mono ?_; rintro e w1 ⟨g, cap, rfl, hcp, T, hl, b⟩; have B1 := Lib.hid ((one_new2 w _).trans (b.mono (by simp))); have F1 := Lib.hid (T0'.out.on b); have G1 := Lib.hid (F0.out.on b (by simp)); have O1 : Hid (w1.cell? ⟨g, 0, none⟩ = some (.string p0) ∧ w1.cell? ⟨g, 1, none⟩ = some (.string p1) ∧ w1.cell? ⟨g, 2, none⟩ = some (.string p2)) := Lib.hid ⟨T 0 (by simp), T 1 (by simp), T 2 (by simp)⟩; have HL := Lib.hid hl; clear b T hl; refine Hid.out ?_)
  refine Lib.hid ?_
  have HS4 : Hid (∀ w', Below w1.heap.size w1 w' → w'.cell? ⟨g, 0, none⟩ = some (.string p0) ∧ w'.cell? ⟨g, 1, none⟩ = some (.string p1) ∧ w'.cell? ⟨g, 2, none⟩ = some (.string p2) ∧ Below w1.heap.size w1 w') := Lib.hid (fun w' h => by
    have q := fun j => h.cell (p := ⟨g, j, none⟩) HL.out
    exact ⟨(q 0).trans O1.out.1, (q 1).trans O1.out.2.1, (q 2).trans O1.out.2.2, h⟩)
  go_upto_region 4 with fail
  go_cut [5] from 12 to 20 (fun x5 wx => DfR w1 n0 n1 x5 wx)
  case first =>
    refine wp_region_held_drew (S := fun w' => w'.cell? ⟨g, 0, none⟩ = some (.string p0) ∧ w'.cell? ⟨g, 1, none⟩ = some (.string p1) ∧ w'.cell? ⟨g, 2, none⟩ = some (.string p2) ∧ Below w1.heap.size w1 w') (by kernel_rfl) ?_ (fun hHeld => ?_)
    · (try dsimp only)
      exact HS4.out _ (below_drewN (Below.refl _ _) 1)
    refine held_take (i := 0) (d := 12) (v := ?_) rfl rfl (by kernel_rfl) (by kernel_rfl) (by kernel_rfl) (fun _ _ _ h => h) (by rfl) ?_ (by assumption) ?_
    rotate_left
    · intro w hSw
      (try dsimp only at hSw)
      go_simp
      try with_reducible rfl
    try simp only [Act.put, List.setIfInBounds_toArray, List.set_cons_zero, List.set_cons_succ]
    refine held_take (i := 1) (d := 13) (v := ?_) rfl rfl (by kernel_rfl) (by kernel_rfl) (by kernel_rfl) (fun _ _ _ h => h) (by rfl) ?_ (by assumption) ?_
    rotate_left
    · intro w hSw
      (try dsimp only at hSw)
      go_simp
      try with_reducible rfl
    try simp only [Act.put, List.setIfInBounds_toArray, List.set_cons_zero, List.set_cons_succ]
    refine held_take (i := 2) (d := 14) (v := ?_) rfl rfl (by kernel_rfl) (by kernel_rfl) (by kernel_rfl) (fun _ _ _ h => h) (by rfl) ?_ (by assumption) ?_
    rotate_left
    · intro w hSw
      (try dsimp only at hSw)
      go_simp
      try with_reducible rfl
    try simp only [Act.put, List.setIfInBounds_toArray, List.set_cons_zero, List.set_cons_succ]
    refine held_take (i := 4) (d := 16) (v := ?_) rfl rfl (by kernel_rfl) (by kernel_rfl) (by kernel_rfl) (fun _ _ _ h => h) (by rfl) ?_ (by assumption) ?_
    rotate_left
    · intro w hSw
      (try dsimp only at hSw)
      go_simp
      try with_reducible rfl
    try simp only [Act.put, List.setIfInBounds_toArray, List.set_cons_zero, List.set_cons_succ]
    refine held_take (i := 5) (d := 17) (v := ?_) rfl rfl (by kernel_rfl) (by kernel_rfl) (by kernel_rfl) (fun _ _ _ h => h) (by rfl) ?_ (by assumption) ?_
    rotate_left
    · intro w hSw
      (try dsimp only at hSw)
      go_simp
      try with_reducible rfl
    try simp only [Act.put, List.setIfInBounds_toArray, List.set_cons_zero, List.set_cons_succ]
    refine held_take (i := 6) (d := 18) (v := ?_) rfl rfl (by kernel_rfl) (by kernel_rfl) (by kernel_rfl) (fun _ _ _ h => h) (by rfl) ?_ (by assumption) ?_
    rotate_left
    · intro w hSw
      (try dsimp only at hSw)
      go_simp
      try with_reducible rfl
    try simp only [Act.put, List.setIfInBounds_toArray, List.set_cons_zero, List.set_cons_succ]
    have BX0 : Hid (Below w1.heap.size w1 w1.drew) := Lib.hid (below_drewN (Below.refl _ _) 1)
    obtain ⟨u0, hu0⟩ : ∃ u0, w1.drew = u0 := ⟨_, rfl⟩
    rw [hu0] at hHeld BX0 ⊢
    clear hu0
    refine wpAnyH_ready (rs := [3, 9]) (by kernel_rfl) (by simp) ?_
    refine ((AllReadyH.cons rfl (fun K' hK => ?_) (AllReadyH.cons rfl (fun K' hK => ?_) AllReadyH.nil)))
    · skip
      go_simp
      go_at_call 32
      refine (HR0.out _).mono ?_
      rintro e u1 ⟨rfl, b4⟩
      have BX1 := Lib.hid (BX0.out.trans (b4.mono BX0.out.size))
      clear b4
      refine hK.out _ _ ?_ (fun hHeld => ?_)
      · (try dsimp only)
        exact HS4.out _ BX1.out
      clear hK K'
      try simp only [Act.put, List.setIfInBounds_toArray, List.set_cons_zero, List.set_cons_succ]
      refine wpAnyH_ready (rs := [7, 9]) (by kernel_rfl) (by simp) ?_
      refine ((AllReadyH.cons rfl (fun K' hK => ?_) (AllReadyH.cons rfl (fun K' hK => ?_) AllReadyH.nil)))
      · skip
        go_simp
        go_at_call 47
        refine (HR1.out _).mono ?_
        rintro e u2 ⟨rfl, b4⟩
        have BX2 := Lib.hid (BX1.out.trans (b4.mono BX1.out.size))
        clear b4
        refine hK.out _ _ ?_ (fun hHeld => ?_)
        · (try dsimp only)
          exact HS4.out _ BX2.out
        clear hK K'
        try simp only [Act.put, List.setIfInBounds_toArray, List.set_cons_zero, List.set_cons_succ]
        refine held_take (i := 8) (d := 20) (v := ?_) rfl rfl (by kernel_rfl) (by kernel_rfl) (by kernel_rfl) (fun _ _ _ h => h) (by rfl) ?_ (by assumption) ?_
        rotate_left
        · intro w hSw
          (try dsimp only at hSw)
          go_simp
          try with_reducible rfl
        try simp only [Act.put, List.setIfInBounds_toArray, List.set_cons_zero, List.set_cons_succ]
        refine wpAnyH_ready (rs := [9]) (by kernel_rfl) (by simp) ?_
        refine ((AllReadyH.cons rfl (fun K' hK => ?_) AllReadyH.nil))
        go_simp
        refine hK.out _ _ ?_ (fun hHeld => ?_)
        · (try dsimp only)
          exact HS4.out _ (BX2.out.alloc BX2.out.size _)
        clear hK K'
        try simp only [Act.put, List.setIfInBounds_toArray, List.set_cons_zero, List.set_cons_succ]
        have BX3 := Lib.hid (BX2.out.alloc BX2.out.size (Obj.cells #[.int .i64 0, .int .i64 0] 37))
        have TB3 := Lib.hid (two_is u2 (.int .i64 0) (.int .i64 0) 37)
        have FB3 := Lib.hid (FroC.new u2 #[.int .i64 0, .int .i64 0] 37)
        have hb3 : u2.heap.size < (u2.alloc (Obj.cells #[.int .i64 0, .int .i64 0] 37)).heap.size := by simp
        obtain ⟨u3, hu3⟩ : ∃ u, u2.alloc (Obj.cells #[.int .i64 0, .int .i64 0] 37) = u := ⟨_, rfl⟩
        rw [hu3] at hHeld BX3 TB3 FB3 hb3 ⊢
        clear hu3
        refine wpAnyH_ready (rs := [10]) (by kernel_rfl) (by simp) ?_
        refine ((AllReadyH.cons rfl (fun K' hK => ?_) AllReadyH.nil))
        obtain ⟨z0, z1, zl⟩ := TB3.out
        have y0 := FB3.out 0
        have y1 := FB3.out 1
        go_simp
        refine hK.out _ _ ?_ (fun hHeld => ?_)
        · (try dsimp only)
          exact HS4.out _ (setS2 BX3.out _ BX2.out.size _ _)
        clear hK K'
        refine wpAnyH_done (by kernel_rfl) ?_ _
        go_wp2_with fail
        go_meet
        exact ⟨_, rfl, setS2 BX3.out _ BX2.out.size _ _, BX2.out.size, putS2 TB3.out.some zl _ _⟩
      · skip
        go_simp
        refine hK.out _ _ ?_ (fun hHeld => ?_)
        · (try dsimp only)
          exact HS4.out _ (BX1.out.alloc BX1.out.size _)
        clear hK K'
        try simp only [Act.put, List.setIfInBounds_toArray, List.set_cons_zero, List.set_cons_succ]
        have BX2 := Lib.hid (BX1.out.alloc BX1.out.size (Obj.cells #[.int .i64 0, .int .i64 0] 37))
        have TB2 := Lib.hid (two_is u1 (.int .i64 0) (.int .i64 0) 37)
        have FB2 := Lib.hid (FroC.new u1 #[.int .i64 0, .int .i64 0] 37)
        have hb2 : u1.heap.size < (u1.alloc (Obj.cells #[.int .i64 0, .int .i64 0] 37)).heap.size := by simp
        obtain ⟨u2, hu2⟩ : ∃ u, u1.alloc (Obj.cells #[.int .i64 0, .int .i64 0] 37) = u := ⟨_, rfl⟩
        rw [hu2] at hHeld BX2 TB2 FB2 hb2 ⊢
        clear hu2
        refine wpAnyH_ready (rs := [7]) (by kernel_rfl) (by simp) ?_
        refine ((AllReadyH.cons rfl (fun K' hK => ?_) AllReadyH.nil))
        go_simp
        go_at_call 47
        refine (HR1.out _).mono ?_
        rintro e u3 ⟨rfl, b4⟩
        have BX3 := Lib.hid (BX2.out.trans (b4.mono BX2.out.size))
        have TB3 := Lib.hid (TB2.out.on b4)
        have FB3 := Lib.hid (FB2.out.on b4 hb2)
        have hb3 : u1.heap.size < u3.heap.size := Nat.lt_of_lt_of_le hb2 b4.size
        clear b4
        refine hK.out _ _ ?_ (fun hHeld => ?_)
        · (try dsimp only)
          exact HS4.out _ BX3.out
        clear hK K'
        try simp only [Act.put, List.setIfInBounds_toArray, List.set_cons_zero, List.set_cons_succ]
        refine held_take (i := 8) (d := 20) (v := ?_) rfl rfl (by kernel_rfl) (by kernel_rfl) (by kernel_rfl) (fun _ _ _ h => h) (by rfl) ?_ (by assumption) ?_
        rotate_left
        · intro w hSw
          (try dsimp only at hSw)
          go_simp
          try with_reducible rfl
        try simp only [Act.put, List.setIfInBounds_toArray, List.set_cons_zero, List.set_cons_succ]
        refine wpAnyH_ready (rs := [10]) (by kernel_rfl) (by simp) ?_
        refine ((AllReadyH.cons rfl (fun K' hK => ?_) AllReadyH.nil))
        obtain ⟨z0, z1, zl⟩ := TB3.out
        have y0 := FB3.out 0
        have y1 := FB3.out 1
        go_simp
        refine hK.out _ _ ?_ (fun hHeld => ?_)
        · (try dsimp only)
          exact HS4.out _ (setS2 BX3.out _ BX1.out.size _ _)
        clear hK K'
        refine wpAnyH_done (by kernel_rfl) ?_ _
        go_wp2_with fail
        go_meet
        exact ⟨_, rfl, setS2 BX3.out _ BX1.out.size _ _, BX1.out.size, putS2 TB3.out.some zl _ _⟩
    · skip
      go_simp
      refine hK.out _ _ ?_ (fun hHeld => ?_)
      · (try dsimp only)
        exact HS4.out _ (BX0.out.alloc BX0.out.size _)
      clear hK K'
      try simp only [Act.put, List.setIfInBounds_toArray, List.set_cons_zero, List.set_cons_succ]
      have BX1 := Lib.hid (BX0.out.alloc BX0.out.size (Obj.cells #[.int .i64 0, .int .i64 0] 37))
      have TB1 := Lib.hid (two_is u0 (.int .i64 0) (.int .i64 0) 37)
      have FB1 := Lib.hid (FroC.new u0 #[.int .i64 0, .int .i64 0] 37)
      have hb1 : u0.heap.size < (u0.alloc (Obj.cells #[.int .i64 0, .int .i64 0] 37)).heap.size := by simp
      obtain ⟨u1, hu1⟩ : ∃ u, u0.alloc (Obj.cells #[.int .i64 0, .int .i64 0] 37) = u := ⟨_, rfl⟩
      rw [hu1] at hHeld BX1 TB1 FB1 hb1 ⊢
      clear hu1
      refine wpAnyH_ready (rs := [3]) (by kernel_rfl) (by simp) ?_
      refine ((AllReadyH.cons rfl (fun K' hK => ?_) AllReadyH.nil))
      go_simp
      go_at_call 32
      refine (HR0.out _).mono ?_
      rintro e u2 ⟨rfl, b4⟩
      have BX2 := Lib.hid (BX1.out.trans (b4.mono BX1.out.size))
      have TB2 := Lib.hid (TB1.out.on b4)
      have FB2 := Lib.hid (FB1.out.on b4 hb1)
      have hb2 : u0.heap.size < u2.heap.size := Nat.lt_of_lt_of_le hb1 b4.size
      clear b4
      refine hK.out _ _ ?_ (fun hHeld => ?_)
      · (try dsimp only)
        exact HS4.out _ BX2.out
      clear hK K'
      try simp only [Act.put, List.setIfInBounds_toArray, List.set_cons_zero, List.set_cons_succ]
      refine wpAnyH_ready (rs := [7]) (by kernel_rfl) (by simp) ?_
      refine ((AllReadyH.cons rfl (fun K' hK => ?_) AllReadyH.nil))
      go_simp
      go_at_call 47
      refine (HR1.out _).mono ?_
      rintro e u3 ⟨rfl, b4⟩
      have BX3 := Lib.hid (BX2.out.trans (b4.mono BX2.out.size))
      have TB3 := Lib.hid (TB2.out.on b4)
      have FB3 := Lib.hid (FB2.out.on b4 hb2)
      have hb3 : u0.heap.size < u3.heap.size := Nat.lt_of_lt_of_le hb2 b4.size
      clear b4
      refine hK.out _ _ ?_ (fun hHeld => ?_)
      · (try dsimp only)
        exact HS4.out _ BX3.out
      clear hK K'
      try simp only [Act.put, List.setIfInBounds_toArray, List.set_cons_zero, List.set_cons_succ]
      refine held_take (i := 8) (d := 20) (v := ?_) rfl rfl (by kernel_rfl) (by kernel_rfl) (by kernel_rfl) (fun _ _ _ h => h) (by rfl) ?_ (by assumption) ?_
      rotate_left
      · intro w hSw
        (try dsimp only at hSw)
        go_simp
        try with_reducible rfl
      try simp only [Act.put, List.setIfInBounds_toArray, List.set_cons_zero, List.set_cons_succ]
      refine wpAnyH_ready (rs := [10]) (by kernel_rfl) (by simp) ?_
      refine ((AllReadyH.cons rfl (fun K' hK => ?_) AllReadyH.nil))
      obtain ⟨z0, z1, zl⟩ := TB3.out
      have y0 := FB3.out 0
      have y1 := FB3.out 1
      go_simp
      refine hK.out _ _ ?_ (fun hHeld => ?_)
      · (try dsimp only)
        exact HS4.out _ (setS2 BX3.out _ BX0.out.size _ _)
      clear hK K'
      refine wpAnyH_done (by kernel_rfl) ?_ _
      go_wp2_with fail
      go_meet
      exact ⟨_, rfl, setS2 BX3.out _ BX0.out.size _ _, BX0.out.size, putS2 TB3.out.some zl _ _⟩
  case rest =>
    obtain ⟨bx, rfl, hbx, hbx1, ht⟩ := hcut
    obtain ⟨w2, rfl⟩ : ∃ w2, w2 = wc := ⟨_, rfl⟩
    have HT := Lib.hid ht
    have B2 := Lib.hid (B1.out.trans (hbx.mono B1.out.size))
    have F2 := Lib.hid (F1.out.on hbx)
    have G2 := Lib.hid (G1.out.on hbx F1.out.2.2)
    clear ht hbx HS4 HR0 HR1 HS
    obtain ⟨x0, x1, xl⟩ := HT.out
    cases hg : goodF ⟨n0, n1⟩
    · rw [hg] at HGD
      obtain ⟨e1, e2⟩ := HBAD.out hg
      subst e1 e2
      clear hg HBAD HNE HEQ
      go_wp2_with (go_at_call 41; refine (HGD.out _).mono ?_; rintro e w3 ⟨rfl, b3⟩; have B3 := Lib.hid (B2.out.trans (b3.mono B2.out.size)); have F3 := Lib.hid (F2.out.on b3); have G3 := G2.out.on b3 F2.out.2.2; obtain ⟨y0, y1, _⟩ := F3.out; have z0 := G3 0; have z1 := G3 1; clear b3 G3 x0 x1)
      obtain ⟨r0, r1⟩ := readS2 F3.out.some (.int .i64 0) (.int .i64 0) _ rfl
      exact bodyPost_ret (v := .tuple #[.agg #[.int .i64 0, .int .i64 0], .bool false]) (by simp [results, Tryd.results26, go_sem, r0, r1, faV, fa0]) rfl ⟨rfl, setS2 B3.out _ (Nat.le_refl _) _ _⟩
    · rw [hg] at HGD
      have N := fan hg
      have HCT := Lib.hid (fun w => erShow_any _ _ N.k8 N.n6 w)
      have e0 : ((Int.toNat n0 : Nat) : Int) = n0 := N.ek.symm
      have e1 : ((Int.toNat n1 : Nat) : Int) = n1 := N.ea.symm
      simp only at HCT
      rw [e0, e1] at HCT
      have HEQ2 := Lib.hid (fun h => HEQ.out hg h)
      generalize ftT n0.toNat n1.toNat = R at HCT HNE HEQ2
      clear hg HBAD N e0 e1 HEQ
      cases hd : (R.toList == s.toList)
      · obtain ⟨e1, e2⟩ := HNE.out (fun q => by rw [q] at hd; simp at hd)
        subst e1 e2
        have hd2 : (R.toList != s.toList) = true := by simp [bne, hd]
        clear HNE HEQ2
        go_wp2_with (go_at_call 41; refine (HGD.out _).mono ?_; rintro e w3 ⟨rfl, b3⟩; have B3 := Lib.hid (B2.out.trans (b3.mono B2.out.size)); have F3 := Lib.hid (F2.out.on b3); have G3 := Lib.hid (G2.out.on b3 F2.out.2.2); have T3 := Lib.hid (HT.out.on b3); clear b3 x0 x1; obtain ⟨x0, x1, _⟩ := T3.out; refine Hid.out ?_)
        refine Lib.hid ?_
        go_wp2_with (go_at_call 44; refine (HCT.out _).mono ?_; rintro e w4 ⟨rfl, b4⟩; have B4 := Lib.hid (B3.out.trans (b4.mono B3.out.size)); have F4 := Lib.hid (F3.out.on b4); have G4 := G3.out.on b4 F3.out.2.2; obtain ⟨y0, y1, _⟩ := F4.out; have z0 := G4 0; have z1 := G4 1; have T4 := Lib.hid (T3.out.on b4); clear b4 G4 x0 x1; obtain ⟨x0, x1, _⟩ := T4.out)
        obtain ⟨r0, r1⟩ := readS2 F4.out.some (.int .i64 0) (.int .i64 0) _ rfl
        exact bodyPost_ret (v := .tuple #[.agg #[.int .i64 0, .int .i64 0], .bool false]) (by simp [results, Tryd.results26, go_sem, r0, r1, faV, fa0]) rfl ⟨rfl, setS2 B4.out _ (Nat.le_refl _) _ _⟩
      · obtain ⟨e1, e2⟩ := HEQ2.out (by rw [same_list] at hd; exact bytes_inj (of_decide_eq_true hd))
        subst e1 e2
        have hd2 : (R.toList != s.toList) = false := by simp [bne, hd]
        clear HNE HEQ2
        go_wp2_with (go_at_call 41; refine (HGD.out _).mono ?_; rintro e w3 ⟨rfl, b3⟩; have B3 := Lib.hid (B2.out.trans (b3.mono B2.out.size)); have F3 := Lib.hid (F2.out.on b3); have G3 := Lib.hid (G2.out.on b3 F2.out.2.2); have T3 := Lib.hid (HT.out.on b3); clear b3 x0 x1; obtain ⟨x0, x1, _⟩ := T3.out; refine Hid.out ?_)
        refine Lib.hid ?_
        go_wp2_with (go_at_call 44; refine (HCT.out _).mono ?_; rintro e w4 ⟨rfl, b4⟩; have B4 := Lib.hid (B3.out.trans (b4.mono B3.out.size)); have F4 := Lib.hid (F3.out.on b4); have G4 := G3.out.on b4 F3.out.2.2; obtain ⟨y0, y1, _⟩ := F4.out; have z0 := G4 0; have z1 := G4 1; have T4 := Lib.hid (T3.out.on b4); clear b4 G4 x0 x1; obtain ⟨x0, x1, _⟩ := T4.out)
        obtain ⟨r0, r1⟩ := readS2 F4.out.some (.int .i64 n0) (.int .i64 n1) _ rfl
        exact bodyPost_ret (v := .tuple #[.agg #[.int .i64 n0, .int .i64 n1], .bool true]) (by simp [results, Tryd.results26, go_sem, r0, r1, faV]) rfl ⟨rfl, setS2 B4.out _ (Nat.le_refl _) _ _⟩
end Go.Proofs.YtdfkehgkonadhaaDoor
