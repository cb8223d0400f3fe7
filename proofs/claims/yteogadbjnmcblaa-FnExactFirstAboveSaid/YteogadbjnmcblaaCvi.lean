/- A number put into an increasing list: the model's. -/
import Derived.Test.YteogadbjnmcblaaOpn
import Derived.Test.YteogadbjnmcblaaIni
import Derived.Test.YteogadbjnmcblaaBxw
namespace Go.Proofs.Yteogadbjnmcblaa
open Go.RowKit
set_option linter.unusedVariables false

/-- how many numbers at the head are less -/
def pkL (x : Int) : List Int → Nat
  | [] => 0
  | y :: r => if y < x then pkL x r + 1 else 0
theorem pkL_le (x : Int) (l : List Int) : pkL x l ≤ l.length := by
  induction l with
  | nil => simp [pkL]
  | cons y r ih => unfold pkL; split <;> simp; omega
theorem drop_at' (l : List Int) (k : Nat) (h : k < l.length) : l.drop k = l.getD k 0 :: l.drop (k + 1) := by
  rw [List.drop_eq_getElem_cons h]
  simp [List.getD_eq_getElem?_getD, h]
theorem pk_more (x : Int) (l : List Int) (k : Nat) (h : k < l.length) (y : Int) (hy : l.getD k 0 = y) (q : y < x) : pkL x (l.drop k) = pkL x (l.drop (k + 1)) + 1 := by
  rw [drop_at' l k h, hy, pkL, if_pos q]
theorem pk_stop (x : Int) (l : List Int) (k : Nat) (h : k < l.length) (y : Int) (hy : l.getD k 0 = y) (q : x ≤ y) : pkL x (l.drop k) = 0 := by
  rw [drop_at' l k h, hy, pkL, if_neg (by omega)]
theorem pk_end (x : Int) (l : List Int) (k : Nat) (h : l.length ≤ k) : pkL x (l.drop k) = 0 := by
  rw [List.drop_eq_nil_of_le h]; rfl
/-- a number put into a list -/
def putL (l : List Int) (x : Int) : List Int := if pkL x l < l.length ∧ l.getD (pkL x l) 0 = x then l else l.take (pkL x l) ++ [x] ++ l.drop (pkL x l)
theorem put_there {l : List Int} {x : Int} {k : Nat} (hk : pkL x l = k) (h : k < l.length) (h2 : l.getD k 0 = x) : putL l x = l := by unfold putL; rw [hk]; exact if_pos ⟨h, h2⟩
theorem put_new {l : List Int} {x : Int} {k : Nat} (hk : pkL x l = k) (h : ¬ (k < l.length ∧ l.getD k 0 = x)) : putL l x = l.take k ++ [x] ++ l.drop k := by unfold putL; rw [hk]; exact if_neg h
def PtRel (w : World) (x : Int) (zs : List Int) (K : Nat) (i : Value) : Prop := ∃ k : Nat, k ≤ zs.length ∧ i = .int .i64 k ∧ Hid (k + pkL x (zs.drop k) = K)
def SaysR (w : World) (B : Nat) (zs : List Int) (e : Ending) (w' : World) : Prop := ∃ v, e = .returned v ∧ w'.ownsRow B 3 1 v zs.length (iv zs) ∧ Below w.heap.size w w'
theorem iv_append (a b : List Int) : iv (a ++ b) = iv a ++ iv b := by simp [iv]
theorem news_part {w w' : World} {B g n cap : Nat} {zs : List Int} (h : w.ownsRow B 3 1 (.slice (some ⟨g, 0, none⟩) n cap) n (iv zs)) (hb : Below w.heap.size w w') (o m : Nat) (hm : o + m ≤ n) :
    ∀ j u, (iv ((zs.drop o).take m))[j]? = some u → w'.cell? ((⟨g, o, none⟩ : Addr).add j) = some u := by
  intro j u hu
  have hg : g < w.heap.size := (World.ownsRow.lt h g rfl).2
  have hl : zs.length = n := by have := h.1; rw [iv_length] at this; omega
  have hj : j < m := by have := (List.getElem?_eq_some_iff.1 hu).1; simp [iv_length] at this; omega
  rw [show (⟨g, o, none⟩ : Addr).add j = ⟨g, o + j, none⟩ by simp [Addr.add], hb.cell (p := ⟨g, o + j, none⟩) hg, World.ownsRow.cellAt h (o + j) (by omega), ← hu]
  unfold iv
  rw [List.getElem?_map, List.getElem?_map, List.getElem?_take, if_pos hj, List.getElem?_drop]
theorem iv_one (l : List Int) : ∀ u ∈ iv l, u.oneCell' = true := by
  intro u hu
  unfold iv at hu
  obtain ⟨a, _, rfl⟩ := List.mem_map.1 hu
  rfl
theorem grown_below {w w0 w' : World} {row : Option Nat} (hb : Below w.heap.size w w0) (hg : w0.grownBy w' row) (hl : ∀ k, row = some k → w.heap.size ≤ k) : Below w.heap.size w w' := hb.grown hg hb.size hl
set_option maxHeartbeats 3200000 in
theorem l1Put_any (B : Nat) (v : Value) (zs : List Int) (x : Int) (w : World) (HO : Hid (w.ownsRow B 3 1 v zs.length (iv zs))) (h1 : 1 ≤ zs.length) (hm : zs.length ≤ 1000) (hB : B ≤ w.heap.size) :
    Calls Try.prog 61 #[v, .int .i64 x] w (SaysR w B (putL zs x)) := by
  obtain ⟨i0, hi, hz0, hz1, hz2⟩ := info_parts infoI
  obtain ⟨K, hK⟩ : ∃ K, pkL x zs = K := ⟨_, rfl⟩
  have HK := Lib.hid hK
  have H0 : Hid (0 + pkL x (zs.drop 0) = K) := Lib.hid (by rw [← hK]; simp)
  obtain ⟨n, hn⟩ : ∃ n, zs.length = n := ⟨_, rfl⟩
  have HN := Lib.hid hn
  rw [hn] at HO h1 hm
  obtain ⟨g, cap, rfl, hcap⟩ : ∃ g cap, v = .slice (some ⟨g, 0, none⟩) n cap ∧ n ≤ cap := by
    rcases HO.out.2 with ⟨_, h0⟩ | ⟨g, cap, cur, hv, _, _, h, _⟩
    · omega
    · exact ⟨g, cap, hv, h⟩
  have HC : Hid (∀ k, k < n → w.cell? ⟨g, k, none⟩ = some (.int .i64 (zs.getD k 0))) := Lib.hid (fun k hk => by rw [World.ownsRow.cellAt HO.out k (by omega), iv_get _ _ (by omega)])
  have hgl : g < w.heap.size := (World.ownsRow.lt HO.out g rfl).2
  clear hK hn
  go_enter Try.func61, Try.ntmps61
  go_wp2_with fail
  go_loop [5] (fun i => PtRel w x zs K i) (fun i => n - (intOf i).toNat)
  case atStart => exact ⟨0, Nat.zero_le _, rfl, H0⟩
  case round =>
    obtain ⟨k, hk, rfl, HP⟩ := hrel
    rw [HN.out] at hk
    by_cases hlt : k < n
    · obtain ⟨y, hy⟩ : ∃ y, zs.getD k 0 = y := ⟨_, rfl⟩
      have hc := HC.out k hlt
      rw [hy] at hc
      rcases Int.lt_or_le y x with q | q
      · have HX : Hid (k + 1 + pkL x (zs.drop (k + 1)) = K) := Lib.hid (by rw [← HP.out, pk_more x zs k (by rw [HN.out]; exact hlt) y hy q]; omega)
        have d := is_lt q
        clear hy q
        go_wp2_with fail
        go_round
        case rel => exact ⟨k + 1, by rw [HN.out]; omega, by go_num, HX⟩
        case measure => simp [intOf]; omega
      · have HX : Hid (k = K) := Lib.hid (by rw [← HP.out, pk_stop x zs k (by rw [HN.out]; exact hlt) y hy q]; omega)
        have d := not_lt q
        by_cases he : y = x
        · have d2 : (y == x) = true := by simpa using he
          have HR : Hid (putL zs x = zs) := Lib.hid (put_there (HK.out.trans HX.out.symm) (by rw [HN.out]; exact hlt) (hy.trans he))
          clear hy q he
          go_wp2_with fail
          go_ret
          exact ⟨_, rfl, by rw [HR.out, HN.out]; exact HO.out, Below.refl _ _⟩
        · have d2 : (y == x) = false := by simpa using he
          have HR : Hid (putL zs x = zs.take k ++ [x] ++ zs.drop k) := Lib.hid (put_new (HK.out.trans HX.out.symm) (by rw [hy]; exact fun h => he h.2))
          clear hy q he
          have HB0 := Lib.hid (one_new2 w (Obj.cells #[] 3))
          have HO0 := Lib.hid (World.ownsRow_lit (base := w.heap.size) (e := 3) (size := 1) w #[] 0 (Nat.le_refl _) (Nat.zero_le _) rfl)
          have HTK : Hid ((iv (zs.take k)).length = k) := Lib.hid (by rw [iv_length, List.length_take, HN.out]; omega)
          have HDK : Hid ((iv (zs.drop k)).length = n - k) := Lib.hid (by rw [iv_length, List.length_drop, HN.out])
          have HN1 := Lib.hid (news_part HO.out HB0.out 0 k (by omega))
          go_wp2_with (at_builtin; refine wpList_append_own _ rfl _ _ 56 rfl w.heap.size 3 i0 (.int .i64 0) 1 8 Try.underlying56 hi hz0 hz1 hz2 rfl (by decide) _ _ _ rfl HO0.out ⟨g, 0, none⟩ k cap (iv (zs.take k)) rfl (by rw [HTK.out]; omega) (by have := HN1.out; simpa using this) (iv_one _) (by unfold maxLen; omega) (by omega) HB0.out.size ?_; intro v1 w1 o1 g1 _; have B1 := Lib.hid (grown_below HB0.out g1 (fun k h => (World.ownsRow.lt HO0.out k h).1)); have O1 := Lib.hid o1; clear o1 g1; refine Hid.out ?_)
          refine Lib.hid ?_
          have HB1 := Lib.hid ((B1.out.alloc B1.out.size (Obj.cells #[.int .i64 x] 3)))
          have HO1 := Lib.hid (World.ownsRow.alloc O1.out (Obj.cells #[.int .i64 x] 3))
          have hs1 := B1.out.size
          go_wp2_with (at_builtin; refine wpList_append_own _ rfl _ _ 56 rfl w.heap.size 3 i0 (.int .i64 0) 1 8 Try.underlying56 hi hz0 hz1 hz2 rfl (by decide) _ _ _ rfl HO1.out ⟨w1.heap.size, 0, none⟩ 1 1 [.int .i64 x] rfl rfl (by have := one_int w1 (.int .i64 x) 3; simpa using this) (by intro u hu; simp at hu; subst hu; rfl) (by unfold maxLen; omega) (by omega) HB1.out.size ?_; intro v2 w2 o2 g2 _; have B2 := Lib.hid (grown_below HB1.out g2 (fun k h => (World.ownsRow.lt HO1.out k h).1)); have O2 := Lib.hid o2; clear o2 g2; refine Hid.out ?_)
          refine Lib.hid ?_
          have HN2 := Lib.hid (news_part HO.out B2.out k (n - k) (by omega))
          go_wp2_with (at_builtin; refine wpList_append_own _ rfl _ _ 56 rfl w.heap.size 3 i0 (.int .i64 0) 1 8 Try.underlying56 hi hz0 hz1 hz2 rfl (by decide) _ _ _ rfl O2.out ⟨g, k, none⟩ (n - k) (cap - k) (iv (zs.drop k)) rfl (by have := HDK.out; omega) (by have := HN2.out; rw [List.take_of_length_le (by rw [List.length_drop, HN.out]; exact Nat.le_refl _)] at this; exact this) (iv_one _) (by unfold maxLen; omega) (by omega) B2.out.size ?_; intro v3 w3 o3 g3 _; have B3 := Lib.hid (grown_below B2.out g3 (fun k h => (World.ownsRow.lt O2.out k h).1)); have O3 := Lib.hid o3; clear o3 g3)
          go_ret
          refine ⟨_, rfl, ?_, B3.out⟩
          have q := own_base O3.out hB
          rw [HR.out]
          have e1 : (zs.take k ++ [x] ++ zs.drop k).length = 0 + k + 1 + (n - k) := by have := HN.out; simp; omega
          have e2 : iv (zs.take k ++ [x] ++ zs.drop k) = (#[] : Array Value).toList ++ iv (zs.take k) ++ [.int .i64 x] ++ iv (zs.drop k) := by simp [iv]
          rw [e1, e2]
          exact q
    · have HX : Hid (k = K) := Lib.hid (by rw [← HP.out, pk_end x zs k (by rw [HN.out]; omega)]; omega)
      have hkn : k = n := by omega
      have HR : Hid (putL zs x = zs.take k ++ [x] ++ zs.drop k) := Lib.hid (put_new (HK.out.trans HX.out.symm) (by rw [HN.out]; omega))
      subst hkn
      rcases Nat.lt_or_eq_of_le hcap with hck | hck
      · have HB0 := Lib.hid (one_new2 w (Obj.cells #[] 3))
        have HO0 := Lib.hid (World.ownsRow_lit (base := w.heap.size) (e := 3) (size := 1) w #[] 0 (Nat.le_refl _) (Nat.zero_le _) rfl)
        have HTK : Hid ((iv (zs.take k)).length = k) := Lib.hid (by rw [iv_length, List.length_take, HN.out]; omega)
        have HDK : Hid ((iv (zs.drop k)).length = 0) := Lib.hid (by rw [iv_length, List.length_drop, HN.out]; omega)
        have HN1 := Lib.hid (news_part HO.out HB0.out 0 k (by omega))
        go_wp2_with (at_builtin; refine wpList_append_own _ rfl _ _ 56 rfl w.heap.size 3 i0 (.int .i64 0) 1 8 Try.underlying56 hi hz0 hz1 hz2 rfl (by decide) _ _ _ rfl HO0.out ⟨g, 0, none⟩ k cap (iv (zs.take k)) rfl (by rw [HTK.out]; omega) (by have := HN1.out; simpa using this) (iv_one _) (by unfold maxLen; omega) (by omega) HB0.out.size ?_; intro v1 w1 o1 g1 _; have B1 := Lib.hid (grown_below HB0.out g1 (fun k h => (World.ownsRow.lt HO0.out k h).1)); have O1 := Lib.hid o1; clear o1 g1; refine Hid.out ?_)
        refine Lib.hid ?_
        have HB1 := Lib.hid ((B1.out.alloc B1.out.size (Obj.cells #[.int .i64 x] 3)))
        have HO1 := Lib.hid (World.ownsRow.alloc O1.out (Obj.cells #[.int .i64 x] 3))
        have hs1 := B1.out.size
        go_wp2_with (at_builtin; refine wpList_append_own _ rfl _ _ 56 rfl w.heap.size 3 i0 (.int .i64 0) 1 8 Try.underlying56 hi hz0 hz1 hz2 rfl (by decide) _ _ _ rfl HO1.out ⟨w1.heap.size, 0, none⟩ 1 1 [.int .i64 x] rfl rfl (by have := one_int w1 (.int .i64 x) 3; simpa using this) (by intro u hu; simp at hu; subst hu; rfl) (by unfold maxLen; omega) (by omega) HB1.out.size ?_; intro v2 w2 o2 g2 _; have B2 := Lib.hid (grown_below HB1.out g2 (fun k h => (World.ownsRow.lt HO1.out k h).1)); have O2 := Lib.hid o2; clear o2 g2; refine Hid.out ?_)
        refine Lib.hid ?_
        have HN2 := Lib.hid (news_part HO.out B2.out k 0 (by omega))
        go_wp2_with (at_builtin; refine wpList_append_own _ rfl _ _ 56 rfl w.heap.size 3 i0 (.int .i64 0) 1 8 Try.underlying56 hi hz0 hz1 hz2 rfl (by decide) _ _ _ rfl O2.out ⟨g, k, none⟩ 0 (cap - k) (iv (zs.drop k)) rfl (by have := HDK.out; omega) (by have := HN2.out; rw [List.take_of_length_le (by rw [List.length_drop, HN.out]; omega)] at this; exact this) (iv_one _) (by unfold maxLen; omega) (by omega) B2.out.size ?_; intro v3 w3 o3 g3 _; have B3 := Lib.hid (grown_below B2.out g3 (fun k h => (World.ownsRow.lt O2.out k h).1)); have O3 := Lib.hid o3; clear o3 g3)
        go_ret
        refine ⟨_, rfl, ?_, B3.out⟩
        have q := own_base O3.out hB
        rw [HR.out]
        have e1 : (zs.take k ++ [x] ++ zs.drop k).length = 0 + k + 1 + 0 := by have := HN.out; simp; omega
        have e2 : iv (zs.take k ++ [x] ++ zs.drop k) = (#[] : Array Value).toList ++ iv (zs.take k) ++ [.int .i64 x] ++ iv (zs.drop k) := by simp [iv]
        rw [e1, e2]
        exact q
      · subst hck
        have HB0 := Lib.hid (one_new2 w (Obj.cells #[] 3))
        have HO0 := Lib.hid (World.ownsRow_lit (base := w.heap.size) (e := 3) (size := 1) w #[] 0 (Nat.le_refl _) (Nat.zero_le _) rfl)
        have HTK : Hid ((iv (zs.take k)).length = k) := Lib.hid (by rw [iv_length, List.length_take, HN.out]; omega)
        have HDK : Hid ((iv (zs.drop k)).length = 0) := Lib.hid (by rw [iv_length, List.length_drop, HN.out]; omega)
        have HN1 := Lib.hid (news_part HO.out HB0.out 0 k (by omega))
        go_wp2_with (at_builtin; refine wpList_append_own _ rfl _ _ 56 rfl w.heap.size 3 i0 (.int .i64 0) 1 8 Try.underlying56 hi hz0 hz1 hz2 rfl (by decide) _ _ _ rfl HO0.out ⟨g, 0, none⟩ k k (iv (zs.take k)) rfl (by rw [HTK.out]; omega) (by have := HN1.out; simpa using this) (iv_one _) (by unfold maxLen; omega) (by omega) HB0.out.size ?_; intro v1 w1 o1 g1 _; have B1 := Lib.hid (grown_below HB0.out g1 (fun k h => (World.ownsRow.lt HO0.out k h).1)); have O1 := Lib.hid o1; clear o1 g1; refine Hid.out ?_)
        refine Lib.hid ?_
        have HB1 := Lib.hid ((B1.out.alloc B1.out.size (Obj.cells #[.int .i64 x] 3)))
        have HO1 := Lib.hid (World.ownsRow.alloc O1.out (Obj.cells #[.int .i64 x] 3))
        have hs1 := B1.out.size
        go_wp2_with (at_builtin; refine wpList_append_own _ rfl _ _ 56 rfl w.heap.size 3 i0 (.int .i64 0) 1 8 Try.underlying56 hi hz0 hz1 hz2 rfl (by decide) _ _ _ rfl HO1.out ⟨w1.heap.size, 0, none⟩ 1 1 [.int .i64 x] rfl rfl (by have := one_int w1 (.int .i64 x) 3; simpa using this) (by intro u hu; simp at hu; subst hu; rfl) (by unfold maxLen; omega) (by omega) HB1.out.size ?_; intro v2 w2 o2 g2 _; have B2 := Lib.hid (grown_below HB1.out g2 (fun k h => (World.ownsRow.lt HO1.out k h).1)); have O2 := Lib.hid o2; clear o2 g2; refine Hid.out ?_)
        refine Lib.hid ?_
        have HN2 := Lib.hid (news_part HO.out B2.out 0 0 (by omega))
        go_wp2_with (at_builtin; refine wpList_append_own _ rfl _ _ 56 rfl w.heap.size 3 i0 (.int .i64 0) 1 8 Try.underlying56 hi hz0 hz1 hz2 rfl (by decide) _ _ _ rfl O2.out ⟨g, 0, none⟩ 0 0 (iv (zs.drop k)) rfl (by have := HDK.out; omega) (by intro j u hu; have := (List.getElem?_eq_some_iff.1 hu).1; rw [HDK.out] at this; omega) (iv_one _) (by unfold maxLen; omega) (by omega) B2.out.size ?_; intro v3 w3 o3 g3 _; have B3 := Lib.hid (grown_below B2.out g3 (fun k h => (World.ownsRow.lt O2.out k h).1)); have O3 := Lib.hid o3; clear o3 g3)
        go_ret
        refine ⟨_, rfl, ?_, B3.out⟩
        have q := own_base O3.out hB
        rw [HR.out]
        have e1 : (zs.take k ++ [x] ++ zs.drop k).length = 0 + k + 1 + 0 := by have := HN.out; simp; omega
        have e2 : iv (zs.take k ++ [x] ++ zs.drop k) = (#[] : Array Value).toList ++ iv (zs.take k) ++ [.int .i64 x] ++ iv (zs.drop k) := by simp [iv]
        rw [e1, e2]
        exact q
end Go.Proofs.Yteogadbjnmcblaa
