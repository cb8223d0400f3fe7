/- Padding: the model's side, and both together. -/
import Derived.Test.YtelkpdkpnaeggaaZer
namespace Go.Proofs.Ytelkpdkpnaeggaa
open Go.RowKit

theorem own_shape {w1 : World} {B n : Nat} {v' : Value} {d : Addr} {zs : List Int} (h : w1.ownsRow B 5 1 v' (0 + n) ([] ++ bv zs)) (hv : v' = .slice none 0 0 ↔ (.slice (some d) 0 0 : Value) = .slice none 0 0 ∧ n = 0) :
    ∃ g c, v' = .slice (some ⟨g, 0, none⟩) n c ∧ OwnB w1 B g n c zs := by
  rw [Nat.zero_add, List.nil_append] at h
  rcases h.2 with ⟨a, _⟩ | ⟨g, cap, cur, a, _⟩
  · have := hv.1 a
    simp at this
  · subst a
    exact ⟨g, cap, rfl, h⟩
theorem src_alloc {w : World} {b off : Nat} {zs : List Int} (h : Row w b off zs) (hb : b < w.heap.size) (o : Obj) :
    ∀ j u, (bv zs)[j]? = some u → (w.alloc o).cell? ((⟨b, off, none⟩ : Addr).add j) = some u := by
  intro j v hj
  have hl : j < zs.length := by
    rw [← bv_length zs]
    exact (List.getElem?_eq_some_iff.1 hj).1
  rw [bv_get _ _ hl] at hj
  rw [show (⟨b, off, none⟩ : Addr).add j = ⟨b, off + j, none⟩ by unfold Addr.add; split <;> simp_all, World.cell?_alloc_past _ _ _ hb, h.1 j hl]
  exact hj
theorem zeros_sub (w : World) (ty : TypeId) (B g n cap s : Nat) (zs : List Int) (h : OwnB w B g n cap zs) (hB : B ≤ w.heap.size) (hns : n ≤ s) (hs : (s : Int) ≤ 4000) :
    ∃ w' g' cap', Hid ((Builtin.append_ #[22, 3] ty #[.slice (some ⟨g, 0, none⟩) n cap, .int .i64 ((s : Int) - n)]).run Try.prog w = .ok (.slice (some ⟨g', 0, none⟩) s cap') w') ∧
      Hid (OwnB w' B g' s cap' (padded zs s)) ∧ Hid (Below B w w') := by
  obtain ⟨v', w', hrun, g', cap', rfl, o, b⟩ := zeros_own rfl w ty B g n cap (s - n) zs h hB (by omega)
  have e : ((s - n : Nat) : Int) = (s : Int) - n := by omega
  have e2 : n + (s - n) = s := by omega
  rw [e, e2] at hrun
  rw [e2] at o
  have hl := h.len
  refine ⟨w', g', cap', hrun, ?_, b⟩
  unfold Hid padded
  rw [hl]
  exact o

set_option maxHeartbeats 1600000 in
theorem scPad_some (b off n cap s : Nat) (by' : Int) (zs : List Int) (w : World) (HL : Hid (zs.length = n)) (HR : Hid (Row w b off zs)) (hb : b < w.heap.size) (hs : (s : Int) ≤ 4000) (hns : n ≤ s)
    (h0 : (n : Int) ≤ 1000000) (h2 : 1 ≤ by') (h3 : by' ≤ 16) (HA : Hid (((n : Int) + by' - 1) / by' * by' = (s : Int))) :
    Calls Try.prog 43 #[.slice (some ⟨b, off, none⟩) n cap, .int .i64 by'] w (GivesRow w s (padded zs s)) := by
  obtain ⟨i0, hi, hz0, hz1, hz2⟩ := info_parts infoU8
  have HE := Lib.hid (World.ownsRow_lit (base := w.heap.size) (e := 5) (size := 1) w #[] 0 (Nat.le_refl _) (by unfold maxLen; omega) rfl)
  have HLEN : Hid ((bv zs).length = n * 1) := Lib.hid (by rw [bv_length, HL.out, Nat.mul_one])
  go_enter Try.func43, Try.ntmps43
  go_wp2_with (first
    | (at_builtin; refine wpList_append_own _ rfl _ _ 22 rfl w.heap.size 5 i0 (.int .u8 0) 1 1 Try.underlying22 hi hz0 hz1 hz2 rfl (by decide) _ 0 [] rfl HE.out ⟨b, off, none⟩ n cap (bv zs) rfl HLEN.out (src_alloc HR.out hb _) (u8_one _) (by unfold maxLen; omega) (by omega) (by simp) ?_; intro v1 w1 hown1 hgrow1 hiff; obtain ⟨g1, c1, rfl, o1⟩ := own_shape hown1 hiff; have O1 := Lib.hid o1; have B1 := Lib.hid (((Below.refl w.heap.size w).alloc (Nat.le_refl _) _).grown hgrow1 (by simp) (by intro k h; cases h; exact Nat.le_refl _)); clear hown1 hgrow1 hiff o1; obtain ⟨w2, g2, c2, HZ, O2, B2⟩ := zeros_sub w1 22 w.heap.size g1 n c1 s zs O1.out B1.out.size hns hs)
    | (at_builtin; refine Lib.wpList_append_run _ rfl _ _ _ _ rfl _ _ rfl rfl _ _ HZ.out ?_)
    | (go_at_call 42; refine (scAlign_any _ _ _ (by omega) h0 h2 h3).mono ?_; rw [HA.out]; rintro e w' ⟨rfl, rfl⟩))
  go_ret
  exact ⟨g2, c2, rfl, O2.out, B1.out.trans B2.out⟩

theorem implPad_not (a : Option Addr) (n cap : Nat) (by' : Int) (w : World) (HA : Hid (alB n by' = false ∧ alR n by' = 0)) :
    Calls Try.prog 14 #[.slice a n cap, .int .i64 by'] w (GivesNone w) := by
  go_enter Try.func14, Try.ntmps14
  go_wp2_with (go_at_call 17; refine (implAlignUp_any _ _ _).mono ?_; rw [HA.out.1, HA.out.2]; rintro e w' ⟨rfl, rfl⟩)
  go_ret2
  exact ⟨rfl, rfl⟩
theorem implPad_big (a : Option Addr) (n cap : Nat) (by' v : Int) (w : World) (HA : Hid (alB n by' = true ∧ alR n by' = v)) (hv : 4000 < v) :
    Calls Try.prog 14 #[.slice a n cap, .int .i64 by'] w (GivesNone w) := by
  have t0 := is_lt hv
  go_enter Try.func14, Try.ntmps14
  go_wp2_with (go_at_call 17; refine (implAlignUp_any _ _ _).mono ?_; rw [HA.out.1, HA.out.2]; rintro e w' ⟨rfl, rfl⟩)
  go_ret2
  exact ⟨rfl, rfl⟩
theorem specPad_long (a : Option Addr) (n cap : Nat) (by' : Int) (w : World) (h : 4000 < (n : Int)) :
    Calls Try.prog 15 #[.slice a n cap, .int .i64 by'] w (GivesNone w) := by
  go_enter Try.func15, Try.ntmps15
  go_wp2_with (go_at_call 39; refine (scBytes_false _ _ h).mono ?_; rintro e w' ⟨rfl, rfl⟩)
  go_ret2
  exact ⟨rfl, rfl⟩
theorem specPad_by (a : Option Addr) (n cap : Nat) (by' : Int) (w : World) (h : (n : Int) ≤ 4000) (h1 : by' < 1 ∨ 16 < by') :
    Calls Try.prog 15 #[.slice a n cap, .int .i64 by'] w (GivesNone w) := by
  have H1 := Lib.hid h1
  clear h1
  go_enter Try.func15, Try.ntmps15
  go_wp2_with (first | (go_at_call 39; refine (scBytes_true _ _ h).mono ?_; rintro e w' ⟨rfl, rfl⟩) | (go_at_call 34; refine (l1In_false _ _ _ _ H1.out).mono ?_; rintro e w' ⟨rfl, rfl⟩))
  go_ret2
  exact ⟨rfl, rfl⟩
theorem specPad_big (a : Option Addr) (n cap : Nat) (by' v : Int) (w : World) (h : (n : Int) ≤ 4000) (h2 : 1 ≤ by') (h3 : by' ≤ 16) (HA : Hid (((n : Int) + by' - 1) / by' * by' = v)) (hv : 4000 < v) :
    Calls Try.prog 15 #[.slice a n cap, .int .i64 by'] w (GivesNone w) := by
  go_enter Try.func15, Try.ntmps15
  go_wp2_with (first | (go_at_call 39; refine (scBytes_true _ _ h).mono ?_; rintro e w' ⟨rfl, rfl⟩) | (go_at_call 39; refine (scBytes_false _ _ hv).mono ?_; rintro e w' ⟨rfl, rfl⟩) | (go_at_call 34; refine (l1In_true _ _ _ _ h2 h3).mono ?_; rintro e w' ⟨rfl, rfl⟩) | (go_at_call 42; refine (scAlign_any _ _ _ (by omega) (by omega) h2 h3).mono ?_; rw [HA.out]; rintro e w' ⟨rfl, rfl⟩))
  go_ret2
  exact ⟨rfl, rfl⟩
theorem specPad_some (b off n cap s : Nat) (by' : Int) (zs : List Int) (w : World) (HL : Hid (zs.length = n)) (HR : Hid (Row w b off zs)) (hb : b < w.heap.size) (hs : (s : Int) ≤ 4000) (hns : n ≤ s)
    (h : (n : Int) ≤ 4000) (h2 : 1 ≤ by') (h3 : by' ≤ 16) (HA : Hid (((n : Int) + by' - 1) / by' * by' = (s : Int))) :
    Calls Try.prog 15 #[.slice (some ⟨b, off, none⟩) n cap, .int .i64 by'] w (Gives w s (padded zs s)) := by
  go_enter Try.func15, Try.ntmps15
  go_wp2_with (first | (go_at_call 39; refine (scBytes_true _ _ h).mono ?_; rintro e w' ⟨rfl, rfl⟩) | (go_at_call 39; refine (scBytes_true _ _ hs).mono ?_; rintro e w' ⟨rfl, rfl⟩) | (go_at_call 34; refine (l1In_true _ _ _ _ h2 h3).mono ?_; rintro e w' ⟨rfl, rfl⟩) | (go_at_call 42; refine (scAlign_any _ _ _ (by omega) (by omega) h2 h3).mono ?_; rw [HA.out]; rintro e w' ⟨rfl, rfl⟩) | (go_at_call 43; refine (scPad_some _ _ _ _ _ _ _ _ HL HR hb hs hns (by omega) h2 h3 HA).mono ?_; rintro e w1 ⟨g, c, rfl, o1, b1⟩; have O1 := Lib.hid o1; have B1 := Lib.hid b1; clear o1 b1))
  go_ret2
  exact ⟨g, c, rfl, O1.out, B1.out⟩

/-- both functions answer the same -/
theorem padTo_both (n : Nat) (zs : List Int) (by' : Int) (HL : Hid (zs.length = n)) :
    (Hid (∀ a cap w, Calls Try.prog 14 #[.slice a n cap, .int .i64 by'] w (GivesNone w)) ∧ Hid (∀ a cap w, Calls Try.prog 15 #[.slice a n cap, .int .i64 by'] w (GivesNone w))) ∨
    ∃ s : Nat, n ≤ s ∧ s ≤ 4000 ∧ Hid (1 ≤ by' ∧ by' ≤ 16 ∧ ((n : Int) + by' - 1) / by' * by' = (s : Int)) ∧
      Hid (∀ b off cap w, Hid (Row w b off zs) → b < w.heap.size → Calls Try.prog 14 #[.slice (some ⟨b, off, none⟩) n cap, .int .i64 by'] w (Gives w s (padded zs s))) ∧
      Hid (∀ b off cap w, Hid (Row w b off zs) → b < w.heap.size → Calls Try.prog 15 #[.slice (some ⟨b, off, none⟩) n cap, .int .i64 by'] w (Gives w s (padded zs s))) := by
  by_cases hb : 1 ≤ by' ∧ by' ≤ 16
  · obtain ⟨h2, h3⟩ := hb
    by_cases hn : (n : Int) ≤ 1000000
    · obtain ⟨q0, q1, q2, q3, q4, q5⟩ := quo_mul n by' (by omega) hn h2 h3
      obtain ⟨s, hs⟩ := Int.eq_ofNat_of_zero_le q2
      have ha := al_yes (n := n) (b := by') ⟨by omega, hn, h2, h3⟩
      rw [hs] at ha q4
      by_cases h4 : (s : Int) ≤ 4000
      · refine .inr ⟨s, by omega, by omega, ⟨h2, h3, hs⟩, fun b off cap w HR _ => implPad_some b off n cap s by' zs w HL HR ha h4 (by omega), fun b off cap w HR hb => specPad_some b off n cap s by' zs w HL HR hb h4 (by omega) (by omega) h2 h3 hs⟩
      · refine .inl ⟨fun a cap w => implPad_big a n cap by' s w ha (by omega), fun a cap w => ?_⟩
        by_cases h5 : (n : Int) ≤ 4000
        · exact specPad_big a n cap by' s w h5 h2 h3 hs (by omega)
        · exact specPad_long a n cap by' w (by omega)
    · exact .inl ⟨fun a cap w => implPad_not a n cap by' w (al_not (by omega)), fun a cap w => specPad_long a n cap by' w (by omega)⟩
  · refine .inl ⟨fun a cap w => implPad_not a n cap by' w (al_not (by omega)), fun a cap w => ?_⟩
    by_cases h5 : (n : Int) ≤ 4000
    · exact specPad_by a n cap by' w h5 (by omega)
    · exact specPad_long a n cap by' w (by omega)
end Go.Proofs.Ytelkpdkpnaeggaa
