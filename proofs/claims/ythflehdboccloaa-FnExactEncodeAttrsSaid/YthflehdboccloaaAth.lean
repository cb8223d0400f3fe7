/- Bytes put together: slices.Grow, slices.Concat, pairs: contracts of the program. -/
import Derived.Test.YthflehdboccloaaAtg
import Derived.Test.YthflehdboccloaaAtd
import Derived.Test.YthflehdboccloaaPto
import Derived.Lib.AppendZeros
import Derived.Laws.IdiomStrings
namespace Go.Proofs.Ythflehdboccloaa
open Go.RowKit
set_option linter.unusedVariables false
set_option maxRecDepth 100000

/-- a row of bytes of the call's own -/
def OwnZ (w : World) (B : Nat) (v : Value) (X : List Int) : Prop := w.ownsRow B 5 1 v X.length (bv X)
def SaysZB (w : World) (X : List Int) (e : Ending) (w' : World) : Prop := ∃ v, e = .returned v ∧ OwnZ w' w.heap.size v X ∧ Below w.heap.size w w'
theorem bv_append (a b : List Int) : bv (a ++ b) = bv a ++ bv b := by simp [bv]
theorem wpList_append_nilz {P : Program} (w : World) {ops : Array Oper} {rest : List Oper} {o : Oper} {a : Act} {Q : Exit → Act → World → Prop} (hgd : o.guard = none) (s x : Operand) (t tn : TypeId)
    (ho : o.op = .call { callee := .builtin .append, args := #[s, x], argTypes := #[t, tn] })
    (e : TypeId) (i : TypeInfo) (z : Value) (k kn : IntKind) (ht : P.underlying t = some (.slice e)) (htn : P.underlying tn = some (.int kn)) (hi : P.info? e = some i) (hz : i.zero = some z)
    (n : Nat) (h0 : 0 < n) (hsz : 0 < i.size) (h63 : (n : Int) ≤ 9223372036854775807) (h48 : n * i.bytes ≤ 281474976710656)
    (hs : a.eval s = .slice none 0 0) (hx : a.eval x = .int k n)
    (h : wpList P ops Q rest (a.put o.dst (.slice (some ⟨w.heap.size, 0, none⟩) n (grownCap w n 0 e))) (w.drew.alloc (.cells (Builtin.zeroCells z.cells n ++ Builtin.zeroCells z.cells (grownCap w n 0 e - n)) e))) : wpList P ops Q (o :: rest) a w := by
  have hr := Lib.run_append_nil_zeros (P := P) w t tn o.type e i z k kn ht htn hi hz n h0 hsz h63 h48
  refine wpList_plain hgd fun K hK => ?_
  unfold Oper.wp execOp
  simp only [ho, resolve, invoke, builtin, Sem.run_bind, Sem.run_pure, Result.andThen_ok, List.map_toArray, List.map_cons, List.map_nil, hs, hx, hr]
  exact hK _ _ h
theorem grow_own (w : World) (n : Nat) (hn : n ≤ maxLen) : (w.drew.alloc (.cells (Builtin.zeroCells (Value.int .u8 0).cells n ++ Builtin.zeroCells (Value.int .u8 0).cells (grownCap w n 0 5 - n)) 5)).ownsRow w.heap.size 5 1 (.slice (some ⟨w.heap.size, 0, none⟩) 0 (grownCap w n 0 5)) 0 [] := by
  have hge := grownCap_ge w n 0 5
  refine ⟨rfl, .inr ⟨w.heap.size, _, _, rfl, Nat.le_refl _, heap_alloc_new w.drew _, Nat.zero_le _, grownCap_le_maxLen w n 0 5 hn, ?_, by simp⟩⟩
  rw [Array.size_append, size_zeroCells, size_zeroCells]
  show n * 1 + (grownCap w n 0 5 - n) * 1 = grownCap w n 0 5 * 1
  omega
set_option maxHeartbeats 3200000 in
theorem grow_any (n : Nat) (w : World) (h0 : 0 < n) (hn : n ≤ 100000) :
    Calls Try.prog 90 #[.slice none 0 0, .int .i64 (n : Int)] w (SaysZB w []) := by
  obtain ⟨i0, hi, hz0, hz1, hz2⟩ := info_parts infoU8
  have HO := Lib.hid (grow_own w n (by unfold maxLen; omega))
  have hge := grownCap_ge w n 0 5
  have hb : Below w.heap.size w (w.drew.alloc (.cells (Builtin.zeroCells (Value.int .u8 0).cells n ++ Builtin.zeroCells (Value.int .u8 0).cells (grownCap w n 0 5 - n)) 5)) := (show Below w.heap.size w w.drew from below_drewN (Below.refl _ _) 1).alloc (Nat.le_refl _) _
  have HB := Lib.hid hb
  clear hb
  generalize hw1 : w.drew.alloc (.cells (Builtin.zeroCells (Value.int .u8 0).cells n ++ Builtin.zeroCells (Value.int .u8 0).cells (grownCap w n 0 5 - n)) 5) = w1 at HO HB
  have HW1 := Lib.hid hw1
  generalize hc : grownCap w n 0 5 = c at HO hge
  have HC := Lib.hid hc
  clear hw1 hc
  go_enter Try.func90, Try.ntmps90
  go_wp2_with (at_builtin; refine wpList_append_nilz _ rfl _ _ 62 3 rfl 5 i0 (.int .u8 0) .i64 .i64 Try.underlying62 Try.underlying3 hi hz0 n h0 (by rw [hz1]; omega) (by omega) (by rw [hz2]; omega) rfl rfl ?_; rw [HW1.out, HC.out])
  go_ret
  exact ⟨_, rfl, HO.out, HB.out⟩
def Slc (w : World) (g j : Nat) (b n c : Nat) : Prop := w.cell? ⟨g, j, none⟩ = some (.slice (some ⟨b, 0, none⟩) n c)
theorem off_news1 {w w1 : World} {g : Nat} {xs : List Value} (h : OffC w g 0 xs) (b : Below w.heap.size w w1) : ∀ j u, xs[j]? = some u → w1.cell? ((⟨g, 0, none⟩ : Addr).add j) = some u := off_news h b
theorem bv_one (X : List Int) : ∀ u ∈ bv X, u.oneCell' = true := u8_one X
theorem snocZ {w wx w1 : World} {B : Nat} {v v' : Value} {X Y : List Int} {m : Nat} (hm : Y.length = m) (hb : Below B w wx) (h' : w1.ownsRow B 5 1 v' (X.length + m) (bv X ++ bv Y)) (hB : B ≤ wx.heap.size) (hg : wx.grownBy w1 v.ownBlock) (hl : ∀ g, v.ownBlock = some g → B ≤ g) :
    OwnZ w1 B v' (X ++ Y) ∧ Below B w w1 := by
  refine ⟨?_, hb.grown hg hB hl⟩
  unfold OwnZ
  rw [List.length_append, hm, bv_append]
  exact h'
set_option maxHeartbeats 12800000 in
theorem concat3_any (gs b0 b1 b2 n0 n1 n2 c0 c1 c2 cs : Nat) (A B C : List Int) (w : World) (H0 : Hid (Slc w gs 0 b0 n0 c0)) (H1 : Hid (Slc w gs 1 b1 n1 c1)) (H2 : Hid (Slc w gs 2 b2 n2 c2))
    (HA : Hid (OffC w b0 0 (bv A))) (HB : Hid (OffC w b1 0 (bv B))) (HC : Hid (OffC w b2 0 (bv C))) (ha : Hid (A.length = n0)) (hb : Hid (B.length = n1)) (hc : Hid (C.length = n2)) (h0 : 0 < n0) (h1 : n0 ≤ 10000) (h2 : n1 ≤ 10000) (h3 : n2 ≤ 10000) :
    Calls Try.prog 78 #[.slice (some ⟨gs, 0, none⟩) 3 cs] w (SaysZB w (A ++ B ++ C)) := by
  obtain ⟨i0, hi, hz0, hz1, hz2⟩ := info_parts infoU8
  have hg : gs < w.heap.size := World.block_lt_of_cell? w _ H0.out
  have HS := Lib.hid (fun wz (b : BX w wz) => (⟨(b.cell (p := ⟨gs, 0, none⟩) hg).trans H0.out, (b.cell (p := ⟨gs, 1, none⟩) hg).trans H1.out, (b.cell (p := ⟨gs, 2, none⟩) hg).trans H2.out⟩ : wz.cell? ⟨gs, 0, none⟩ = some (.slice (some ⟨b0, 0, none⟩) n0 c0) ∧ wz.cell? ⟨gs, 1, none⟩ = some (.slice (some ⟨b1, 0, none⟩) n1 c1) ∧ wz.cell? ⟨gs, 2, none⟩ = some (.slice (some ⟨b2, 0, none⟩) n2 c2)))
  have HG := Lib.hid (fun wz => grow_any (n0 + n1 + n2) wz (by omega) (by omega))
  rw [show ((n0 + n1 + n2 : Nat) : Int) = (n0 : Int) + (n1 : Int) + (n2 : Int) by omega] at HG
  have z0 := not_lt (show (0 : Int) ≤ (n0 : Int) by omega)
  have z1 := not_lt (show (0 : Int) ≤ (n0 : Int) + (n1 : Int) by omega)
  have z2 := not_lt (show (0 : Int) ≤ (n0 : Int) + (n1 : Int) + (n2 : Int) by omega)
  obtain ⟨k0, k1, k2⟩ := HS.out w (BX.refl w)
  go_enter Try.func78, Try.ntmps78
  go_wp2_with fail
  refine wp_loop_rounds 4 ?_
  rw [rounds_succ]
  go_wp2_with fail
  rw [rounds_succ]
  go_wp2_with fail
  rw [rounds_succ]
  go_wp2_with fail
  rw [rounds_succ]
  go_wp2_with (go_at_call 90; refine (HG.out _).mono ?_; rintro _ w1 ⟨v1, rfl, o, b⟩; have X1 : Hid (BX w w1) := Lib.hid b; have O1 := Lib.hid o; clear b o; refine Hid.out ?_)
  refine Lib.hid ?_
  go_wp2_with fail
  refine wp_loop_rounds 4 ?_
  rw [rounds_succ]
  obtain ⟨k3, k4, k5⟩ := HS.out w1 X1.out
  go_wp2_with (at_builtin; refine wpList_append_own _ rfl _ _ 62 rfl w.heap.size 5 i0 (.int .u8 0) 1 1 Try.underlying62 hi hz0 hz1 hz2 rfl (by decide) _ _ _ rfl O1.out ⟨b0, 0, none⟩ n0 c0 (bv A) rfl (by rw [bv_length, ha.out, Nat.mul_one]) (off_news1 HA.out X1.out) (bv_one _) (by unfold maxLen; simp; omega) (by simp; omega) (BX.size X1.out) ?_; intro v2 w2 hown1 hgrow1 _)
  have F1 := Lib.hid (snocZ (X := []) (Y := A) ha.out X1.out hown1 (BX.size X1.out) hgrow1 (fun g h => (World.ownsRow.lt O1.out g h).1))
  clear hown1 hgrow1
  rw [rounds_succ]
  obtain ⟨k6, k7, k8⟩ := HS.out w2 F1.out.2
  have hl1 : ([] ++ A : List Int).length = n0 := by simp [ha.out]
  have Q1 := Lib.hid F1.out.1
  unfold OwnZ at Q1
  rw [hl1] at Q1
  go_wp2_with (at_builtin; refine wpList_append_own _ rfl _ _ 62 rfl w.heap.size 5 i0 (.int .u8 0) 1 1 Try.underlying62 hi hz0 hz1 hz2 rfl (by decide) _ _ _ rfl Q1.out ⟨b1, 0, none⟩ n1 c1 (bv B) rfl (by rw [bv_length, hb.out, Nat.mul_one]) (off_news1 HB.out F1.out.2) (bv_one _) (by unfold maxLen; omega) (by omega) (BX.size F1.out.2) ?_; intro v3 w3 hown1 hgrow1 _)
  have F2 := Lib.hid (snocZ (X := [] ++ A) (Y := B) hb.out F1.out.2 (by rw [hl1]; exact hown1) (BX.size F1.out.2) hgrow1 (fun g h => (World.ownsRow.lt Q1.out g h).1))
  clear hown1 hgrow1
  rw [rounds_succ]
  obtain ⟨k9, k10, k11⟩ := HS.out w3 F2.out.2
  have hl2 : ([] ++ A ++ B : List Int).length = n0 + n1 := by simp [ha.out, hb.out]
  have Q2 := Lib.hid F2.out.1
  unfold OwnZ at Q2
  rw [hl2] at Q2
  go_wp2_with (at_builtin; refine wpList_append_own _ rfl _ _ 62 rfl w.heap.size 5 i0 (.int .u8 0) 1 1 Try.underlying62 hi hz0 hz1 hz2 rfl (by decide) _ _ _ rfl Q2.out ⟨b2, 0, none⟩ n2 c2 (bv C) rfl (by rw [bv_length, hc.out, Nat.mul_one]) (off_news1 HC.out F2.out.2) (bv_one _) (by unfold maxLen; omega) (by omega) (BX.size F2.out.2) ?_; intro v4 w4 hown1 hgrow1 _)
  have F3 := Lib.hid (snocZ (X := [] ++ A ++ B) (Y := C) hc.out F2.out.2 (by rw [hl2]; exact hown1) (BX.size F2.out.2) hgrow1 (fun g h => (World.ownsRow.lt Q2.out g h).1))
  clear hown1 hgrow1
  rw [rounds_succ]
  go_wp2_with fail
  go_ret
  exact ⟨_, rfl, F3.out.1, F3.out.2⟩
theorem wl_pr (n : Int) (h0 : 0 ≤ n) (h1 : n < 65536) : wl n 2 = prL n := by
  unfold wl prL
  simp [List.range_succ]
  omega
theorem pairOf_any (n : Int) (w : World) (h0 : 0 ≤ n) (h1 : n < 65536) :
    Calls Try.prog 79 #[.int .i64 n] w fun e w' => ∃ g cap, e = .returned (.slice (some ⟨g, 0, none⟩) 2 cap) ∧ OwnB w' w.heap.size g 2 cap (prL n) ∧ Below w.heap.size w w' := by
  have HW := Lib.hid (fun w => implWrite_2 n w h0 h1)
  rw [wl_pr n h0 h1] at HW
  go_enter Try.func79, Try.ntmps79
  go_wp2_with (go_at_call 91; refine (HW.out _).mono ?_; rintro e w1 ⟨g, cap, rfl, o, b⟩; have O1 := Lib.hid o; have B1 := Lib.hid b; clear o b)
  go_ret
  exact ⟨g, cap, rfl, O1.out, B1.out⟩
end Go.Proofs.Ythflehdboccloaa
