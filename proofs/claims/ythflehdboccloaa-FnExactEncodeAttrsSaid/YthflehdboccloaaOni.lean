/- Rows of integers of the call's own: marked, held, compared; only one block written. -/
import Derived.Test.YthflehdboccloaaOpn
import Derived.Test.YthflehdboccloaaBxw
import Derived.Test.YthflehdboccloaaIni
import Derived.LoopTactic
import Derived.WalkMore
import Derived.WalkSmall
import Derived.Deep.RegionWith
import Derived.Deep.QuietTactic
import Derived.BigQuiet
namespace Go.Proofs.Ythflehdboccloaa
open Go.RowKit
set_option linter.unusedVariables false

def nv (ks : List Nat) : List Value := ks.map (fun k : Nat => Value.int .i64 (k : Int))
theorem nv_length (ks : List Nat) : (nv ks).length = ks.length := by simp [nv]
theorem nv_snoc (ks : List Nat) (k : Nat) : nv (ks ++ [k]) = nv ks ++ [.int .i64 (k : Int)] := by simp [nv]
theorem nv_get (ks : List Nat) (j : Nat) (h : j < ks.length) : (nv ks)[j]? = some (.int .i64 ((ks.getD j 0 : Nat) : Int)) := by simp [nv, h]
theorem AtC.nat {w : World} {g : Nat} {ks : List Nat} (h : AtC w g (nv ks)) (k : Nat) (hk : k < ks.length) (j : Nat) (hj : ks.getD k 0 = j) : w.cell? ⟨g, k, none⟩ = some (.int .i64 (j : Int)) := by
  subst hj
  exact h.at k (nv_get ks k hk)
def EqNRel (w : World) (n : Nat) (i : Value) (wr : World) : Prop := ∃ k : Nat, k ≤ n ∧ i = .int .i64 k ∧ Below w.heap.size w wr
/-- only one block was written -/
def Onl (w w' : World) (p : Option Nat) : Prop := ∀ g, p ≠ some g → w'.heap[g]? = w.heap[g]?
theorem onl_set {w w1 : World} {g : Nat} (h : Onl w w1 (some g)) (j : Nat) (v : Value) : Onl w (w1.setCell ⟨g, j, none⟩ v) (some g) := fun g' hg => by
  rw [Go.Deep.blk_setCell_other _ _ _ _ (fun q => hg (by rw [q]))]; exact h g' hg
def SaysMk (w : World) (B : Nat) (v : Value) (r : Int) (e : Ending) (w' : World) : Prop := e = .returned (.int .i64 r) ∧ Below B w w' ∧ Onl w w' v.ownBlock
theorem own_onl {w w' : World} {B n z : Nat} {T : TypeId} {v : Value} {xs : List Value} {p : Option Nat} (h : w.ownsRow B T z v n xs) (ho : Onl w w' p) (hp : ∀ g, v.ownBlock = some g → p ≠ some g) : w'.ownsRow B T z v n xs := by
  obtain ⟨h1, h2⟩ := h
  refine ⟨h1, ?_⟩
  rcases h2 with h2 | ⟨g', cap', cur, a, b, c, d⟩
  · exact .inl h2
  · exact .inr ⟨g', cap', cur, a, b, by rw [ho g' (hp g' (by rw [a]; rfl))]; exact c, d⟩
theorem own_heap {w w' : World} {B n z : Nat} {T : TypeId} {v : Value} {xs : List Value} (h : w.ownsRow B T z v n xs) (ho : ∀ g, v.ownBlock = some g → w'.heap[g]? = w.heap[g]?) : w'.ownsRow B T z v n xs := by
  obtain ⟨h1, h2⟩ := h
  refine ⟨h1, ?_⟩
  rcases h2 with h2 | ⟨g', cap', cur, a, b, c, d⟩
  · exact .inl h2
  · exact .inr ⟨g', cap', cur, a, b, by rw [ho g' (by rw [a]; rfl)]; exact c, d⟩
theorem cell_heap {w w' : World} {g : Nat} (h : w'.heap[g]? = w.heap[g]?) (o : Nat) : w'.cell? ⟨g, o, none⟩ = w.cell? ⟨g, o, none⟩ := by simp only [World.cell?, h]
theorem heap_alloc_lt (w : World) (o : Obj) (g : Nat) (h : g < w.heap.size) : (w.alloc o).heap[g]? = w.heap[g]? := (one_new2 w o).block g h
def mkI (n : Nat) : List Value := (List.range n).map (fun j : Nat => Value.int .i64 (1 + (j : Int)))
theorem mkI_length (n : Nat) : (mkI n).length = n := by simp [mkI]
theorem mkI_get (n j : Nat) (h : j < n) : (mkI n)[j]? = some (Value.int .i64 (1 + (j : Int))) := by simp [mkI, h]
theorem markIntS_none (ad : Option Addr) (c : Nat) (w : World) :
    Calls Try.prog 33 #[.slice ad 0 c, .int .i64 1] w (fun e w' => e = .returned (.int .i64 1) ∧ w = w') := by
  go_enter Try.func33, Try.ntmps33
  go_wp2
  refine wp_loop_rounds 1 ?_
  rw [rounds_succ]
  go_wp2
  go_ret
  exact ⟨rfl, rfl⟩
def MiRel (w : World) (B g n c : Nat) (a i : Value) (wr : World) : Prop :=
  ∃ (j : Nat) (xs : List Value), j ≤ n ∧ i = .int .i64 j ∧ a = .int .i64 (1 + (j : Int)) ∧ wr.ownsRow B 3 1 (.slice (some ⟨g, 0, none⟩) n c) n xs ∧ Below B w wr ∧ GotX (mkI n) xs j
def SaysMi (w : World) (B : Nat) (v : Value) (n : Nat) (e : Ending) (w' : World) : Prop := e = .returned (.int .i64 (1 + (n : Int))) ∧ w'.ownsRow B 3 1 v n (mkI n) ∧ Below B w w'
set_option maxHeartbeats 3200000 in
theorem markIntS_any (v : Value) (B n : Nat) (xs : List Value) (w : World) (HO : Hid (w.ownsRow B 3 1 v n xs)) (hm : n ≤ 1048576) :
    Calls Try.prog 33 #[v, .int .i64 1] w (SaysMi w B v n) := by
  have h0 := HO.out
  rcases h0.2 with ⟨rfl, rfl⟩ | ⟨g, c, cur, rfl, hgB, _⟩
  · refine (markIntS_none none 0 w).mono ?_
    rintro e w' ⟨rfl, rfl⟩
    exact ⟨by simp, ⟨by simp [mkI], .inl ⟨rfl, rfl⟩⟩, Below.refl _ _⟩
  · clear h0
    go_enter Try.func33, Try.ntmps33
    go_wp2_with fail
    go_loopw [1, 5] (fun a i wr => MiRel w B g n c a i wr) (fun _ i _ => n - (intOf i).toNat)
    case atStart => exact ⟨0, xs, Nat.zero_le _, rfl, rfl, HO.out, Below.refl _ _, fun j hj => absurd hj (Nat.not_lt_zero j)⟩
    case round =>
      obtain ⟨i, xs', hi, rfl, rfl, ho, hb, hgot⟩ := hrel
      have HO1 := Lib.hid ho
      have HB1 := Lib.hid hb
      have HG1 := Lib.hid hgot
      have hxl : xs'.length = n := by have := ho.1; omega
      clear ho hb hgot
      by_cases hlt : i < n
      · obtain ⟨u0, c0⟩ := own_cell HO1.out i (by omega)
        have f0 := World.ownsRow.frozenAt HO1.out i
        go_wp2_with fail
        go_roundw
        case rel => exact ⟨i + 1, _, by omega, by go_num, by go_num, own_store HO1.out _ _, HB1.out.setCell hgB _, fun j hj => by
          rcases Nat.lt_succ_iff_lt_or_eq.1 hj with q | q
          · rw [List.getElem?_set_ne (by omega)]; exact HG1.out j q
          · subst q; rw [List.getElem?_set_self (by omega), mkI_get n j hlt]⟩
        case measure => simp [intOf]; omega
      · have hin : i = n := by omega
        subst hin
        have hx : xs' = mkI i := got_all (ys := mkI i) (xs := xs') (by rw [mkI_length]; exact HG1.out) (by rw [mkI_length]; exact hxl)
        go_wp2_with fail
        go_ret
        exact ⟨rfl, by rw [← hx]; exact HO1.out, HB1.out⟩
theorem heldIntS_none (ad : Option Addr) (c : Nat) (w : World) :
    Calls Try.prog 34 #[.slice ad 0 c, .int .i64 1] w (fun e w' => e = .returned (.int .i64 1) ∧ w = w') := by
  go_enter Try.func34, Try.ntmps34
  go_wp2
  refine wp_loop_rounds 1 ?_
  rw [rounds_succ]
  go_wp2
  go_ret
  exact ⟨rfl, rfl⟩
def HiRel (n : Nat) (a i : Value) : Prop := ∃ j : Nat, j ≤ n ∧ i = .int .i64 j ∧ a = .int .i64 (1 + (j : Int))
set_option maxHeartbeats 3200000 in
theorem heldIntS_any (v : Value) (B n : Nat) (w : World) (HO : Hid (w.ownsRow B 3 1 v n (mkI n))) (hm : n ≤ 1048576) :
    Calls Try.prog 34 #[v, .int .i64 1] w (fun e w' => e = .returned (.int .i64 (1 + (n : Int))) ∧ w = w') := by
  have h0 := HO.out
  rcases h0.2 with ⟨rfl, rfl⟩ | ⟨g, c, cur, rfl, hgB, _⟩
  · refine (heldIntS_none none 0 w).mono ?_
    rintro e w' ⟨rfl, rfl⟩
    exact ⟨by simp, rfl⟩
  · clear h0
    go_enter Try.func34, Try.ntmps34
    go_wp2_with fail
    go_loop [1, 5] (fun a i => HiRel n a i) (fun _ i => n - (intOf i).toNat)
    case atStart => exact ⟨0, Nat.zero_le _, rfl, rfl⟩
    case round =>
      obtain ⟨i, hi, rfl, rfl⟩ := hrel
      by_cases hlt : i < n
      · have c0 := World.ownsRow.cellAt HO.out i (by omega)
        rw [mkI_get n i hlt] at c0
        have d0 : ((1 + (i : Int)) == (1 + (i : Int))) = true := beq_self_eq_true _
        go_wp2_with fail
        go_round
        case rel => exact ⟨i + 1, by omega, by go_num, by go_num⟩
        case measure => simp [intOf]; omega
      · have hin : i = n := by omega
        subst hin
        go_wp2_with fail
        go_ret
        exact ⟨rfl, rfl⟩
theorem eqIntS_none (a b : Option Addr) (ca cb : Nat) (w : World) :
    Calls Try.prog 32 #[.slice a 0 ca, .slice b 0 cb] w (SaysB w true) := by
  go_enter Try.func32, Try.ntmps32
  go_wp2
  refine wp_loop_rounds 1 ?_
  rw [rounds_succ]
  go_wp2
  go_ret
  exact ⟨rfl, Below.refl _ _⟩
set_option maxHeartbeats 3200000 in
theorem eqIntS_any (v v' : Value) (B B' : Nat) (K : List Nat) (w : World) (HA : Hid (w.ownsRow B 3 1 v K.length (nv K))) (HB : Hid (w.ownsRow B' 3 1 v' K.length (nv K))) (hm : K.length ≤ 1048576) :
    Calls Try.prog 32 #[v, v'] w (SaysB w true) := by
  obtain ⟨a, ca, rfl, ia⟩ := own_in HA.out
  obtain ⟨b, cb, rfl, ib⟩ := own_in HB.out
  rcases Nat.eq_zero_or_pos K.length with h0 | h0
  · rw [h0]; exact eqIntS_none a b ca cb w
  · obtain ⟨ga, rfl, ha, hga⟩ := ia h0
    obtain ⟨gb, rfl, hb, hgb⟩ := ib h0
    have HAT := Lib.hid ha
    have HBT := Lib.hid hb
    obtain ⟨n, hn⟩ : ∃ n, K.length = n := ⟨_, rfl⟩
    have HN := Lib.hid hn
    rw [hn] at hm ⊢
    clear ha hb ia ib HA HB hn h0
    go_enter Try.func32, Try.ntmps32
    go_wp2_with fail
    go_loopw [5] (fun i wr => EqNRel w n i wr) (fun i _ => n - (intOf i).toNat)
    case atStart => exact ⟨0, Nat.zero_le _, rfl, Below.refl _ _⟩
    case round =>
      obtain ⟨k, hk, rfl, hb⟩ := hrel
      have HR := Lib.hid hb
      by_cases hlt : k < n
      · obtain ⟨j, hj⟩ : ∃ j, K.getD k 0 = j := ⟨_, rfl⟩
        have a0 := (HAT.out.below hb hga).nat k (by rw [HN.out]; exact hlt) j hj
        have b0 := (HBT.out.below hb hgb).nat k (by rw [HN.out]; exact hlt) j hj
        clear hb hj
        go_wp2_with fail
        go_quiet (fail)
        go_wp2_with fail
        go_roundw
        case rel => exact ⟨k + 1, by omega, by go_num, below_drewN HR.out _⟩
        case measure => simp [intOf]; omega
      · go_wp2_with fail
        go_ret
        exact ⟨rfl, HR.out⟩
end Go.Proofs.Ythflehdboccloaa
