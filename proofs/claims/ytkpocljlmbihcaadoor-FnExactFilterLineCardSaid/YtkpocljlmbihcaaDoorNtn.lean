/- Decimal numerals: contracts of l1Num of the model. -/
import Derived.Test.YtkpocljlmbihcaaDoorSbm
import Derived.Lib.ItoaNum
import Derived.Deep.RegionWith
namespace Go.Proofs.YtkpocljlmbihcaaDoor
set_option maxRecDepth 100000
open Go.RowKit

/-- the decimal numeral -/
def numS (n : Nat) : ByteArray := ⟨(Lib.decDigits n).toArray⟩
theorem numS_small (n : Nat) (h : n < 10) : numS n = strOfNums [48 + (n : Int)] := by
  have e : (48 + (n : Int)).toNat = 48 + n := by omega
  unfold numS strOfNums
  rw [Lib.decDigits, dif_pos h]
  simp [e]
theorem numS_big (n : Nat) (h : 10 ≤ n) : numS n = numS (n / 10) ++ strOfNums [48 + (n : Int) % 10] := by
  have e : (48 + (n : Int) % 10).toNat = 48 + n % 10 := by omega
  apply ByteArray.ext
  unfold numS strOfNums
  conv => lhs; rw [Lib.decDigits, dif_neg (by omega)]
  simp [e, ByteArray.data_append]
theorem numS_size (n : Nat) : (numS n).size ≤ n + 1 := by
  induction n using Nat.strongRecOn with
  | _ n ih =>
    by_cases h : n < 10
    · rw [numS_small n h, strOfNums_size]; simp
    · rw [numS_big n (by omega), ByteArray.size_append, strOfNums_size]
      have := ih (n / 10) (by omega)
      simp
      omega
theorem below_pre0 {w w1 : World} (b : Below w.drew.heap.size w.drew w1) : Below w.heap.size w w1 := (show Below w.heap.size w w.drew from below_drewN (Below.refl _ _) 1).trans b
theorem below_pre1 {w w1 : World} {o : Obj} (b : Below (w.alloc o).drew.heap.size (w.alloc o).drew w1) : Below w.heap.size w w1 := by
  have a : Below w.heap.size w (w.alloc o).drew := below_drewN ((Below.refl _ _).alloc (Nat.le_refl _) _) 1
  exact a.trans (b.mono a.size)
theorem conv_after (w w1 : World) (z : Int) (b : Below (w.alloc (.cells #[.int .u8 z] 5)).drew.heap.size (w.alloc (.cells #[.int .u8 z] 5)).drew w1) :
    (convert 84 9 (.slice (some ⟨w.heap.size, 0, none⟩) 1 1)).run Tryd.prog w1 = .ok (.string (strOfNums [z])) w1 :=
  run_convert_bytes_arg w1 84 5 Tryd.underlying84 Tryd.underlying5 w.heap.size 0 1 1 [z] rfl
    (fun i hi => by
      obtain rfl : i = 0 := by simp at hi; exact hi
      have h0 : (w.alloc (.cells #[.int .u8 z] 5)).drew.cell? ⟨w.heap.size, 0, none⟩ = some (.int .u8 z) := by
        show (w.alloc (.cells #[.int .u8 z] 5)).cell? ⟨w.heap.size, 0, none⟩ = some (.int .u8 z)
        rw [World.cell?_alloc_at _ _ _ _ rfl]; rfl
      exact (b.cell (p := ⟨w.heap.size, 0, none⟩) (World.block_lt_of_cell? _ _ h0)).trans h0) 9 Tryd.underlying9
theorem conv_drew (w : World) (z : Int) : (convert 84 9 (.slice (some ⟨w.heap.size, 0, none⟩) 1 1)).run Tryd.prog (w.alloc (.cells #[.int .u8 z] 5)).drew = .ok (.string (strOfNums [z])) (w.alloc (.cells #[.int .u8 z] 5)).drew :=
  conv_after w _ z (Below.refl _ _)
set_option maxHeartbeats 800000 in
theorem l1Num_any (n : Nat) : (n : Int) ≤ 1000000000 → ∀ w, Calls Tryd.prog 37 #[.int .i64 n] w fun e w' => e = .returned (.string (numS n)) ∧ Below w.heap.size w w' := by
  induction n using Nat.strongRecOn with
  | _ n ih =>
    intro hn w
    have cv := conv_one
    have cvd := conv_drew
    rcases Nat.lt_or_ge n 10 with h | h
    · rw [numS_small n h]
      clear ih
      go_enter Tryd.func37, Tryd.ntmps37
      go_wp2
      go_ret
      exact ⟨rfl, (Below.refl _ _).alloc (Nat.le_refl _) _⟩
    · have IH : Hid (∀ w, Calls Tryd.prog 37 #[.int .i64 ((n : Int) / 10)] w fun e w' => e = .returned (.string (numS (n / 10))) ∧ Below w.heap.size w w') := Lib.hid (fun w => ih (n / 10) (by omega) (by omega) w)
      rw [numS_big n h]
      have hz : (numS (n / 10)).size ≤ 1000000001 := by have := numS_size (n / 10); omega
      have hz1 : (strOfNums [48 + (n : Int) % 10]).size ≤ 1 := by rw [strOfNums_size]; simp
      obtain ⟨u, hu⟩ : ∃ u, numS (n / 10) = u := ⟨_, rfl⟩
      rw [hu] at IH hz ⊢
      clear ih hu
      have hno : ¬ (9223372036854775807 < u.size + (strOfNums [48 + (n : Int) % 10]).size) := by omega
      have q11 : (n : Int).tmod 10 = (n : Int) % 10 := Int.tmod_eq_emod_of_nonneg (by omega)
      have q12 : IntKind.i64.wrap (48 + (n : Int) % 10) = 48 + (n : Int) % 10 := IntWalk.i64_in _ (by omega)
      have q13 : IntKind.u8.wrap (48 + (n : Int) % 10) = 48 + (n : Int) % 10 := IntWalk.u8_in _ (by omega)
      have q10 : IntKind.i64.wrap ((n : Int) / 10) = (n : Int) / 10 := IntWalk.i64_in _ (by omega)
      go_enter Tryd.func37, Tryd.ntmps37
      go_wp2_with fail
      go_region_with (go_at_call 37; refine (IH.out _).mono ?_; rintro e w1 ⟨rfl, b1⟩; (first | (have B1 : Hid (Below w.heap.size w w1) := Lib.hid (by with_reducible exact below_pre0 b1)) | (have B1 : Hid (Below w.heap.size w w1) := Lib.hid (by with_reducible exact below_pre1 b1))); (first | (have b2 : Below (w.alloc (.cells #[.int .u8 (48 + (n : Int) % 10)] 5)).drew.heap.size (w.alloc (.cells #[.int .u8 (48 + (n : Int) % 10)] 5)).drew w1 := (by with_reducible exact b1); have cv1 : (convert 84 9 (.slice (some ⟨w.heap.size, 0, none⟩) 1 1)).run Tryd.prog w1 = .ok (.string (strOfNums [48 + (n : Int) % 10])) w1 := conv_after w w1 _ b2; clear b2) | skip); clear b1)
      all_goals
        go_wp2
        go_ret
        first
          | exact ⟨rfl, B1.out⟩
          | exact ⟨rfl, B1.out.alloc B1.out.size _⟩
end Go.Proofs.YtkpocljlmbihcaaDoor
