/- ParseBytes: contracts of program and model. -/
import Derived.Test.YtniggnjnpapkeabDoorHxaT
namespace Go.Proofs.YtniggnjnpapkeabDoor
set_option maxRecDepth 100000
open Go.RowKit

/-- the bytes of the first k pairs of digits -/
def pb (s : ByteArray) (k : Nat) : List Int := (List.range k).map fun i : Nat => dval 16 ((s.data.toList.drop (2 * i)).take 2) % 256
theorem pb_length (s : ByteArray) (k : Nat) : (pb s k).length = k := by simp [pb]
theorem pb_succ (s : ByteArray) (k : Nat) : pb s (k + 1) = pb s k ++ [dval 16 ((s.data.toList.drop (2 * k)).take 2) % 256] := by simp [pb, List.range_succ]
theorem pb_range (s : ByteArray) (k : Nat) : ∀ c ∈ pb s k, 0 ≤ c ∧ c ≤ 255 := by
  intro c hc
  simp only [pb, List.mem_map] at hc
  obtain ⟨i, _, rfl⟩ := hc
  omega
def pbTo (s : ByteArray) (n k : Nat) : List Int := pb s k ++ List.replicate (n - k) 0
theorem pbTo_zero (s : ByteArray) (n : Nat) : pbTo s n 0 = List.replicate n 0 := by simp [pbTo, pb]
theorem pbTo_all (s : ByteArray) (n : Nat) : pbTo s n n = pb s n := by simp [pbTo]
theorem pbTo_set (s : ByteArray) (n k : Nat) (h : k < n) : (pbTo s n k).set k (dval 16 ((s.data.toList.drop (2 * k)).take 2) % 256) = pbTo s n (k + 1) := by
  obtain ⟨m, hm⟩ : ∃ m, n - k = m + 1 := ⟨n - k - 1, by omega⟩
  unfold pbTo
  rw [List.set_append_right _ _ (by rw [pb_length]; exact Nat.le_refl _), pb_length, Nat.sub_self, hm, List.replicate_succ, List.set_cons_zero, show n - (k + 1) = m by omega, pb_succ, List.append_assoc]
  rfl
/-- all bytes are digits -/
def AllHex (s : ByteArray) : Prop := dlen 16 s.data.toList = s.size
theorem allHex_mem (s : ByteArray) (h : AllHex s) : ∀ x ∈ s.data.toList, 0 ≤ dg 16 (x.toNat : Int) := by
  have := digits_of 16 s.data.toList
  unfold AllHex at h
  rw [h, List.take_of_length_le (by simp)] at this
  exact this
def ParRel (w : World) (s : ByteArray) (n : Nat) (i : Value) (wr : World) : Prop :=
  ∃ k : Nat, k ≤ n ∧ i = .int .i64 k ∧ OwnB wr w.heap.size w.heap.size n n (pbTo s n k) ∧ Below w.heap.size w wr

theorem sub_pair (s : ByteArray) (k : Nat) (h : 2 * k + 2 ≤ s.size) : ∃ u : ByteArray, Hid (u.size = 2) ∧ Hid (u.data.toList = (s.data.toList.drop (2 * k)).take 2) ∧
    ∀ w, (Instr.slice 9 (.string s) (some (.int .i64 (2 * (k : Int)))) (some (.int .i64 (2 * (k : Int) + 2))) none).run Tryd.prog w = .ok (.string u) w := by
  obtain ⟨u, a, b, h⟩ := sub_run s (2 * k) 2 h
  have e1 : ((2 * k : Nat) : Int) = 2 * (k : Int) := by omega
  have e2 : ((2 : Nat) : Int) = 2 := rfl
  rw [e1, e2] at h
  exact ⟨u, a, b, h⟩

set_option maxHeartbeats 3200000 in
theorem implParse_some (s : ByteArray) (n : Nat) (w : World) (hD : Hid (Dig w)) (hs : (s.size : Int) ≤ 8000) (hn : s.size = 2 * n) (hall : Hid (AllHex s)) :
    Calls Tryd.prog 5 #[.string s] w (Gives w n (pb s n)) := by
  obtain ⟨i0, hi, hz0, hz1, hz2⟩ := info_parts infoU8
  have HN := Lib.hid hn
  have t0 := not_lt hs
  have t1 : ((s.size : Int) % 2 != 0) = false := by simp; omega
  have hq : (s.size : Int) / 2 = (n : Int) := by omega
  have hn4 : n ≤ 4000 := by omega
  have HE : ∀ w, Hid (Dig w) → Calls Tryd.prog 31 #[.string s, .int .i64 0, .int .i64 1] w (SaysIntD w (s.size : Int)) := fun w hD => by
    have := digitsEnd_hex s 0 w hD (by omega) (Nat.zero_le _)
    rw [List.drop_zero, Nat.zero_add, hall.out] at this
    exact this
  have HE2 := Lib.hid HE
  clear hn HE
  go_enter Tryd.func5, Tryd.ntmps5
  go_wp2_with (first | (go_at_call 31; refine (HE2.out _ hD).mono ?_; rintro e w1 ⟨rfl, q⟩; have Q1 := Lib.hid q; clear q) | (at_make; refine wpList_make_full _ rfl _ _ 22 rfl w1.heap.size 5 i0 (.int .u8 0) 1 Tryd.underlying22 hi hz0 hz1 .i64 .i64 _ _ n rfl rfl (by omega) (by omega) (by rw [hz2]; omega) (by unfold maxLen; omega) (Nat.le_refl _) ?_; intro w0 hown0 hgrow0; have HO := Lib.hid (madeB hown0); have HB := Lib.hid ((Below.refl w1.heap.size w1).grown hgrow0 (Nat.le_refl _) (by intro k h; cases h)); clear hown0 hgrow0))
  have HD1 : Hid (Dig w1) := Lib.hid (Q1.out.dig hD.out)
  go_loopw [28] (fun i wr => ParRel w1 s n i wr) (fun i _ => n - (intOf i).toNat)
  case atStart => exact ⟨0, Nat.zero_le _, rfl, by rw [pbTo_zero]; exact HO.out, HB.out⟩
  case round =>
    obtain ⟨k, hk, rfl, ho, hb⟩ := hrel
    have HO1 := Lib.hid ho
    have HB1 := Lib.hid hb
    clear ho hb
    by_cases hlt : k < n
    · have hst : ∀ q, (wr.drewN q).cell? ⟨w1.heap.size, k, none⟩ = some (.int .u8 ((pbTo s n k).getD k 0)) := fun q => HO1.out.cell k hlt
      have hfz : ∀ q, (wr.drewN q).frozen? ⟨w1.heap.size, k, none⟩ = false := fun q => World.ownsRow.frozenAt HO1.out k
      obtain ⟨u, HUS, HUD, hsl⟩ := sub_pair s k (by have := HN.out; omega)
      have HDG : Hid (∀ x ∈ u.data.toList, 0 ≤ dg 16 (x.toNat : Int)) := Lib.hid (by rw [HUD.out]; exact fun x hx => allHex_mem s hall.out x (List.mem_of_mem_drop (List.mem_of_mem_take hx)))
      have hu10 : u.size ≤ 10 := by have := HUS.out; omega
      have HDr : Hid (Dig wr) := Lib.hid (HD1.out.below HB1.out)
      go_wp2_with (go_at_call 32; refine (digitsValue_hex u _ HDr hu10 HDG).mono ?_; rintro e w2 ⟨rfl, q2, rfl⟩)
      go_roundw
      case rel => exact ⟨k + 1, by omega, by go_num, by rw [← pbTo_set s n k hlt, ← HUD.out]; exact OwnB.store (w := wr.drewN q2) HO1.out k _, (below_drewN HB1.out q2).setCell (Nat.le_refl _) _⟩
      case measure => simp [intOf]; omega
    · go_wp2
      go_ret2
      have e : k = n := by omega
      subst e
      have hsz := (Q1.out.below 0).size
      have hheap : w1.heap.size = w.heap.size := by obtain ⟨q, h⟩ := Q1.out; rw [h]; rfl
      have ho := HO1.out
      have hb := HB1.out
      rw [pbTo_all] at ho
      rw [hheap] at ho hb
      exact ⟨w1.heap.size, k, rfl, by rw [hheap]; exact ho, (Q1.out.below _).trans hb⟩

def GivesNoneB (w : World) (e : Ending) (w' : World) : Prop := e = .returned (.tuple #[.slice none 0 0, .bool false]) ∧ Below w.heap.size w w'
theorem implParse_no (s : ByteArray) (w : World) (hD : Hid (Dig w)) (h : 8000 < (s.size : Int) ∨ ((s.size : Int) ≤ 8000 ∧ (s.size : Int) % 2 ≠ 0) ∨ ((s.size : Int) ≤ 8000 ∧ (s.size : Int) % 2 = 0 ∧ ¬ AllHex s)) :
    Calls Tryd.prog 5 #[.string s] w (GivesNoneB w) := by
  rcases h with h | ⟨h, h1⟩ | ⟨h, h1, h2⟩
  · have t0 := is_lt h
    go_enter Tryd.func5, Tryd.ntmps5
    go_wp2
    go_ret2
    exact ⟨rfl, Below.refl _ _⟩
  · have t0 := not_lt h
    have t1 : ((s.size : Int) % 2 != 0) = true := by simp; omega
    clear h1
    go_enter Tryd.func5, Tryd.ntmps5
    go_wp2
    go_ret2
    exact ⟨rfl, Below.refl _ _⟩
  · have t0 := not_lt h
    have t1 : ((s.size : Int) % 2 != 0) = false := by simp; omega
    clear h1
    obtain ⟨d, HE⟩ : ∃ d, Hid (dlen 16 s.data.toList = d) := ⟨_, rfl⟩
    have hne : d ≠ s.size := by rw [← HE.out]; exact h2
    have t2 : ((d : Int) != (s.size : Int)) = true := by simp; omega
    have HQ : Hid (∀ w, Hid (Dig w) → Calls Tryd.prog 31 #[.string s, .int .i64 0, .int .i64 1] w (SaysIntD w (d : Int))) := fun w hD => by
      have := digitsEnd_hex s 0 w hD (by omega) (Nat.zero_le _)
      rw [List.drop_zero, Nat.zero_add, HE.out] at this
      exact this
    clear h2 hne
    go_enter Tryd.func5, Tryd.ntmps5
    go_wp2_with (go_at_call 31; refine (HQ.out _ hD).mono ?_; rintro e w1 ⟨rfl, q⟩; have Q1 := Lib.hid q; clear q)
    go_ret2
    exact ⟨rfl, Q1.out.below _⟩

theorem scDigit_byte (b : UInt8) (w : World) :
    Calls Tryd.prog 53 #[.int .u8 (b.toNat : Int), .int .i64 16] w fun e w' => e = .returned (.int .i64 (dg 16 (b.toNat : Int))) ∧ w' = w :=
  scDigit_hex _ w (by omega) (by have := b.toNat_lt; omega)
def SpRel (w : World) (s : ByteArray) (n : Nat) (v i : Value) (wr : World) : Prop :=
  ∃ k : Nat, k ≤ n ∧ i = .int .i64 (2 * (k : Int)) ∧ OwnV wr w.heap.size v k (pb s k) ∧ Below w.heap.size w wr ∧ 2 * k ≤ dlen 16 s.data.toList
def SpSays (w : World) (s : ByteArray) (n : Nat) (e : Ending) (w' : World) : Prop :=
  (AllHex s ∧ ∃ v, e = .returned (.tuple #[v, .bool true]) ∧ OwnV w' w.heap.size v n (pb s n) ∧ Below w.heap.size w w') ∨ (¬ AllHex s ∧ GivesNoneB w e w')
theorem dlen_app (b : Int) (l r : List UInt8) (h : ∀ c ∈ l, 0 ≤ dg b (c.toNat : Int)) : dlen b (l ++ r) = l.length + dlen b r := by
  induction l with
  | nil => simp
  | cons c t ih =>
    simp only [List.cons_append, dlen, if_pos (h c (by simp)), ih (fun x hx => h x (by simp [hx])), List.length_cons]
    omega
theorem dlen_at (s : ByteArray) (k : Nat) (h : k ≤ dlen 16 s.data.toList) : dlen 16 s.data.toList = k + dlen 16 (s.data.toList.drop k) := by
  have hl := dlen_le 16 s.data.toList
  have hd : ∀ c ∈ s.data.toList.take k, 0 ≤ dg 16 (c.toNat : Int) := fun c hc => by
    refine digits_of 16 s.data.toList c ?_
    have : s.data.toList.take k = (s.data.toList.take (dlen 16 s.data.toList)).take k := by rw [List.take_take, Nat.min_eq_left h]
    rw [this] at hc
    exact List.mem_of_mem_take hc
  have := dlen_app 16 (s.data.toList.take k) (s.data.toList.drop k) hd
  rw [List.take_append_drop, List.length_take, Nat.min_eq_left (by omega)] at this
  exact this
theorem pair_list (s : ByteArray) (k : Nat) (h : k + 1 < s.size) : (s.data.toList.drop k).take 2 = [s[k], s[k + 1]] := by
  rw [drop_at s k (by omega), drop_at s (k + 1) h]
  rfl
theorem pair_val (s : ByteArray) (k : Nat) (h : k + 1 < s.size) : dval 16 ((s.data.toList.drop k).take 2) = 16 * dg 16 (s[k].toNat : Int) + dg 16 (s[k + 1].toNat : Int) := by
  rw [pair_list s k h]
  simp only [dval, List.foldl_cons, List.foldl_nil]
  omega

set_option maxHeartbeats 3200000 in
theorem scParse_go (s : ByteArray) (n : Nat) (w : World) (hs : (s.size : Int) ≤ 8000) (hn : s.size = 2 * n) :
    Calls Tryd.prog 33 #[.string s] w (SpSays w s n) := by
  obtain ⟨i0, hi, hz0, hz1, hz2⟩ := info_parts infoU8
  have HN := Lib.hid hn
  have t1 : ((s.size : Int) % 2 != 0) = false := by simp; omega
  have hq : (s.size : Int) / 2 = (n : Int) := by omega
  have hn4 : (n : Int) ≤ 4000 := by omega
  clear hn
  go_enter Tryd.func33, Tryd.ntmps33
  go_wp2_with (go_at_call 43; refine (scBytes_true _ _ hn4).mono ?_; rintro e w' ⟨rfl, rfl⟩)
  go_loopw [4, 5] (fun v i wr => SpRel w s n v i wr) (fun _ i _ => 2 * n - (intOf i).toNat)
  case atStart => exact ⟨0, Nat.zero_le _, rfl, World.ownsRow_nil _ _ _ _, Below.refl _ _, Nat.zero_le _⟩
  case round =>
    obtain ⟨k, hk, rfl, ho, hb, hd⟩ := hrel
    have HO1 := Lib.hid ho
    have HB1 := Lib.hid hb
    have HDL := Lib.hid hd
    clear ho hb hd
    by_cases hlt : k < n
    · have l1 : 2 * k < s.size := by have := HN.out; omega
      have l2 : 2 * k + 1 < s.size := by have := HN.out; omega
      have l1' : 2 * (k : Int) < s.size := by omega
      have l2' : 2 * (k : Int) + 1 < s.size := by omega
      have e1 : IntKind.i64.wrap (2 * (k : Int) + 1) = 2 * (k : Int) + 1 := IntWalk.i64_in _ (by omega)
      have n1 : (2 * (k : Int)).toNat = 2 * k := by omega
      have n2 : (2 * (k : Int) + 1).toNat = 2 * k + 1 := by omega
      have p1 : (0 : Int) ≤ 2 * (k : Int) := by omega
      have p2 : (0 : Int) ≤ 2 * (k : Int) + 1 := by omega
      have x1 := dg_lt 16 (s[2 * k].toNat : Int) (by omega)
      have x2 := dg_lt 16 (s[2 * k + 1].toNat : Int) (by omega)
      have hk4 : k ≤ 4000 := by omega
      by_cases da : 0 ≤ dg 16 (s[2 * k].toNat : Int)
      · by_cases db : 0 ≤ dg 16 (s[2 * k + 1].toNat : Int)
        · have DA := Lib.hid da
          have DB := Lib.hid db
          have d1 := not_lt da
          have d2 := not_lt db
          go_wp2_with fail
          go_quiet ((go_at_call 53; exact Calls.quiet_of_same (scDigit_byte _ _)))
          go_wp2_with (at_builtin; refine wpList_append_own _ rfl _ _ 22 rfl w.heap.size 5 i0 (.int .u8 0) 1 1 Tryd.underlying22 hi hz0 hz1 hz2 rfl (by decide) _ _ _ rfl (World.ownsRow.alloc (w := wr.drewN nq) HO1.out _) ⟨wr.heap.size, 0, none⟩ 1 1 [.int .u8 (16 * dg 16 (s[2 * k].toNat : Int) + dg 16 (s[2 * k + 1].toNat : Int))] rfl rfl (one_new (wr.drewN nq) _ _) (by intro u hu; simp at hu; subst hu; rfl) (by unfold maxLen; omega) (by omega) (by have := HB1.out.size; simp; omega) ?_; intro v' w1 hown1 hgrow1 _; have R := Lib.hid (OwnV.snoc (wr := wr.drewN nq) HO1.out HB1.out.size (below_drewN HB1.out nq) hown1 hgrow1); clear hown1 hgrow1)
          go_roundw
          case rel =>
            refine ⟨k + 1, by omega, by go_num, ?_, R.out.2, ?_⟩
            · rw [pb_succ, pair_val s (2 * k) l2, Int.emod_eq_of_lt (by have := DA.out; have := DB.out; omega) (by omega)]
              exact R.out.1
            · have := dlen_at s (2 * k) HDL.out
              have m1 := dlen_more 16 s (2 * k) l1 DA.out
              have m2 := dlen_more 16 s (2 * k + 1) l2 DB.out
              omega
          case measure => simp [intOf]; omega
        · have DA := Lib.hid da
          have DB := Lib.hid db
          have d1 := not_lt da
          have d2 := is_lt (show dg 16 (s[2 * k + 1].toNat : Int) < 0 by omega)
          clear db
          go_wp2_with fail
          go_quiet ((go_at_call 53; exact Calls.quiet_of_same (scDigit_byte _ _)))
          go_wp2
          go_ret2
          refine .inr ⟨fun hall => ?_, rfl, below_drewN HB1.out nq⟩
          have := dlen_at s (2 * k) HDL.out
          have m1 := dlen_more 16 s (2 * k) l1 DA.out
          have m2 := dlen_stop 16 s (2 * k + 1) l2 (by have := DB.out; omega)
          unfold AllHex at hall
          omega
      · have DA := Lib.hid da
        have d1 := is_lt (show dg 16 (s[2 * k].toNat : Int) < 0 by omega)
        clear da
        go_wp2_with fail
        go_quiet ((go_at_call 53; exact Calls.quiet_of_same (scDigit_byte _ _)))
        go_wp2
        go_ret2
        refine .inr ⟨fun hall => ?_, rfl, below_drewN HB1.out nq⟩
        have := dlen_at s (2 * k) HDL.out
        have m1 := dlen_stop 16 s (2 * k) l1 (by have := DA.out; omega)
        unfold AllHex at hall
        omega
    · have e : k = n := by omega
      subst e
      have l0 : ¬ 2 * (k : Int) < s.size := by have := HN.out; omega
      have d0 := not_lt (show (s.size : Int) ≤ 2 * (k : Int) by omega)
      go_wp2
      go_ret2
      refine .inl ⟨?_, u4, rfl, HO1.out, HB1.out⟩
      have := HDL.out
      have := dlen_le 16 s.data.toList
      have := HN.out
      unfold AllHex
      simp at *
      omega

theorem scParse_odd (s : ByteArray) (w : World) (h1 : (s.size : Int) % 2 ≠ 0) :
    Calls Tryd.prog 33 #[.string s] w (GivesNoneB w) := by
  have t1 : ((s.size : Int) % 2 != 0) = true := by simp; omega
  clear h1
  go_enter Tryd.func33, Tryd.ntmps33
  go_wp2
  go_ret2
  exact ⟨rfl, Below.refl _ _⟩
theorem scParse_long (s : ByteArray) (w : World) (h1 : (s.size : Int) % 2 = 0) (h2 : 8000 < (s.size : Int)) (hs : (s.size : Int) ≤ 1048576) :
    Calls Tryd.prog 33 #[.string s] w (GivesNoneB w) := by
  have t1 : ((s.size : Int) % 2 != 0) = false := by simp; omega
  have hb : 4000 < (s.size : Int) / 2 := by omega
  clear h1
  go_enter Tryd.func33, Tryd.ntmps33
  go_wp2_with (go_at_call 43; refine (scBytes_false _ _ hb).mono ?_; rintro e w' ⟨rfl, rfl⟩)
  go_ret2
  exact ⟨rfl, Below.refl _ _⟩
def SpGives (w : World) (n : Nat) (zs : List Int) (e : Ending) (w' : World) : Prop := ∃ v, e = .returned (.tuple #[v, .bool true]) ∧ OwnV w' w.heap.size v n zs ∧ Below w.heap.size w w'
theorem specParse_no (s : ByteArray) (w : World) (H : Hid (∀ w, Calls Tryd.prog 33 #[.string s] w (GivesNoneB w))) :
    Calls Tryd.prog 6 #[.string s] w (GivesNoneB w) := by
  go_enter Tryd.func6, Tryd.ntmps6
  go_wp2_with (go_at_call 33; refine (H.out _).mono ?_; rintro e w1 ⟨rfl, b⟩; have B := Lib.hid b; clear b)
  go_ret2
  exact ⟨rfl, B.out⟩
theorem specParse_yes (s : ByteArray) (n : Nat) (zs : List Int) (w : World) (H : Hid (∀ w, Calls Tryd.prog 33 #[.string s] w (SpGives w n zs))) :
    Calls Tryd.prog 6 #[.string s] w (SpGives w n zs) := by
  go_enter Tryd.func6, Tryd.ntmps6
  go_wp2_with (go_at_call 33; refine (H.out _).mono ?_; rintro e w1 ⟨v, rfl, o, b⟩; have O := Lib.hid o; have B := Lib.hid b; clear o b)
  go_ret2
  exact ⟨v, rfl, O.out, B.out⟩
/-- both functions answer the same -/
theorem parseBytes_both (s : ByteArray) (hs : (s.size : Int) ≤ 1048576) :
    (Hid (∀ w, Hid (Dig w) → Calls Tryd.prog 5 #[.string s] w (GivesNoneB w)) ∧ Hid (∀ w, Calls Tryd.prog 6 #[.string s] w (GivesNoneB w))) ∨
    ∃ (n : Nat) (zs : List Int), n ≤ 4000 ∧ Hid (∀ c ∈ zs, 0 ≤ c ∧ c ≤ 255) ∧ Hid (∀ w, Hid (Dig w) → Calls Tryd.prog 5 #[.string s] w (Gives w n zs)) ∧ Hid (∀ w, Calls Tryd.prog 6 #[.string s] w (SpGives w n zs)) := by
  by_cases h2 : (s.size : Int) % 2 = 0
  · by_cases h8 : (s.size : Int) ≤ 8000
    · obtain ⟨n, hn⟩ : ∃ n, s.size = 2 * n := ⟨s.size / 2, by omega⟩
      by_cases ha : AllHex s
      · refine .inr ⟨n, pb s n, by omega, pb_range s n, fun w hD => implParse_some s n w hD h8 hn ha, fun w => specParse_yes s n (pb s n) w fun w => (scParse_go s n w h8 hn).mono fun e w' h => ?_⟩
        rcases h with ⟨_, h⟩ | ⟨h, _⟩
        · exact h
        · exact absurd ha h
      · refine .inl ⟨fun w hD => implParse_no s w hD (.inr (.inr ⟨h8, h2, ha⟩)), fun w => specParse_no s w fun w => (scParse_go s n w h8 hn).mono fun e w' h => ?_⟩
        rcases h with ⟨h, _⟩ | ⟨_, h⟩
        · exact absurd h ha
        · exact h
    · exact .inl ⟨fun w hD => implParse_no s w hD (.inl (by omega)), fun w => specParse_no s w fun w => scParse_long s w h2 (by omega) hs⟩
  · refine .inl ⟨fun w hD => implParse_no s w hD ?_, fun w => specParse_no s w fun w => scParse_odd s w h2⟩
    by_cases h8 : (s.size : Int) ≤ 8000
    · exact .inr (.inl ⟨h8, h2⟩)
    · exact .inl (by omega)
end Go.Proofs.YtniggnjnpapkeabDoor
