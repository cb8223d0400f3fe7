/- HexOf: the program's side. -/
import Derived.Test.YtkpocljlmbihcaaDoorHexT
import Derived.Lib.SlBytesConst
namespace Go.Proofs.YtkpocljlmbihcaaDoor
set_option maxRecDepth 100000
open Go.RowKit

theorem i64_and15 (n : Int) : bits .and .i64 n 15 = n % 16 := by
  have h15 : (BitVec.ofInt 64 15).toNat = 2 ^ 4 - 1 := by decide
  have key : (BitVec.ofInt 64 n &&& BitVec.ofInt 64 15).toNat = (n % ((2 ^ 64 : Nat) : Int)).toNat % 2 ^ 4 := by
    rw [BitVec.toNat_and, BitVec.toNat_ofInt, h15, Nat.and_two_pow_sub_one_eq_mod]
  show IntKind.i64.wrap ((BitVec.ofInt 64 n &&& BitVec.ofInt 64 15).toNat : Nat) = n % 16
  rw [key, IntKind.wrap_i64]
  omega
theorem hex_atN : ∀ (k : Nat), k < 16 → (p : k < hexB.size) → ((hexB[k]'p).toNat : Int) = hdI (k : Int)
  | 0, _, p => rfl
  | 1, _, p => rfl
  | 2, _, p => rfl
  | 3, _, p => rfl
  | 4, _, p => rfl
  | 5, _, p => rfl
  | 6, _, p => rfl
  | 7, _, p => rfl
  | 8, _, p => rfl
  | 9, _, p => rfl
  | 10, _, p => rfl
  | 11, _, p => rfl
  | 12, _, p => rfl
  | 13, _, p => rfl
  | 14, _, p => rfl
  | 15, _, p => rfl
  | k + 16, h, _ => absurd h (by omega)
theorem hex_at (k : Int) (h0 : 0 ≤ k) (h1 : k < 16) (p : k.toNat < hexB.size) : ((hexB[k.toNat]'p).toNat : Int) = hdI k := by
  obtain ⟨m, rfl⟩ := Int.eq_ofNat_of_zero_le h0
  exact hex_atN m (by omega) p
theorem hdI_bd (k : Int) (h0 : 0 ≤ k) (h1 : k < 16) : 48 ≤ hdI k ∧ hdI k ≤ 102 := by
  unfold hdI; split <;> omega
theorem lowHex_any (n : Int) (w : World) (hD : Hid (Dig w)) (_h0 : 0 ≤ n) :
    Calls Tryd.prog 75 #[.int .i64 n] w fun e w' => e = .returned (.int .u8 (hdI (n % 16))) ∧ w = w' := by
  have hc := hD.out.2
  have ha := i64_and15 n
  have h1 : 0 ≤ n % 16 := by omega
  have h2 : n % 16 < 16 := by omega
  have hsz : hexB.size = 16 := rfl
  go_enter Tryd.func75, Tryd.ntmps75
  go_wp2
  go_ret
  exact ⟨ret_int (hex_at _ h1 h2 _), rfl⟩

/-- a text is made of a row of bytes -/
theorem back_str {w : World} {B g n cap : Nat} {zs : List Int} (h : OwnB w B g n cap zs) (hr : ∀ c ∈ zs, 0 ≤ c ∧ c ≤ 255) :
    (convert 84 9 (.slice (some ⟨g, 0, none⟩) n cap)).run Tryd.prog w = .ok (.string (strOfNums zs)) w :=
  run_convert_bytes_arg w 84 5 Tryd.underlying84 Tryd.underlying5 g 0 n cap zs h.len (fun i hi => (h.row hr).1 i (by rw [h.len]; exact hi)) 9 Tryd.underlying9

/-- the digits so far, behind the prefix -/
def htxt (n c i : Nat) : List Int := 48 :: 120 :: hexC (n / 16 ^ i) (c - i)
theorem htxt_step (n c i : Nat) (h : i < c) : htxt n c (i + 1) ++ [hdI (((n : Int) / 16 ^ i) % 16)] = htxt n c i := by
  obtain ⟨d, hd⟩ : ∃ d, c - i = d + 1 := ⟨c - i - 1, by omega⟩
  have e : c - (i + 1) = d := by omega
  unfold htxt
  rw [hd, e, hexC, Nat.pow_succ, ← Nat.div_div_eq_div_mul]
  rfl
theorem hexC_range (c : Nat) : ∀ n : Nat, ∀ x ∈ hexC n c, 0 ≤ x ∧ x ≤ 255 := by
  induction c with
  | zero => intro n x hx; simp [hexC] at hx
  | succ c ih =>
    intro n x hx
    simp only [hexC, List.mem_append, List.mem_singleton] at hx
    rcases hx with hx | rfl
    · exact ih _ x hx
    · have := hdI_bd ((n % 16 : Nat) : Int) (by omega) (by omega)
      omega
theorem htxt_range (n c i : Nat) : ∀ x ∈ htxt n c i, 0 ≤ x ∧ x ≤ 255 := by
  intro x hx
  simp only [htxt, List.mem_cons] at hx
  rcases hx with rfl | rfl | hx
  · omega
  · omega
  · exact hexC_range _ _ x hx
theorem hexC_length (c : Nat) : ∀ n : Nat, (hexC n c).length = c := by
  induction c with
  | zero => intro n; rfl
  | succ c ih => intro n; simp [hexC, ih]
theorem htxt_length (n c i : Nat) : (htxt n c i).length = 2 + (c - i) := by simp [htxt, hexC_length]; omega

theorem two_olds {w wr : World} {o : Obj} (h0 : wr.cell? ⟨w.heap.size, 0, none⟩ = some (.int .u8 48)) (h1 : wr.cell? ⟨w.heap.size, 1, none⟩ = some (.int .u8 120)) (hsz : w.heap.size < wr.heap.size) :
    ∀ b, (some (⟨w.heap.size, 0, none⟩ : Addr)) = some b → ∀ j u, (bv [48, 120])[j]? = some u → (wr.alloc o).cell? (b.add j) = some u := by
  intro b hb j u hj
  cases hb
  match j, hj with
  | 0, hj =>
    simp [bv] at hj; subst hj
    rw [show (⟨w.heap.size, 0, none⟩ : Addr).add 0 = ⟨w.heap.size, 0, none⟩ by simp [Addr.add], World.cell?_alloc_past _ _ _ hsz]
    exact h0
  | 1, hj =>
    simp [bv] at hj; subst hj
    rw [show (⟨w.heap.size, 0, none⟩ : Addr).add 1 = ⟨w.heap.size, 1, none⟩ by simp [Addr.add], World.cell?_alloc_past _ _ _ hsz]
    exact h1
  | j + 2, hj => simp [bv] at hj
theorem row_base {w : World} {B B' n : Nat} {v : Value} {xs : List Value} (h : w.ownsRow B 5 1 v n xs) (hB : B' ≤ B) : w.ownsRow B' 5 1 v n xs := by
  obtain ⟨h1, h2⟩ := h
  refine ⟨h1, ?_⟩
  rcases h2 with h2 | ⟨g', cap', cur, a, b, c, d⟩
  · exact .inl h2
  · exact .inr ⟨g', cap', cur, a, Nat.le_trans hB b, c, d⟩
theorem shift4 (n : Int) (k : Nat) : n / 2 ^ (4 * k) = n / 16 ^ k := by
  rw [Int.pow_mul]
  rfl
/-- the text so far: the prefix as it was laid, or a row of the call's own -/
def Txt (w : World) (n c j : Nat) (v : Value) (wr : World) : Prop :=
  (j = c ∧ v = .slice (some ⟨w.heap.size, 0, none⟩) 2 2 ∧ wr.cell? ⟨w.heap.size, 0, none⟩ = some (.int .u8 48) ∧ wr.cell? ⟨w.heap.size, 1, none⟩ = some (.int .u8 120)) ∨
  (j < c ∧ OwnV wr w.heap.size v (2 + (c - j)) (htxt n c j))
def HexRel (w : World) (n c : Nat) (v i : Value) (wr : World) : Prop :=
  ∃ (j : Nat) (i' : Int), j ≤ c ∧ i = .int .i64 i' ∧ i' + 1 = j ∧ Txt w n c j v wr ∧ Below w.heap.size w wr ∧ w.heap.size < wr.heap.size
def SaysStr (w : World) (s : ByteArray) (e : Ending) (w' : World) : Prop := e = .returned (.tuple #[.string s, .bool true]) ∧ Below w.heap.size w w'
theorem htxt_first (n c : Nat) (h : 0 < c) : bv [48, 120] ++ [.int .u8 (hdI ((n : Int) / 2 ^ (4 * (c - 1)) % 16))] = bv (htxt n c (c - 1)) := by
  have e := htxt_step n c (c - 1) (by omega)
  rw [shift4, ← e, show c - 1 + 1 = c by omega]
  simp [bv, htxt, hexC]

set_option maxHeartbeats 3200000 in
theorem implHexOf_some (n : Nat) (w : World) (hD : Hid (Dig w)) (hn : (n : Int) ≤ 4294967295) :
    Calls Tryd.prog 52 #[.int .i64 n] w (SaysStr w (hexStr n)) := by
  have t1 := not_lt hn
  obtain ⟨i0, hi, hz0, hz1, hz2⟩ := info_parts infoU8
  have kc := fun (w : World) (C : Array Value) (n c : Nat) => Lib.run_convert_bytes_const (P := Tryd.prog) w 84 5 C n c Tryd.underlying84 Tryd.underlying5
  go_enter Tryd.func52, Tryd.ntmps52
  go_wp2
  go_loop [4] (fun c => ∃ k : Nat, 1 ≤ k ∧ k ≤ 8 ∧ c = .int .i64 k ∧ Hid (k = 1 ∨ 16 ^ (k - 1) ≤ n)) (fun c => (9 - intOf c).toNat)
  case atStart => exact ⟨1, by omega, by omega, rfl, .inl rfl⟩
  case round =>
    obtain ⟨k, hk1, hk8, rfl, HK⟩ := hrel
    by_cases hz : (n : Int) / 2 ^ (4 * k) = 0
    · have hz' : ((n : Int) / 2 ^ (4 * k) != 0) = false := by simp [hz]
      have HN : Hid (n < 16 ^ k) := by
        unfold Hid
        rw [shift4] at hz
        have hp : (0 : Int) < 16 ^ k := Int.pow_pos (by omega)
        have h1 := Int.mul_ediv_add_emod (n : Int) (16 ^ k)
        have h3 := Int.emod_lt_of_pos (n : Int) hp
        rw [hz, Int.mul_zero] at h1
        have h2 : ((16 ^ k : Nat) : Int) = (16 : Int) ^ k := by simp
        omega
      clear hz
      go_wp2
      clear kc
      go_loopw [5, 6] (fun v i wr => HexRel w n k v i wr) (fun _ i _ => (intOf i + 1).toNat)
      case atStart => exact ⟨k, (k : Int) - 1, Nat.le_refl _, by go_num, by omega, .inl ⟨rfl, rfl, by rw [World.cell?_alloc_mark]; rfl, by rw [World.cell?_alloc_mark]; rfl⟩, (Below.refl _ _).alloc (Nat.le_refl _) _, by simp⟩
      case round =>
        obtain ⟨j, i', hj, rfl, hij, ht, hb, hsz⟩ := hrel
        have HB := Lib.hid hb
        have HT := Lib.hid ht
        clear hb ht
        have HDr : Hid (Dig wr) := Lib.hid (hD.out.below HB.out)
        cases j with
        | zero =>
          obtain rfl : i' = -1 := by omega
          clear hij
          have ho : OwnV wr w.heap.size u5 (2 + k) (htxt n k 0) := by
            rcases HT.out with ⟨h, _⟩ | ⟨_, h⟩
            · omega
            · exact h
          obtain ⟨g, cap, rfl, hob⟩ := OwnV.some ho (by omega)
          have HO := Lib.hid hob
          clear ho hob
          have hback := back_str HO.out (htxt_range _ _ _)
          go_wp2
          go_ret2
          refine ⟨?_, HB.out⟩
          have e : strOfNums (htxt n k 0) = hexStr n := by
            obtain ⟨d, rfl⟩ : ∃ d, k = d + 1 := ⟨k - 1, by omega⟩
            have hx := hexC_eq d n HN.out (by rcases HK.out with h | h; exact .inl (by omega); exact .inr (by simpa using h))
            simp only [htxt, hexStr, Nat.pow_zero, Nat.div_one, Nat.sub_zero, hx]
          exact ret_pair (by rw [e]; rfl) rfl
        | succ j =>
          obtain rfl : i' = (j : Int) := by omega
          clear hij
          have hq : (0 : Int) ≤ (n : Int) / 2 ^ (4 * j) := Int.ediv_nonneg (by omega) (Int.le_of_lt (Int.pow_pos (by omega)))
          rcases HT.out with ⟨hjk, rfl, hc0, hc1⟩ | ⟨hjk, ho⟩
          · have HJ := Lib.hid hjk
            have HC0 := Lib.hid hc0
            have HC1 := Lib.hid hc1
            clear hjk hc0 hc1
            go_wp2_with (first | (go_at_call 75; refine (lowHex_any _ _ HDr hq).mono ?_; rintro e w' ⟨rfl, rfl⟩) | (at_builtin; refine wpList_append_grows _ rfl _ _ 84 rfl 5 i0 (.int .u8 0) 1 1 Tryd.underlying84 hi hz0 hz1 hz2 rfl (by decide) (some ⟨w.heap.size, 0, none⟩) 2 2 (bv [48, 120]) rfl (by intro h; cases h) rfl (two_olds HC0.out HC1.out hsz) ⟨wr.heap.size, 0, none⟩ 1 1 [.int .u8 (hdI ((n : Int) / 2 ^ (4 * j) % 16))] rfl rfl (one_new _ _ _) (by intro u hu; simp at hu; subst hu; rfl) (by omega) (by unfold maxLen; omega) (by omega) ?_; intro v' w1 hown1 hgrow1; have HO1 := Lib.hid hown1; have HB1 := Lib.hid ((HB.out.alloc HB.out.size _).grown hgrow1 (by have := HB.out.size; simp; omega) (by intro k h; cases h)); have HZ1 := Lib.hid hgrow1.size; clear hown1 hgrow1))
            go_roundw
            case rel =>
              refine ⟨j, (j : Int) - 1, by omega, by go_num, by omega, .inr ⟨by omega, ?_⟩, HB1.out, by have := HZ1.out; simp at this; omega⟩
              have hf := htxt_first n k (by omega)
              have hj1 : k - 1 = j := by have := HJ.out; omega
              rw [hj1] at hf
              have ho1 := HO1.out
              rw [hf] at ho1
              have := (row_base (B' := w.heap.size) ho1 (by have := HB.out.size; simp; omega))
              rw [show 2 + (k - j) = 2 + 1 by omega]
              exact this
            case measure => simp [intOf]
          · have HO := Lib.hid ho
            clear ho
            go_wp2_with (first | (go_at_call 75; refine (lowHex_any _ _ HDr hq).mono ?_; rintro e w' ⟨rfl, rfl⟩) | (at_builtin; refine wpList_append_own _ rfl _ _ 84 rfl w.heap.size 5 i0 (.int .u8 0) 1 1 Tryd.underlying84 hi hz0 hz1 hz2 rfl (by decide) _ _ _ rfl (World.ownsRow.alloc HO.out _) ⟨wr.heap.size, 0, none⟩ 1 1 [.int .u8 (hdI ((n : Int) / 2 ^ (4 * j) % 16))] rfl rfl (one_new _ _ _) (by intro u hu; simp at hu; subst hu; rfl) (by unfold maxLen; omega) (by omega) (by have := HB.out.size; simp; omega) ?_; intro v' w1 hown1 hgrow1 _; have R := Lib.hid (HO.out.snoc HB.out.size HB.out hown1 hgrow1); have HZ1 := Lib.hid hgrow1.size; clear hown1 hgrow1))
            go_roundw
            case rel =>
              refine ⟨j, (j : Int) - 1, by omega, by go_num, by omega, .inr ⟨by omega, ?_⟩, R.out.2, by have := HZ1.out; simp at this; omega⟩
              have e := htxt_step n k j (by omega)
              rw [← e, ← shift4, show 2 + (k - j) = 2 + (k - (j + 1)) + 1 by omega]
              exact R.out.1
            case measure => simp [intOf]
    · have hz' : ((n : Int) / 2 ^ (4 * k) != 0) = true := by simp [hz]
      have HZ := Lib.hid hz
      clear hz
      go_wp2
      go_round
      case rel =>
        have hne : ¬ (n : Int) < 16 ^ k := fun h => HZ.out (by rw [shift4]; exact Int.ediv_eq_zero_of_lt (by omega) h)
        have h2 : ((16 ^ k : Nat) : Int) = (16 : Int) ^ k := by simp
        have h8 : k ≠ 8 := by
          intro e
          have e8 : (16 : Int) ^ 8 = 4294967296 := rfl
          rw [e, e8] at hne
          omega
        exact ⟨k + 1, by omega, by omega, by go_num, .inr (by rw [Nat.add_sub_cancel]; omega)⟩
      case measure => simp [intOf]; omega

theorem implHexOf_no (n : Int) (w : World) (h : n < 0 ∨ (0 ≤ n ∧ 4294967295 < n)) :
    Calls Tryd.prog 52 #[.int .i64 n] w fun e w' => e = .returned (.tuple #[.string ⟨#[]⟩, .bool false]) ∧ w = w' := by
  rcases h with h | ⟨h, h1⟩
  · have t0 := is_lt h
    go_enter Tryd.func52, Tryd.ntmps52
    go_wp2
    go_ret2
    exact ⟨rfl, rfl⟩
  · have t0 := not_lt h
    have t1 := is_lt h1
    go_enter Tryd.func52, Tryd.ntmps52
    go_wp2
    go_ret2
    exact ⟨rfl, rfl⟩
def SaysStrB (w : World) (s : ByteArray) (b : Bool) (e : Ending) (w' : World) : Prop := e = .returned (.tuple #[.string s, .bool b]) ∧ Below w.heap.size w w'
end Go.Proofs.YtkpocljlmbihcaaDoor
