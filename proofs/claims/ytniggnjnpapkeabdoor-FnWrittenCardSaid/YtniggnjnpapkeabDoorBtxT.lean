/- Texts of bytes: contracts of BytesText, program and model. -/
import Derived.Test.YtniggnjnpapkeabDoorHexO
namespace Go.Proofs.YtniggnjnpapkeabDoor
set_option maxRecDepth 100000
open Go.RowKit

/-- two digits for each byte -/
def bt (zs : List Int) : List Int := zs.flatMap fun c => [hdI (c / 16 % 16), hdI (c % 16)]
theorem bt_snoc (zs : List Int) (c : Int) : bt (zs ++ [c]) = bt zs ++ [hdI (c / 16 % 16), hdI (c % 16)] := by simp [bt]
theorem bt_length (zs : List Int) : (bt zs).length = 2 * zs.length := by
  induction zs with
  | nil => rfl
  | cons c r ih => simp only [bt, List.flatMap_cons, List.length_append, List.length_cons, List.length_nil] at ih ⊢; omega
theorem bt_range (zs : List Int) : ∀ x ∈ bt zs, 0 ≤ x ∧ x ≤ 255 := by
  intro x hx
  simp only [bt, List.mem_flatMap, List.mem_cons, List.not_mem_nil, or_false] at hx
  obtain ⟨c, _, rfl | rfl⟩ := hx
  · have := hdI_bd (c / 16 % 16) (by omega) (by omega); omega
  · have := hdI_bd (c % 16) (by omega) (by omega); omega
theorem take_snoc' (zs : List Int) (k : Nat) (h : k < zs.length) : zs.take (k + 1) = zs.take k ++ [zs.getD k 0] := by
  rw [List.take_succ_eq_append_getElem h, List.getD_eq_getElem?_getD, List.getElem?_eq_getElem h]; rfl
theorem two_new (w : World) (a b : Value) (t : TypeId) : ∀ j u, [a, b][j]? = some u → (w.alloc (.cells #[a, b] t)).cell? ((⟨w.heap.size, 0, none⟩ : Addr).add j) = some u := by
  intro j u hj
  match j, hj with
  | 0, hj => simp at hj; subst hj; simp [Addr.add]
  | 1, hj => simp at hj; subst hj; simp [Addr.add]
  | j + 2, hj => simp at hj
theorem OwnV.snoc2 {w wr w1 : World} {B n : Nat} {v v' : Value} {zs : List Int} {c d : Int} {o : Obj} (h : OwnV wr B v n zs) (hB : B ≤ wr.heap.size) (hb : Below B w wr)
    (h' : w1.ownsRow B 5 1 v' (n + 2) (bv zs ++ [.int .u8 c, .int .u8 d])) (hg : (wr.alloc o).grownBy w1 v.ownBlock) : OwnV w1 B v' (n + 2) (zs ++ [c, d]) ∧ Below B w w1 :=
  ⟨by unfold OwnV; simpa [bv] using h', (hb.alloc hB o).grown hg (by simp; omega) (fun j hj => (World.ownsRow.lt h j hj).1)⟩

def BtRel (w : World) (n : Nat) (zs : List Int) (v i : Value) (wr : World) : Prop :=
  ∃ (k : Nat), k ≤ n ∧ i = .int .i64 k ∧ (∃ g c, v = .slice (some ⟨g, 0, none⟩) (2 * k) c) ∧ OwnV wr w.heap.size v (2 * k) (bt (zs.take k)) ∧ Below w.heap.size w wr
theorem shape_next {w1 : World} {B n : Nat} {v v' : Value} {xs : List Value} {g c m : Nat} (_hv : v = .slice (some ⟨g, 0, none⟩) m c) (hiff : v' = .slice none 0 0 ↔ v = .slice none 0 0 ∧ (2 : Nat) = 0) (h : w1.ownsRow B 5 1 v' n xs) : ∃ g c, v' = .slice (some ⟨g, 0, none⟩) n c := by
  rcases h.2 with ⟨a, _⟩ | ⟨g, cap, cur, a, _⟩
  · have := (hiff.1 a).2; omega
  · exact ⟨g, cap, a⟩

set_option maxHeartbeats 3200000 in
theorem implBytesText_some (b off n cap : Nat) (zs : List Int) (w : World) (HL : Hid (zs.length = n)) (HR : Hid (Row w b off zs)) (hD : Hid (Dig w)) (hn : (n : Int) ≤ 4000) :
    Calls Tryd.prog 23 #[.slice (some ⟨b, off, none⟩) n cap] w (SaysStrB w (strOfNums (bt zs)) true) := by
  obtain ⟨i0, hi, hz0, hz1, hz2⟩ := info_parts infoU8
  go_enter Tryd.func23, Tryd.ntmps23
  go_wp2_with (first | (go_at_call 49; refine (areBytes_true _ _ _ _ hn).mono ?_; rintro e w' ⟨rfl, rfl⟩) | (at_make; refine wpList_make_own _ rfl _ _ 22 rfl w.heap.size 5 i0 (.int .u8 0) 1 Tryd.underlying22 hi hz0 hz1 .i64 .i64 _ (2 * n) rfl rfl (by omega) (by rw [hz2]; omega) (by unfold maxLen; omega) (Nat.le_refl _) ?_; intro w0 hown0 hgrow0; have HO := Lib.hid hown0; have HB := Lib.hid ((Below.refl w.heap.size w).grown hgrow0 (Nat.le_refl _) (by intro k h; cases h)); clear hown0 hgrow0))
  go_loopw [4, 16] (fun v i wr => BtRel w n zs v i wr) (fun _ i _ => n - (intOf i).toNat)
  case atStart => exact ⟨0, Nat.zero_le _, rfl, ⟨_, _, rfl⟩, HO.out, HB.out⟩
  case round =>
    obtain ⟨k, hk, rfl, hsh, ho, hb⟩ := hrel
    have HO1 := Lib.hid ho
    have HB1 := Lib.hid hb
    clear ho hb
    obtain ⟨g, c0, rfl⟩ := hsh
    have HDr : Hid (Dig wr) := Lib.hid (hD.out.below HB1.out)
    by_cases hlt : k < n
    · obtain ⟨c, HC, h0, h1, hcell⟩ := HR.out.at k (by have := HL.out; omega)
      have hcr : wr.cell? ⟨b, off + k, none⟩ = some (.int .u8 c) := (HB1.out.cell (p := ⟨b, off + k, none⟩) (World.block_lt_of_cell? w _ hcell)).trans hcell
      clear hcell
      have hq : 0 ≤ c / 16 := by omega
      go_wp2_with (first | (go_at_call 46; refine (lowHex_any (c / 16) _ HDr hq).mono ?_; rintro e w' ⟨rfl, rfl⟩) | (go_at_call 46; refine (lowHex_any c _ HDr h0).mono ?_; rintro e w' ⟨rfl, rfl⟩) | (at_builtin; refine wpList_append_own _ rfl _ _ 22 rfl w.heap.size 5 i0 (.int .u8 0) 1 1 Tryd.underlying22 hi hz0 hz1 hz2 rfl (by decide) _ _ _ rfl (World.ownsRow.alloc HO1.out _) ⟨wr.heap.size, 0, none⟩ 2 2 [.int .u8 (hdI (c / 16 % 16)), .int .u8 (hdI (c % 16))] rfl rfl (two_new _ _ _ _) (by intro u hu; simp at hu; rcases hu with rfl | rfl <;> rfl) (by unfold maxLen; omega) (by omega) (by have := HB1.out.size; simp; omega) ?_; intro v' w1 hown1 hgrow1 hiff; have HS1 := Lib.hid (shape_next rfl hiff hown1); have R := Lib.hid (HO1.out.snoc2 HB1.out.size HB1.out hown1 hgrow1); clear hown1 hgrow1 hiff))
      go_roundw
      case rel =>
        have e : bt (zs.take (k + 1)) = bt (zs.take k) ++ [hdI (c / 16 % 16), hdI (c % 16)] := by rw [take_snoc' zs k (by have := HL.out; omega), ← HC.out, bt_snoc]
        exact ⟨k + 1, by omega, by go_num, HS1.out, by rw [e]; exact R.out.1, R.out.2⟩
      case measure => simp [intOf]; omega
    · have e : zs.take k = zs := by rw [List.take_of_length_le]; have := HL.out; omega
      have hob : OwnB wr w.heap.size g (2 * k) c0 (bt zs) := by have := HO1.out; rw [e] at this; exact this
      have hback := back_str hob (bt_range zs)
      clear hob
      go_wp2
      go_ret2
      exact ⟨rfl, HB1.out⟩

theorem implBytesText_no (a : Option Addr) (n cap : Nat) (w : World) (hn : 4000 < (n : Int)) :
    Calls Tryd.prog 23 #[.slice a n cap] w fun e w' => e = .returned (.tuple #[.string ⟨#[]⟩, .bool false]) ∧ w = w' := by
  go_enter Tryd.func23, Tryd.ntmps23
  go_wp2_with (go_at_call 49; refine (areBytes_false _ _ _ _ hn).mono ?_; rintro e w' ⟨rfl, rfl⟩)
  go_ret2
  exact ⟨rfl, rfl⟩
def SbRel (w : World) (n : Nat) (zs : List Int) (s i : Value) (wr : World) : Prop :=
  ∃ (k q : Nat), k ≤ n ∧ i = .int .i64 k ∧ s = .string (strOfNums (bt (zs.take k))) ∧ wr = w.drewN q
def SaysStrD (w : World) (s : ByteArray) (e : Ending) (w' : World) : Prop := e = .returned (.string s) ∧ Drawn w w'

set_option maxHeartbeats 1600000 in
theorem scBytesText_some (b off n cap : Nat) (zs : List Int) (w : World) (HL : Hid (zs.length = n)) (HR : Hid (Row w b off zs)) (hn : (n : Int) ≤ 4100) :
    Calls Tryd.prog 27 #[.slice (some ⟨b, off, none⟩) n cap] w (SaysStrD w (strOfNums (bt zs))) := by
  go_enter Tryd.func27, Tryd.ntmps27
  go_wp2
  go_loopw [3, 9] (fun s i wr => SbRel w n zs s i wr) (fun _ i _ => n - (intOf i).toNat)
  case atStart => exact ⟨0, 0, Nat.zero_le _, rfl, rfl, rfl⟩
  case round =>
    obtain ⟨k, q, hk, rfl, rfl, rfl⟩ := hrel
    by_cases hlt : k < n
    · obtain ⟨c, HC, h0, h1, hcell⟩ := HR.out.at k (by have := HL.out; omega)
      have hs1 : ∀ w : World, (Instr.slice 9 (.string ⟨#[48, 49, 50, 51, 52, 53, 54, 55, 56, 57, 97, 98, 99, 100, 101, 102]⟩) (some (.int .i64 (c / 16))) (some (.int .i64 (c / 16 + 1))) none).run Tryd.prog w = .ok (.string (strOfNums [hdI (c / 16)])) w := fun w => by
        obtain ⟨m, hm⟩ := Int.eq_ofNat_of_zero_le (show 0 ≤ c / 16 by omega)
        rw [hm]
        exact sl16 w m (by omega)
      have hs2 : ∀ w : World, (Instr.slice 9 (.string ⟨#[48, 49, 50, 51, 52, 53, 54, 55, 56, 57, 97, 98, 99, 100, 101, 102]⟩) (some (.int .i64 (c % 16))) (some (.int .i64 (c % 16 + 1))) none).run Tryd.prog w = .ok (.string (strOfNums [hdI (c % 16)])) w := fun w => by
        obtain ⟨m, hm⟩ := Int.eq_ofNat_of_zero_le (show 0 ≤ c % 16 by omega)
        rw [hm]
        exact sl16 w m (by omega)
      have hz0 : (strOfNums (bt (zs.take k))).size ≤ 10000 := by rw [strOfNums_size, bt_length]; simp; omega
      have hz1 : (strOfNums [hdI (c / 16)]).size ≤ 1 := by rw [strOfNums_size]; simp
      have hz2 : (strOfNums [hdI (c % 16)]).size ≤ 1 := by rw [strOfNums_size]; simp
      have e1 : IntKind.i64.wrap (c / 16 + 1) = c / 16 + 1 := IntWalk.i64_in _ (by omega)
      have e2 : IntKind.i64.wrap (c % 16 + 1) = c % 16 + 1 := IntWalk.i64_in _ (by omega)
      have e3 : IntKind.i64.wrap (c / 16) = c / 16 := IntWalk.i64_in _ (by omega)
      have e4 : IntKind.i64.wrap (c % 16) = c % 16 := IntWalk.i64_in _ (by omega)
      go_wp2_with fail
      go_quiet (fail)
      go_wp2
      go_roundw
      case rel =>
        have e : bt (zs.take (k + 1)) = bt (zs.take k) ++ ([hdI (c / 16)] ++ [hdI (c % 16)]) := by
          rw [take_snoc' zs k (by have := HL.out; omega), ← HC.out, bt_snoc, Int.emod_eq_of_lt (show 0 ≤ c / 16 by omega) (by omega)]
          rfl
        exact ⟨k + 1, _, by omega, by go_num, by rw [e, strOfNums_append, strOfNums_append], rfl⟩
      case measure => simp [intOf]; omega
    · have e : zs.take k = zs := by rw [List.take_of_length_le]; have := HL.out; omega
      go_wp2
      go_ret
      exact ⟨str_ret (by rw [e]), q, rfl⟩

def SaysStrDB (w : World) (s : ByteArray) (b : Bool) (e : Ending) (w' : World) : Prop := e = .returned (.tuple #[.string s, .bool b]) ∧ Drawn w w'
end Go.Proofs.YtniggnjnpapkeabDoor
