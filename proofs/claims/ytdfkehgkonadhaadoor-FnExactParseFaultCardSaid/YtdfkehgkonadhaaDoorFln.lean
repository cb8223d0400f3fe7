/- Lines: strings.Split at a newline, the model's l1Split at any byte; linesOf, strings.Clone (l1Split is written after Cvq). -/
import Derived.Test.YtdfkehgkonadhaaDoorSbm
import Derived.Test.YtdfkehgkonadhaaDoorFsp
import Derived.Test.YtdfkehgkonadhaaDoorFac
import Derived.Test.YtdfkehgkonadhaaDoorShelf
import Derived.Test.YtdfkehgkonadhaaDoorFlw
namespace Go.Proofs.YtdfkehgkonadhaaDoor
set_option maxRecDepth 100000
open Go.RowKit
set_option linter.unusedVariables false

def ScRel (w : World) (b : UInt8) (s : ByteArray) (T : List ByteArray) (out from_ i : Value) (wr : World) : Prop :=
  ∃ (j a : Nat) (l : List ByteArray), j ≤ s.size ∧ a ≤ j ∧ l.length ≤ j ∧ i = .int .i64 j ∧ from_ = .int .i64 a ∧ OwnZ wr w.heap.size out l.length l ∧ Below w.heap.size w wr ∧ Hid (l ++ scF b s a (s.size - j) = T)
def SaysZ (w : World) (T : List ByteArray) (e : Ending) (w' : World) : Prop := ∃ v, e = .returned v ∧ OwnZ w' w.heap.size v T.length T ∧ Below w.heap.size w w'
set_option maxHeartbeats 3200000 in
theorem l1SplitC_any (b : UInt8) (s : ByteArray) (w : World) (hs : s.size ≤ 1048576) : Calls Tryd.prog 39 #[.string s, .int .u8 (b.toNat : Int)] w (SaysZ w (scB b s)) := by
  obtain ⟨i0, hi, hz0, hz1, hz2⟩ := info_parts infoStr
  obtain ⟨T, hT⟩ : ∃ T, scB b s = T := ⟨_, rfl⟩
  have H0 : Hid ([] ++ scF b s 0 (s.size - 0) = T) := Lib.hid hT
  rw [hT]
  clear hT
  go_enter Tryd.func39, Tryd.ntmps39
  go_wp2_with fail
  go_loopw [5, 6, 7] (fun out fr i wr => ScRel w b s T out fr i wr) (fun _ _ i _ => s.size - (intOf i).toNat)
  case atStart => exact ⟨0, 0, [], Nat.zero_le _, Nat.le_refl _, Nat.le_refl _, rfl, rfl, World.ownsRow_nil _ _ _ _, Below.refl _ _, H0⟩
  case round =>
    obtain ⟨j, a, l, hj, ha, hl, rfl, rfl, ho, hb, HP⟩ := hrel
    have HO := Lib.hid ho
    have HB := Lib.hid hb
    clear ho hb
    by_cases hlt : j < s.size
    · by_cases hc : s[j] = b
      · have dq : ((s[j].toNat : Int) == (b.toNat : Int)) = true := by rw [hc]; simp
        have HX : Hid ((l ++ [s.extract a j]) ++ scF b s (j + 1) (s.size - (j + 1)) = T) := Lib.hid (by rw [← HP.out, scF_hit b s a j hlt hc]; simp)
        clear hc
        go_wp2_with (at_builtin; refine wpList_append_own _ rfl _ _ 46 rfl w.heap.size 9 i0 (.string ⟨#[]⟩) 1 16 Tryd.underlying46 hi hz0 hz1 hz2 rfl (by decide) _ _ _ rfl (World.ownsRow.alloc (w := wr) HO.out _) ⟨wr.heap.size, 0, none⟩ 1 1 [.string (s.extract a j)] rfl rfl (one_new wr _ _) (by intro u hu; simp at hu; subst hu; rfl) (by unfold maxLen; omega) (by omega) (by have := HB.out.size; simp; omega) ?_; intro v' w3 hown1 hgrow1 _; have R := Lib.hid (OwnZ.snoc (wr := wr) HO.out HB.out.size HB.out hown1 hgrow1); clear hown1 hgrow1)
        go_roundw
        case rel => exact ⟨j + 1, j + 1, l ++ [s.extract a j], by omega, Nat.le_refl _, by simp; omega, by go_num, by go_num, by rw [List.length_append]; exact R.out.1, R.out.2, HX⟩
        case measure => simp [intOf]; omega
      · have dq : ((s[j].toNat : Int) == (b.toNat : Int)) = false := by
          have : s[j].toNat ≠ b.toNat := fun q => hc (UInt8.toNat_inj.1 q)
          simp; omega
        have HX : Hid (l ++ scF b s a (s.size - (j + 1)) = T) := Lib.hid (by rw [← HP.out, scF_miss b s a j hlt hc])
        clear hc
        go_wp2_with fail
        go_roundw
        case rel => exact ⟨j + 1, a, l, by omega, by omega, by omega, by go_num, rfl, HO.out, HB.out, HX⟩
        case measure => simp [intOf]; omega
    · have HX : Hid (l ++ [s.extract a s.size] = T) := Lib.hid (by rw [← HP.out, scF_end b s a j (by omega)])
      go_wp2_with (at_builtin; refine wpList_append_own _ rfl _ _ 46 rfl w.heap.size 9 i0 (.string ⟨#[]⟩) 1 16 Tryd.underlying46 hi hz0 hz1 hz2 rfl (by decide) _ _ _ rfl (World.ownsRow.alloc (w := wr) HO.out _) ⟨wr.heap.size, 0, none⟩ 1 1 [.string (s.extract a s.size)] rfl rfl (one_new wr _ _) (by intro u hu; simp at hu; subst hu; rfl) (by unfold maxLen; omega) (by omega) (by have := HB.out.size; simp; omega) ?_; intro v' w3 hown1 hgrow1 _; have R := Lib.hid (OwnZ.snoc (wr := wr) HO.out HB.out.size HB.out hown1 hgrow1); clear hown1 hgrow1)
      go_ret
      exact ⟨_, rfl, by rw [← HX.out, List.length_append]; exact R.out.1, R.out.2⟩
/-- the library's bound is an int -/
def MaxL (w : World) : Prop := ∃ m : Int, w.cell? ⟨2, 0, none⟩ = some (.int .i64 m)
theorem MaxL.below {w w' : World} (h : MaxL w) (hb : Below w.heap.size w w') : MaxL w' := by
  obtain ⟨m, hm⟩ := h
  exact ⟨m, (hb.cell (p := ⟨2, 0, none⟩) (World.block_lt_of_cell? w _ hm)).trans hm⟩
theorem maxl_of {W : World} (h : W.ShapedOpen Tryd.prog) : MaxL W := Tryd.laysM146.s1_3 W h
/-- a row of texts that was made -/
def SaysL (w : World) (l : List ByteArray) (e : Ending) (w' : World) : Prop := e = .returned (.slice (some ⟨w.heap.size, 0, none⟩) l.length l.length) ∧ TextsAt w' w.heap.size l ∧ w.heap.size < w'.heap.size ∧ Below w.heap.size w w'
theorem splitNl_any (s : ByteArray) (w : World) (hM : Hid (MaxL w)) (hs : s.size ≤ 1048576) :
    Calls Tryd.prog 50 #[.string s, .string ⟨#[10]⟩] w (SaysL w (scB 10 s)) := by
  obtain ⟨m, hm⟩ := hM.out
  refine (Tryd.strings_Split s ⟨#[10]⟩ m w (by omega) hm (by decide)).mono ?_
  rintro e w' ⟨rfl, rfl⟩
  rw [countB_sc, split_sc]
  exact ⟨rfl, texts_new _ _ _ rfl _, by simp, one_new2 w _⟩
theorem linesOf_any (s : ByteArray) (w : World) (hM : Hid (MaxL w)) (hs : s.size ≤ 1048576) :
    Calls Tryd.prog 37 #[.string s] w (SaysL w (scB 10 s)) := by
  have H := Lib.hid (splitNl_any s w hM hs)
  generalize scB 10 s = L at H ⊢
  go_enter Tryd.func37, Tryd.ntmps37
  go_wp2_with (go_at_call 50; refine (H.out).mono ?_; rintro e w1 ⟨rfl, t, l, b⟩; have T := Lib.hid t; have B := Lib.hid b; have L' := Lib.hid l; clear t b l)
  go_ret
  exact ⟨rfl, T.out, L'.out, B.out⟩
theorem strClone_any (s : ByteArray) (w : World) (hs : s.size ≤ 1048576) :
    Calls Tryd.prog 40 #[.string s] w (SaysV w (.string s)) := by
  have H := Lib.hid (Tryd.stringslite_Clone s w (by omega))
  go_enter Tryd.func40, Tryd.ntmps40
  go_wp2_with (go_at_call 51; refine (H.out).mono ?_; rintro e w1 ⟨rfl, b⟩; have B := Lib.hid b; clear b)
  go_ret
  exact ⟨rfl, B.out⟩
end Go.Proofs.YtdfkehgkonadhaaDoor
