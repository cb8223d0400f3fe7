/- Lists of tokens compared by the laws. -/
import Derived.Test.YtnenfpbiobmlcaaDoorTkd
import Derived.Deep.RegionWith
namespace Go.Proofs.YtnenfpbiobmlcaaDoor
set_option maxRecDepth 100000
open Go.RowKit

def tok0 : Tok := ⟨0, 0, ⟨#[]⟩, 0⟩
/-- the cells of a list of tokens lie from the start of a block on -/
def ToksAt (w : World) (g : Nat) (l : List Tok) : Prop := ∀ i j, j < 4 → i < l.length → w.cell? ⟨g, i * 4 + j, none⟩ = (tkC (l.getD i tok0))[j]?
theorem ToksAt.below {w w' : World} {g B : Nat} {l : List Tok} (h : ToksAt w g l) (hb : Below B w w') (hg : g < B) : ToksAt w' g l := fun i j hj hi => (hb.cell (p := ⟨g, i * 4 + j, none⟩) hg).trans (h i j hj hi)
theorem OwnK.toks {w : World} {B g n cap : Nat} {l : List Tok} (h : OwnK w B (.slice (some ⟨g, 0, none⟩) n cap) n l) : ToksAt w g l := by
  intro i j hj hi
  have hl := h.len
  rw [World.ownsRow.cellAt h (i * 4 + j) (by omega), tkCs_get l i j hj hi]
  rfl
theorem ToksAt.four {w : World} {g : Nat} {l : List Tok} (h : ToksAt w g l) (i : Nat) (hi : i < l.length) (x : Tok) (hx : l.getD i tok0 = x) :
    w.cell? ⟨g, i * 4, none⟩ = some (.int .i64 x.k) ∧ w.cell? ⟨g, i * 4 + 1, none⟩ = some (.int .i64 x.a) ∧ w.cell? ⟨g, i * 4 + 2, none⟩ = some (.string x.t) ∧ w.cell? ⟨g, i * 4 + 3, none⟩ = some (.int .i64 x.v) := by
  subst hx
  exact ⟨(h i 0 (by decide) hi), (h i 1 (by decide) hi), (h i 2 (by decide) hi), (h i 3 (by decide) hi)⟩
def EqTRel (w : World) (n : Nat) (i : Value) (wr : World) : Prop := ∃ k : Nat, k ≤ n ∧ i = .int .i64 k ∧ Below w.heap.size w wr
set_option maxHeartbeats 1600000 in
theorem eqTokenS_same (ga gb n ca cb : Nat) (l : List Tok) (w : World) (HA : Hid (ToksAt w ga l)) (HB : Hid (ToksAt w gb l)) (hn : Hid (l.length = n)) (hga : ga < w.heap.size) (hgb : gb < w.heap.size) (hm : n ≤ 1048576) :
    Calls Tryd.prog 20 #[.slice (some ⟨ga, 0, none⟩) n ca, .slice (some ⟨gb, 0, none⟩) n cb] w (SaysB w true) := by
  go_enter Tryd.func20, Tryd.ntmps20
  go_wp2_with fail
  go_loopw [5] (fun i wr => EqTRel w n i wr) (fun i _ => n - (intOf i).toNat)
  case atStart => exact ⟨0, Nat.zero_le _, rfl, Below.refl _ _⟩
  case round =>
    obtain ⟨k, hk, rfl, hb⟩ := hrel
    have HR := Lib.hid hb
    by_cases hlt : k < n
    · obtain ⟨x, hx⟩ : ∃ x, l.getD k tok0 = x := ⟨_, rfl⟩
      obtain ⟨a0, a1, a2, a3⟩ := (HA.out.below hb hga).four k (by rw [hn.out]; exact hlt) x hx
      obtain ⟨b0, b1, b2, b3⟩ := (HB.out.below hb hgb).four k (by rw [hn.out]; exact hlt) x hx
      clear hb hx
      obtain ⟨xk, xa, xt, xv⟩ := x
      go_wp2_with fail
      go_region_with (go_at_call 16; refine (eqToken_same _ _ _ _ _).mono ?_; rintro e w1 ⟨rfl, b1⟩; have B1 := Lib.hid b1; clear b1)
      all_goals
        go_wp2
        go_roundw
        case rel => exact ⟨k + 1, by omega, by go_num, (show Below w.heap.size w wr.drew from below_drewN HR.out 1).trans (B1.out.mono (show w.heap.size ≤ wr.heap.size from HR.out.size))⟩
        case measure => simp [intOf]; omega
    · go_wp2_with fail
      go_ret
      exact ⟨rfl, HR.out⟩
theorem eqTokenS_none (a b : Option Addr) (ca cb : Nat) (w : World) :
    Calls Tryd.prog 20 #[.slice a 0 ca, .slice b 0 cb] w (SaysB w true) := by
  go_enter Tryd.func20, Tryd.ntmps20
  go_wp2
  refine wp_loop_rounds 1 ?_
  rw [rounds_succ]
  go_wp2
  go_ret
  exact ⟨rfl, Below.refl _ _⟩

/-! Marks. -/
/-- the digits of a number in front of a text -/
def mtF : Nat → Nat → ByteArray → ByteArray
  | 0, _, o => o
  | f + 1, k, o => if k = 0 then o else mtF f (k / 10) (strOfNums [48 + ((k % 10 : Nat) : Int)] ++ o)
/-- the text that marks with a number -/
def mtS (k : Nat) : ByteArray := (⟨#[109]⟩ : ByteArray) ++ mtF k k ⟨#[]⟩
def MtRel (w : World) (R : ByteArray) (i o : Value) (wr : World) : Prop := ∃ (f : Nat) (k : Int) (t : ByteArray), 0 ≤ k ∧ k.toNat ≤ f ∧ i = .int .i64 k ∧ o = .string t ∧ t.size + k ≤ 1000000 ∧ Hid (mtF f k.toNat t = R) ∧ Below w.heap.size w wr
theorem conv_any (w : World) (z : Int) : (convert 89 9 (.slice (some ⟨w.heap.size, 0, none⟩) 1 1)).run Tryd.prog (w.alloc (.cells #[.int .u8 z] 5)) = .ok (.string (strOfNums [z])) (w.alloc (.cells #[.int .u8 z] 5)) :=
  run_convert_bytes_arg (w.alloc (.cells #[.int .u8 z] 5)) 89 5 Tryd.underlying89 Tryd.underlying5 w.heap.size 0 1 1 [z] rfl
    (fun i hi => by
      obtain rfl : i = 0 := by omega
      rw [World.cell?_alloc_at _ _ _ _ rfl]
      rfl) 9 Tryd.underlying9
theorem str_one (z : Int) : (strOfNums [z]).size = 1 := by rw [strOfNums_size]; rfl
set_option maxHeartbeats 1600000 in
theorem markText_num (K : Int) (h1 : 1 ≤ K) (h9 : K ≤ 1000000) (w : World) :
    Calls Tryd.prog 52 #[.int .i64 K] w (SaysT w (mtS K.toNat)) := by
  obtain ⟨R, hR⟩ : ∃ R, mtF K.toNat K.toNat ⟨#[]⟩ = R := ⟨_, rfl⟩
  have H0 := Lib.hid hR
  have hS : mtS K.toNat = (⟨#[109]⟩ : ByteArray) ++ R := by unfold mtS; rw [hR]
  rw [hS]
  clear hR hS
  have d0 := not_le (show (0 : Int) < K by omega)
  go_enter Tryd.func52, Tryd.ntmps52
  go_wp2_with fail
  go_loopw [0, 3] (fun i o wr => MtRel w R i o wr) (fun i _ _ => (intOf i).toNat)
  case atStart => exact ⟨K.toNat, K, ⟨#[]⟩, by omega, Nat.le_refl _, rfl, rfl, (by show ((0 : Nat) : Int) + K ≤ 1000000; omega), H0, Below.refl _ _⟩
  case round =>
    obtain ⟨f, k, t, k0, hf, rfl, rfl, ht, HG, hb⟩ := hrel
    have HB := Lib.hid hb
    clear hb
    have hts : t.size ≤ 1000000 := by omega
    rcases Int.lt_or_eq_of_le k0 with hk | hk
    · obtain ⟨f', rfl⟩ : ∃ f', f = f' + 1 := ⟨f - 1, by omega⟩
      have HX : Hid (mtF f' (k.toNat / 10) (strOfNums [48 + ((k.toNat % 10 : Nat) : Int)] ++ t) = R) := Lib.hid (by rw [← HG.out]; conv => rhs; rw [mtF, if_neg (show ¬ k.toNat = 0 by omega)])
      have q9 : k ≤ 1000000 := by omega
      have hd : ((k.toNat % 10 : Nat) : Int) = k % 10 := by omega
      have hd2 : k.toNat / 10 = (k / 10).toNat := by omega
      have hd0 : 0 ≤ k % 10 := by omega
      have hd9 : k % 10 ≤ 9 := by omega
      have hq0 : 0 ≤ k / 10 := by omega
      have hlt : k / 10 + 1 ≤ k := by omega
      rw [hd, hd2] at HX
      have dk := is_lt hk
      have cv := conv_any
      have hz := str_one (48 + k % 10)
      clear hd hd2
      go_wp2_with fail
      go_roundw
      case rel => exact ⟨f', k / 10, strOfNums [48 + k % 10] ++ t, hq0, by omega, rfl, rfl, by rw [ByteArray.size_append, hz]; omega, HX, HB.out.alloc HB.out.size _⟩
      case measure => simp [intOf]; omega
    · have HX : Hid (t = R) := Lib.hid (by rw [← HG.out, ← hk]; cases f <;> simp [mtF])
      subst hk
      go_wp2_with fail
      go_ret
      exact ⟨ret_str (by rw [HX.out]), HB.out⟩
end Go.Proofs.YtnenfpbiobmlcaaDoor
