/- Texts of tokens joined: plain facts, and the model's tkJoin. -/
import Derived.Test.YtdmcgjohpnojkaaDoorTki
import Derived.Lib.Join
namespace Go.Proofs.YtdmcgjohpnojkaaDoor
set_option maxRecDepth 100000
open Go.RowKit
set_option linter.unusedVariables false

/-- the bytes of the first tokens' texts, single blanks between -/
def jL (l : List Tok) (k : Nat) : List UInt8 := Lib.join ((l.take k).map fun x => x.t.data.toList) [32]
def jS (l : List Tok) (k : Nat) : ByteArray := ⟨(jL l k).toArray⟩
theorem join_snoc (x : List UInt8) (r : List (List UInt8)) (y : List UInt8) : Lib.join ((x :: r) ++ [y]) [32] = Lib.join (x :: r) [32] ++ ([32] ++ y) := by
  rw [List.cons_append, Lib.join_cons, Lib.join_cons]
  unfold Lib.joinTail
  simp
theorem jL_one (l : List Tok) (h : 0 < l.length) (x : Tok) (hx : l.getD 0 tok0 = x) : jL l 1 = x.t.data.toList := by
  subst hx
  match l, h with
  | a :: r, _ => simp [jL, Lib.join_one]
theorem jL_more (l : List Tok) (k : Nat) (h0 : 0 < k) (h : k < l.length) (x : Tok) (hx : l.getD k tok0 = x) : jL l (k + 1) = jL l k ++ ([32] ++ x.t.data.toList) := by
  have hl : l[k] = x := by rw [← hx]; simp [List.getD_eq_getElem?_getD, h]
  unfold jL
  rw [List.take_succ_eq_append_getElem h, List.map_append, hl]
  match l, h with
  | a :: r, h =>
    obtain ⟨j, rfl⟩ : ∃ j, k = j + 1 := ⟨k - 1, by omega⟩
    simp only [List.take_succ_cons, List.map_cons, List.map_nil]
    exact join_snoc _ _ _
theorem jS_zero (l : List Tok) : jS l 0 = ⟨#[]⟩ := rfl
theorem jS_one (l : List Tok) (h : 0 < l.length) (x : Tok) (hx : l.getD 0 tok0 = x) : (⟨#[]⟩ : ByteArray) ++ x.t = jS l 1 := by
  unfold jS
  rw [jL_one l h x hx]
  apply ByteArray.ext
  simp [ByteArray.data_append]
theorem jS_more (l : List Tok) (k : Nat) (h0 : 0 < k) (h : k < l.length) (x : Tok) (hx : l.getD k tok0 = x) : (jS l k ++ (⟨#[32]⟩ : ByteArray)) ++ x.t = jS l (k + 1) := by
  unfold jS
  rw [jL_more l k h0 h x hx]
  apply ByteArray.ext
  apply Array.toList_inj.1
  simp [ByteArray.data_append]
theorem jS_size (l : List Tok) (HZ : SzT l) : ∀ k, k ≤ l.length → (jS l k).size ≤ k * 1048577
  | 0, _ => by rw [jS_zero]; exact Nat.zero_le _
  | k + 1, h => by
    have ih := jS_size l HZ k (by omega)
    have hz := HZ k (by omega)
    rcases Nat.eq_zero_or_pos k with rfl | h0
    · rw [← jS_one l (by omega) _ rfl, ByteArray.size_append]
      have : (⟨#[]⟩ : ByteArray).size = 0 := rfl
      omega
    · rw [← jS_more l k h0 (by omega) _ rfl, ByteArray.size_append, ByteArray.size_append]
      have : (⟨#[32]⟩ : ByteArray).size = 1 := rfl
      omega
def JnRel (w : World) (l : List Tok) (n : Nat) (o i : Value) (wr : World) : Prop := ∃ k : Nat, k ≤ n ∧ i = .int .i64 k ∧ o = .string (jS l k) ∧ Below w.heap.size w wr
set_option maxHeartbeats 1600000 in
theorem tkJoin_go (g n c : Nat) (l : List Tok) (w : World) (HA : Hid (ToksAt w g l)) (hn : Hid (l.length = n)) (hg : g < w.heap.size) (hm : n ≤ 600) (HZ : Hid (SzT l)) :
    Calls Tryd.prog 87 #[.slice (some ⟨g, 0, none⟩) n c] w (SaysT w (jS l n)) := by
  go_enter Tryd.func87, Tryd.ntmps87
  go_wp2_with fail
  go_loopw [3, 8] (fun o i wr => JnRel w l n o i wr) (fun _ i _ => n - (intOf i).toNat)
  case atStart => exact ⟨0, Nat.zero_le _, rfl, rfl, Below.refl _ _⟩
  case round =>
    obtain ⟨k, hk, rfl, rfl, hb⟩ := hrel
    have HR := Lib.hid hb
    by_cases hlt : k < n
    · obtain ⟨x, hx⟩ : ∃ x, l.getD k tok0 = x := ⟨_, rfl⟩
      have hl1 : k < l.length := by rw [hn.out]; exact hlt
      obtain ⟨a0, a1, a2, a3⟩ := (HA.out.below hb hg).four k hl1 x hx
      have hz := HZ.out k hl1
      rw [hx] at hz
      have hjz := jS_size l HZ.out k (by omega)
      have hj1 : (jS l k).size ≤ 629146200 := by
        have : k * 1048577 ≤ 600 * 1048577 := Nat.mul_le_mul_right _ (by omega)
        omega
      have hs1 : (⟨#[32]⟩ : ByteArray).size = 1 := rfl
      rcases Nat.eq_zero_or_pos k with hk0 | hk0
      · have HJ := Lib.hid (jS_one l (by omega) x (by rw [← hk0]; exact hx))
        subst hk0
        obtain ⟨xk, xa, xt, xv⟩ := x
        have hz2 : xt.size ≤ 1048576 := hz
        clear hz
        have HS : Hid (jS l 0 ++ xt = jS l (0 + 1)) := Lib.hid HJ.out
        obtain ⟨J, hJ⟩ : ∃ J, jS l 0 = J := ⟨_, rfl⟩
        rw [hJ] at HS hj1
        clear hb hx hl1 hjz HJ hs1
        rw [hJ]
        clear hJ
        go_wp2_with fail
        go_roundw
        case rel => exact ⟨0 + 1, by omega, by go_num, by rw [← HS.out], HR.out.alloc HR.out.size _⟩
        case measure => simp [intOf]; omega
      · have HJ := Lib.hid (jS_more l k hk0 hl1 x hx)
        obtain ⟨xk, xa, xt, xv⟩ := x
        have hz2 : xt.size ≤ 1048576 := hz
        clear hz
        obtain ⟨J, hJ⟩ : ∃ J, jS l k = J := ⟨_, rfl⟩
        rw [hJ] at HJ hj1
        clear hb hx hl1 hjz
        rw [hJ]
        clear hJ
        have hsz : (J ++ (⟨#[32]⟩ : ByteArray)).size = J.size + 1 := by rw [ByteArray.size_append, hs1]
        go_wp2_with fail
        go_roundw
        case rel => exact ⟨k + 1, by omega, by go_num, by rw [← HJ.out], HR.out.alloc HR.out.size _⟩
        case measure => simp [intOf]; omega
    · obtain rfl : k = n := by omega
      clear hb
      go_wp2_with fail
      go_ret
      exact ⟨rfl, HR.out⟩
theorem tkJoin_none (a : Option Addr) (c : Nat) (w : World) :
    Calls Tryd.prog 87 #[.slice a 0 c] w (SaysT w ⟨#[]⟩) := by
  go_enter Tryd.func87, Tryd.ntmps87
  go_wp2
  refine wp_loop_rounds 1 ?_
  rw [rounds_succ]
  go_wp2
  go_ret
  exact ⟨rfl, Below.refl _ _⟩
theorem tkJoin_any (v : Value) (l : List Tok) (w : World) (h : Hid (SlT w v l)) (HZ : Hid (SzT l)) (hm : l.length ≤ 600) :
    Calls Tryd.prog 87 #[v] w (SaysT w (jS l l.length)) := by
  rcases h.out with ⟨hl, ad, c, hv⟩ | ⟨g, c, hv, ht, hg⟩
  · rw [hv, hl]; exact tkJoin_none _ _ w
  · rw [hv]; exact tkJoin_go g l.length c l w ht rfl hg hm HZ
end Go.Proofs.YtdmcgjohpnojkaaDoor
