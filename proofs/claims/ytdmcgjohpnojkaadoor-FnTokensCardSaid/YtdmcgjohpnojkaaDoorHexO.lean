/- HexOf: the program's side. -/
import Derived.Test.YtdmcgjohpnojkaaDoorHexT
import Derived.Lib.SlBytesConst
namespace Go.Proofs.YtdmcgjohpnojkaaDoor
set_option maxRecDepth 100000
open Go.RowKit

theorem i64_and15 (n : Int) : bits .and .i64 n 15 = n % 16 := by
  have h15 : (BitVec.ofInt 64 15).toNat = 2 ^ 4 - 1 := by decide
  have key : (BitVec.ofInt 64 n &&& BitVec.ofInt 64 15).toNat = (n % ((2 ^ 64 : Nat) : Int)).toNat % 2 ^ 4 := by
    rw [BitVec.toNat_and, BitVec.toNat_ofInt, h15, Nat.and_two_pow_sub_one_eq_mod]
  show IntKind.i64.wrap ((BitVec.ofInt 64 n &&& BitVec.ofInt 64 15).toNat : Nat) = n % 16
  rw [key, IntKind.wrap_i64]
  omega
theorem hex_atN : ∀ (k : Nat), k < 16 → (p : k < hexB.size) → ((hexB[k]'p).toNat : Int) = hdI (k : Int)
  | 0, _, p => rfl
  | 1, _, p => rfl
  | 2, _, p => rfl
  | 3, _, p => rfl
  | 4, _, p => rfl
  | 5, _, p => rfl
  | 6, _, p => rfl
  | 7, _, p => rfl
  | 8, _, p => rfl
  | 9, _, p => rfl
  | 10, _, p => rfl
  | 11, _, p => rfl
  | 12, _, p => rfl
  | 13, _, p => rfl
  | 14, _, p => rfl
  | 15, _, p => rfl
  | k + 16, h, _ => absurd h (by omega)
theorem hex_at (k : Int) (h0 : 0 ≤ k) (h1 : k < 16) (p : k.toNat < hexB.size) : ((hexB[k.toNat]'p).toNat : Int) = hdI k := by
  obtain ⟨m, rfl⟩ := Int.eq_ofNat_of_zero_le h0
  exact hex_atN m (by omega) p
theorem hdI_bd (k : Int) (h0 : 0 ≤ k) (h1 : k < 16) : 48 ≤ hdI k ∧ hdI k ≤ 102 := by
  unfold hdI; split <;> omega
/-- a text is made of a row of bytes -/
theorem back_str {w : World} {B g n cap : Nat} {zs : List Int} (h : OwnB w B g n cap zs) (hr : ∀ c ∈ zs, 0 ≤ c ∧ c ≤ 255) :
    (convert 22 9 (.slice (some ⟨g, 0, none⟩) n cap)).run Tryd.prog w = .ok (.string (strOfNums zs)) w :=
  run_convert_bytes_arg w 22 5 Tryd.underlying22 Tryd.underlying5 g 0 n cap zs h.len (fun i hi => (h.row hr).1 i (by rw [h.len]; exact hi)) 9 Tryd.underlying9

/-- the digits so far, behind the prefix -/
def htxt (n c i : Nat) : List Int := 48 :: 120 :: hexC (n / 16 ^ i) (c - i)
theorem htxt_step (n c i : Nat) (h : i < c) : htxt n c (i + 1) ++ [hdI (((n : Int) / 16 ^ i) % 16)] = htxt n c i := by
  obtain ⟨d, hd⟩ : ∃ d, c - i = d + 1 := ⟨c - i - 1, by omega⟩
  have e : c - (i + 1) = d := by omega
  unfold htxt
  rw [hd, e, hexC, Nat.pow_succ, ← Nat.div_div_eq_div_mul]
  rfl
theorem hexC_range (c : Nat) : ∀ n : Nat, ∀ x ∈ hexC n c, 0 ≤ x ∧ x ≤ 255 := by
  induction c with
  | zero => intro n x hx; simp [hexC] at hx
  | succ c ih =>
    intro n x hx
    simp only [hexC, List.mem_append, List.mem_singleton] at hx
    rcases hx with hx | rfl
    · exact ih _ x hx
    · have := hdI_bd ((n % 16 : Nat) : Int) (by omega) (by omega)
      omega
theorem htxt_range (n c i : Nat) : ∀ x ∈ htxt n c i, 0 ≤ x ∧ x ≤ 255 := by
  intro x hx
  simp only [htxt, List.mem_cons] at hx
  rcases hx with rfl | rfl | hx
  · omega
  · omega
  · exact hexC_range _ _ x hx
theorem hexC_length (c : Nat) : ∀ n : Nat, (hexC n c).length = c := by
  induction c with
  | zero => intro n; rfl
  | succ c ih => intro n; simp [hexC, ih]
theorem htxt_length (n c i : Nat) : (htxt n c i).length = 2 + (c - i) := by simp [htxt, hexC_length]; omega

theorem two_olds {w wr : World} {o : Obj} (h0 : wr.cell? ⟨w.heap.size, 0, none⟩ = some (.int .u8 48)) (h1 : wr.cell? ⟨w.heap.size, 1, none⟩ = some (.int .u8 120)) (hsz : w.heap.size < wr.heap.size) :
    ∀ b, (some (⟨w.heap.size, 0, none⟩ : Addr)) = some b → ∀ j u, (bv [48, 120])[j]? = some u → (wr.alloc o).cell? (b.add j) = some u := by
  intro b hb j u hj
  cases hb
  match j, hj with
  | 0, hj =>
    simp [bv] at hj; subst hj
    rw [show (⟨w.heap.size, 0, none⟩ : Addr).add 0 = ⟨w.heap.size, 0, none⟩ by simp [Addr.add], World.cell?_alloc_past _ _ _ hsz]
    exact h0
  | 1, hj =>
    simp [bv] at hj; subst hj
    rw [show (⟨w.heap.size, 0, none⟩ : Addr).add 1 = ⟨w.heap.size, 1, none⟩ by simp [Addr.add], World.cell?_alloc_past _ _ _ hsz]
    exact h1
  | j + 2, hj => simp [bv] at hj
theorem row_base {w : World} {B B' n : Nat} {v : Value} {xs : List Value} (h : w.ownsRow B 5 1 v n xs) (hB : B' ≤ B) : w.ownsRow B' 5 1 v n xs := by
  obtain ⟨h1, h2⟩ := h
  refine ⟨h1, ?_⟩
  rcases h2 with h2 | ⟨g', cap', cur, a, b, c, d⟩
  · exact .inl h2
  · exact .inr ⟨g', cap', cur, a, Nat.le_trans hB b, c, d⟩
theorem shift4 (n : Int) (k : Nat) : n / 2 ^ (4 * k) = n / 16 ^ k := by
  rw [Int.pow_mul]
  rfl
/-- the text so far: the prefix as it was laid, or a row of the call's own -/
def Txt (w : World) (n c j : Nat) (v : Value) (wr : World) : Prop :=
  (j = c ∧ v = .slice (some ⟨w.heap.size, 0, none⟩) 2 2 ∧ wr.cell? ⟨w.heap.size, 0, none⟩ = some (.int .u8 48) ∧ wr.cell? ⟨w.heap.size, 1, none⟩ = some (.int .u8 120)) ∨
  (j < c ∧ OwnV wr w.heap.size v (2 + (c - j)) (htxt n c j))
def HexRel (w : World) (n c : Nat) (v i : Value) (wr : World) : Prop :=
  ∃ (j : Nat) (i' : Int), j ≤ c ∧ i = .int .i64 i' ∧ i' + 1 = j ∧ Txt w n c j v wr ∧ Below w.heap.size w wr ∧ w.heap.size < wr.heap.size
def SaysStr (w : World) (s : ByteArray) (e : Ending) (w' : World) : Prop := e = .returned (.tuple #[.string s, .bool true]) ∧ Below w.heap.size w w'
theorem htxt_first (n c : Nat) (h : 0 < c) : bv [48, 120] ++ [.int .u8 (hdI ((n : Int) / 2 ^ (4 * (c - 1)) % 16))] = bv (htxt n c (c - 1)) := by
  have e := htxt_step n c (c - 1) (by omega)
  rw [shift4, ← e, show c - 1 + 1 = c by omega]
  simp [bv, htxt, hexC]

def SaysStrB (w : World) (s : ByteArray) (b : Bool) (e : Ending) (w' : World) : Prop := e = .returned (.tuple #[.string s, .bool b]) ∧ Below w.heap.size w w'
end Go.Proofs.YtdmcgjohpnojkaaDoor
