/- The binary form of attributes: plain functions; the model's. -/
import Derived.Test.YtgnobmmlmmbfcaaAtz
import Derived.Test.YtgnobmmlmmbfcaaAtn
namespace Go.Proofs.Ytgnobmmlmmbfcaa
open Go.RowKit
set_option linter.unusedVariables false
set_option maxRecDepth 100000

def nmL (s : ByteArray) : List Int := s.data.toList.map (fun x => (x.toNat : Int))
theorem nmL_length (s : ByteArray) : (nmL s).length = s.size := by unfold nmL; rw [List.length_map, Array.length_toList]; rfl
theorem nmL_back (s : ByteArray) : strOfNums (nmL s) = s := by
  obtain ⟨⟨l⟩⟩ := s
  unfold strOfNums nmL
  simp [Function.comp_def]
theorem str_app (a b : List Int) : strOfNums a ++ strOfNums b = strOfNums (a ++ b) := by
  apply ByteArray.ext
  apply Array.toList_inj.1
  simp [strOfNums, ByteArray.data_append]
def prL (n : Int) : List Int := [n % 256, n / 256]
theorem prL_size (n : Int) : (strOfNums (prL n)).size = 2 := by rw [strOfNums_size]; rfl
def kdI (x : At) : Int := if x.n then x.t + 32768 else x.t
def inA (l : List At) (k : Nat) : Nat := ofA l (enA l k) - ofA l (k + 1)
def zrL (k : Nat) : List Int := List.replicate k 0
def rcL (l : List At) (k : Nat) : List Int := prL ((4 + (gA l k).s.size + inA l k : Nat) : Int) ++ prL (kdI (gA l k)) ++ nmL (gA l k).s ++ zrL (padA (4 + (gA l k).s.size) - (4 + (gA l k).s.size))
def caL (l : List At) : Nat → Nat → List Int
  | _, 0 => []
  | p, f + 1 => rcL l p ++ caL l (p + 1) f
theorem caL_add (l : List At) : ∀ a b p, caL l p (a + b) = caL l p a ++ caL l (p + a) b
  | 0, b, p => by rw [Nat.zero_add]; rfl
  | a + 1, b, p => by
    rw [show a + 1 + b = (a + b) + 1 by omega, caL, caL, caL_add l a b (p + 1), List.append_assoc, show p + 1 + a = p + (a + 1) by omega]
def enL (l : List At) (p q : Nat) : List Int := caL l p (q - p)
theorem enL_add (l : List At) {p q r : Nat} (h : p ≤ q) (h2 : q ≤ r) : enL l p r = enL l p q ++ enL l q r := by
  unfold enL
  rw [show r - p = (q - p) + (r - q) by omega, caL_add, show p + (q - p) = q by omega]
theorem enL_same (l : List At) (p : Nat) : enL l p p = [] := by unfold enL; rw [Nat.sub_self]; rfl
theorem enL_one (l : List At) (p : Nat) : enL l p (p + 1) = rcL l p := by
  unfold enL; rw [show p + 1 - p = 0 + 1 by omega, caL, caL, List.append_nil]
theorem pad_ge (n : Nat) : n ≤ padA n := by unfold padA; omega
theorem rcL_length (l : List At) (k : Nat) : (rcL l k).length = padA (4 + (gA l k).s.size) := by
  have := pad_ge (4 + (gA l k).s.size)
  unfold rcL prL zrL
  simp only [List.length_append, List.length_cons, List.length_nil, nmL_length, List.length_replicate]
  omega
theorem caL_length (l : List At) : ∀ f p, p + f ≤ l.length → (caL l p f).length + ofA l p = ofA l (p + f)
  | 0, p, _ => by simp [caL]
  | f + 1, p, h => by
    have ih := caL_length l f (p + 1) (by omega)
    have e := ofA_succ (show p < l.length by omega)
    rw [caL, List.length_append, rcL_length, show p + (f + 1) = p + 1 + f by omega]
    omega
theorem enL_length (l : List At) {p q : Nat} (h : p ≤ q) (hq : q ≤ l.length) : (enL l p q).length = ofA l q - ofA l p := by
  have := caL_length l (q - p) p (by omega)
  rw [show p + (q - p) = q by omega] at this
  unfold enL
  omega
theorem in_flat {l : List At} (V : Va l) {i : Nat} (hi : i < l.length) (hn : (gA l i).n = false) : inA l i = 0 := by
  unfold inA; rw [en_flat V hi hn]; omega
/-- one that is not nested -/
theorem one_flat {l : List At} (V : Va l) {i : Nat} (hi : i < l.length) (hn : (gA l i).n = false) :
    enL l i (enA l i) = prL ((4 + (gA l i).s.size : Nat) : Int) ++ prL (gA l i).t ++ nmL (gA l i).s ++ zrL (padA (4 + (gA l i).s.size) - (4 + (gA l i).s.size)) := by
  rw [en_flat V hi hn, enL_one]
  unfold rcL kdI
  rw [in_flat V hi hn, hn]
  simp
theorem one_nest {l : List At} (V : Va l) {i : Nat} (hi : i < l.length) (hn : (gA l i).n = true) :
    enL l i (enA l i) = prL ((4 + (enL l (i + 1) (enA l i)).length : Nat) : Int) ++ prL ((gA l i).t + 32768) ++ enL l (i + 1) (enA l i) := by
  obtain ⟨a, b, _⟩ := enA_is hi
  have hz := V.nz i hi hn
  rw [enL_add l (show i ≤ i + 1 by omega) a, enL_one, enL_length l a b]
  unfold rcL kdI inA
  rw [hn, hz]
  have e0 : nmL (gA l i).s = [] := List.eq_nil_of_length_eq_zero (by rw [nmL_length]; exact hz)
  rw [e0]
  simp [zrL, padA]
/-! The model. -/
theorem conv_two (w : World) (a b : Int) : (convert 47 9 (.slice (some ⟨w.heap.size, 0, none⟩) 2 2)).run Try.prog (w.alloc (.cells #[.int .u8 a, .int .u8 b] 5)) = .ok (.string (strOfNums [a, b])) (w.alloc (.cells #[.int .u8 a, .int .u8 b] 5)) :=
  run_convert_bytes_arg (w.alloc (.cells #[.int .u8 a, .int .u8 b] 5)) 47 5 Try.underlying47 Try.underlying5 w.heap.size 0 2 2 [a, b] rfl
    (fun i hi => by
      rcases (show i = 0 ∨ i = 1 by omega) with rfl | rfl <;> rw [World.cell?_alloc_at _ _ _ _ rfl] <;> rfl) 9 Try.underlying9
theorem ofA_mod (l : List At) (k : Nat) : ofA l k % 4 = 0 := by
  unfold ofA
  generalize l.take k = m
  induction m with
  | nil => rfl
  | cons x r ih =>
    rw [List.map_cons, List.sum_cons]
    have : padA (4 + x.s.size) % 4 = 0 := by unfold padA; omega
    omega
def ZsRel (w : World) (X : List Int) (m : Nat) (v : Value) (wr : World) : Prop := ∃ (j : Nat) (t : ByteArray), j ≤ m ∧ v = .string t ∧ Hid (t = strOfNums (X ++ zrL j)) ∧ t.size = X.length + j ∧ BX w wr
theorem zrL_succ (k : Nat) : zrL (k + 1) = zrL k ++ [0] := by unfold zrL; rw [List.replicate_succ']
def AsRel (w : World) (l : List At) (p q : Nat) (t v : Value) (wr : World) : Prop := ∃ (k : Nat) (T : ByteArray), p ≤ k ∧ Hid (Thru l k q) ∧ v = .int .i64 k ∧ t = .string T ∧ Hid (T = strOfNums (enL l p k)) ∧ T.size ≤ 6000 ∧ BX w wr
def okE (l : List At) : Bool := lsA l && decide (ofA l l.length ≤ 6000)
def resE (l : List At) : ByteArray := if okE l then strOfNums (enL l 0 l.length) else ⟨#[]⟩
theorem ret_sb {a b : ByteArray} {p q : Bool} (h : a = b) (h' : p = q) : Ending.returned (.tuple #[.string a, .bool p]) = .returned (.tuple #[.string b, .bool q]) := by rw [h, h']
end Go.Proofs.Ytgnobmmlmmbfcaa
