/- Bytes put together: slices.Grow, slices.Concat, pairs: contracts of the program. -/
import Derived.Test.YtgnobmmlmmbfcaaAtg
import Derived.Test.YtgnobmmlmmbfcaaAtd
import Derived.Test.YtgnobmmlmmbfcaaPto
import Derived.Lib.AppendZeros
import Derived.Laws.IdiomStrings
namespace Go.Proofs.Ytgnobmmlmmbfcaa
open Go.RowKit
set_option linter.unusedVariables false
set_option maxRecDepth 100000

/-- a row of bytes of the call's own -/
def OwnZ (w : World) (B : Nat) (v : Value) (X : List Int) : Prop := w.ownsRow B 5 1 v X.length (bv X)
def SaysZB (w : World) (X : List Int) (e : Ending) (w' : World) : Prop := ∃ v, e = .returned v ∧ OwnZ w' w.heap.size v X ∧ Below w.heap.size w w'
theorem bv_append (a b : List Int) : bv (a ++ b) = bv a ++ bv b := by simp [bv]
theorem wpList_append_nilz {P : Program} (w : World) {ops : Array Oper} {rest : List Oper} {o : Oper} {a : Act} {Q : Exit → Act → World → Prop} (hgd : o.guard = none) (s x : Operand) (t tn : TypeId)
    (ho : o.op = .call { callee := .builtin .append, args := #[s, x], argTypes := #[t, tn] })
    (e : TypeId) (i : TypeInfo) (z : Value) (k kn : IntKind) (ht : P.underlying t = some (.slice e)) (htn : P.underlying tn = some (.int kn)) (hi : P.info? e = some i) (hz : i.zero = some z)
    (n : Nat) (h0 : 0 < n) (hsz : 0 < i.size) (h63 : (n : Int) ≤ 9223372036854775807) (h48 : n * i.bytes ≤ 281474976710656)
    (hs : a.eval s = .slice none 0 0) (hx : a.eval x = .int k n)
    (h : wpList P ops Q rest (a.put o.dst (.slice (some ⟨w.heap.size, 0, none⟩) n (grownCap w n 0 e))) (w.drew.alloc (.cells (Builtin.zeroCells z.cells n ++ Builtin.zeroCells z.cells (grownCap w n 0 e - n)) e))) : wpList P ops Q (o :: rest) a w := by
  have hr := Lib.run_append_nil_zeros (P := P) w t tn o.type e i z k kn ht htn hi hz n h0 hsz h63 h48
  refine wpList_plain hgd fun K hK => ?_
  unfold Oper.wp execOp
  simp only [ho, resolve, invoke, builtin, Sem.run_bind, Sem.run_pure, Result.andThen_ok, List.map_toArray, List.map_cons, List.map_nil, hs, hx, hr]
  exact hK _ _ h
theorem grow_own (w : World) (n : Nat) (hn : n ≤ maxLen) : (w.drew.alloc (.cells (Builtin.zeroCells (Value.int .u8 0).cells n ++ Builtin.zeroCells (Value.int .u8 0).cells (grownCap w n 0 5 - n)) 5)).ownsRow w.heap.size 5 1 (.slice (some ⟨w.heap.size, 0, none⟩) 0 (grownCap w n 0 5)) 0 [] := by
  have hge := grownCap_ge w n 0 5
  refine ⟨rfl, .inr ⟨w.heap.size, _, _, rfl, Nat.le_refl _, heap_alloc_new w.drew _, Nat.zero_le _, grownCap_le_maxLen w n 0 5 hn, ?_, by simp⟩⟩
  rw [Array.size_append, size_zeroCells, size_zeroCells]
  show n * 1 + (grownCap w n 0 5 - n) * 1 = grownCap w n 0 5 * 1
  omega
def Slc (w : World) (g j : Nat) (b n c : Nat) : Prop := w.cell? ⟨g, j, none⟩ = some (.slice (some ⟨b, 0, none⟩) n c)
theorem off_news1 {w w1 : World} {g : Nat} {xs : List Value} (h : OffC w g 0 xs) (b : Below w.heap.size w w1) : ∀ j u, xs[j]? = some u → w1.cell? ((⟨g, 0, none⟩ : Addr).add j) = some u := off_news h b
theorem bv_one (X : List Int) : ∀ u ∈ bv X, u.oneCell' = true := u8_one X
theorem snocZ {w wx w1 : World} {B : Nat} {v v' : Value} {X Y : List Int} {m : Nat} (hm : Y.length = m) (hb : Below B w wx) (h' : w1.ownsRow B 5 1 v' (X.length + m) (bv X ++ bv Y)) (hB : B ≤ wx.heap.size) (hg : wx.grownBy w1 v.ownBlock) (hl : ∀ g, v.ownBlock = some g → B ≤ g) :
    OwnZ w1 B v' (X ++ Y) ∧ Below B w w1 := by
  refine ⟨?_, hb.grown hg hB hl⟩
  unfold OwnZ
  rw [List.length_append, hm, bv_append]
  exact h'
end Go.Proofs.Ytgnobmmlmmbfcaa
