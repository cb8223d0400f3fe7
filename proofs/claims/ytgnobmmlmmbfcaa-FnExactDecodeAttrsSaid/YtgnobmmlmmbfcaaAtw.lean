/- Attributes wrapped: contracts of both sides. -/
import Derived.Test.YtgnobmmlmmbfcaaAtd
namespace Go.Proofs.Ytgnobmmlmmbfcaa
open Go.RowKit
set_option linter.unusedVariables false
set_option maxRecDepth 100000

def hdA (t : Int) : At := ⟨1, t, true, ⟨#[]⟩⟩
def wrA (t : Int) (l : List At) : List At := hdA t :: mvA 1 l
theorem wrA_length (t : Int) (l : List At) : (wrA t l).length = l.length + 1 := by simp [wrA, mvA_length]
theorem wrA_get (t : Int) (l : List At) (k : Nat) (h : k < l.length) : gA (wrA t l) (k + 1) = ⟨(gA l k).d + 1, (gA l k).t, (gA l k).n, (gA l k).s⟩ := by
  unfold wrA mvA gA; simp [List.getD_eq_getElem?_getD, h]
theorem wrA_szm {t : Int} {l : List At} (h : SzM l) : SzM (wrA t l) := fun k hk => by
  rw [wrA_length] at hk
  match k, hk with
  | 0, _ => show (0 : Nat) ≤ _; omega
  | k + 1, hk => rw [wrA_get t l k (by omega)]; exact h k (by omega)
def okW (t : Int) (l : List At) : Bool := lsA l && lsA (wrA t l)
def resW (t : Int) (l : List At) : List At := if okW t l then wrA t l else []
theorem resW_len (t : Int) (l : List At) : (resW t l).length ≤ 400 := by
  unfold resW
  split
  · rename_i h
    unfold okW at h
    exact (va (Bool.and_eq_true_iff.1 h).2).len
  · simp
theorem hd_own (w : World) (t : Int) (B : Nat) (hB : B ≤ w.heap.size) : OwnA (w.alloc (.cells #[.int .i64 1, .int .i64 t, .bool true, .string ⟨#[]⟩] 35)) B (.slice (some ⟨w.heap.size, 0, none⟩) 1 1) [hdA t] :=
  World.ownsRow_lit (base := B) (e := 35) (size := 4) w #[.int .i64 1, .int .i64 t, .bool true, .string ⟨#[]⟩] 1 hB (by unfold maxLen; omega) rfl
def TwRel (w : World) (t : Int) (l : List At) (n : Nat) (out i : Value) (wr : World) : Prop :=
  ∃ k : Nat, k ≤ n ∧ i = .int .i64 k ∧ BX w wr ∧ OwnA wr w.heap.size out (wrA t (l.take k))
theorem wrA_take {l : List At} {k : Nat} (t : Int) (h : k < l.length) : wrA t (l.take (k + 1)) = wrA t (l.take k) ++ [⟨(gA l k).d + 1, (gA l k).t, (gA l k).n, (gA l k).s⟩] := by
  unfold wrA; rw [mvA_take 1 h]; rfl
theorem wpList_append_src {P : Program} (w : World) {ops : Array Oper} {rest : List Oper} {o : Oper} {a : Act} {Q : Exit → Act → World → Prop} (hgd : o.guard = none) (s x : Operand) (t : TypeId)
    (ho : o.op = .call { callee := .builtin .append, args := #[s, x], argTypes := #[t, t] })
    (base : Nat) (e : TypeId) (i : TypeInfo) (z : Value) (size bytes : Nat) (ht : P.underlying t = some (.slice e)) (hi : P.info? e = some i) (hz : i.zero = some z)
    (hsize : i.size = size) (hby : i.bytes = bytes) (hzs : z.cells.size = size) (hsz : 0 < size)
    (v : Value) (n : Nat) (xs : List Value) (hs : a.eval s = v) (hown : w.ownsRow base e size v n xs)
    (B2 : Nat) (src : Value) (m : Nat) (news : List Value) (hx : a.eval x = src) (hsrc : w.ownsRow B2 e size src m news) (h1 : ∀ u ∈ news, u.oneCell' = true)
    (h63 : n + m ≤ maxLen) (hbytes : (n + m) * bytes ≤ 140737488355328) (hbase : base ≤ w.heap.size)
    (h : ∀ v' w', w'.ownsRow base e size v' (n + m) (xs ++ news) → w.grownBy w' v.ownBlock → (v'.ownBlock = v.ownBlock ∨ v'.ownBlock = some w.heap.size) → wpList P ops Q rest (a.put o.dst v') w') : wpList P ops Q (o :: rest) a w := by
  obtain ⟨v', w', hr, h2, h3, h5⟩ : ∃ v' w', (Builtin.append_ #[t, t] o.type #[v, src]).run P w = .ok v' w' ∧ w'.ownsRow base e size v' (n + m) (xs ++ news) ∧ w.grownBy w' v.ownBlock ∧ (v'.ownBlock = v.ownBlock ∨ v'.ownBlock = some w.heap.size) := by
    rcases hsrc.2 with ⟨rfl, rfl⟩ | ⟨g, cap, cur, rfl, _⟩
    · obtain rfl : news = [] := List.eq_nil_of_length_eq_zero (by have := hsrc.1; omega)
      exact ⟨v, w, run_append_owned_none w base t o.type e i size ht hi v n xs hown, by simpa using hown, ⟨rfl, rfl, rfl, Nat.le_refl _, fun _ _ _ => rfl⟩, .inl rfl⟩
    · obtain ⟨v', w', hr, h2, h3, _, h5⟩ := run_append_own_at (P := P) w base t o.type e i z size bytes ht hi hz hsize hby hzs hsz v n xs hown ⟨g, 0, none⟩ m cap news hsrc.1 (own_news hsrc) h1 h63 hbytes hbase
      exact ⟨v', w', hr, h2, h3, h5⟩
  refine wpList_plain hgd fun K hK => ?_
  unfold Oper.wp execOp
  simp only [ho, resolve, invoke, builtin, Sem.run_bind, Sem.run_pure, Result.andThen_ok, List.map_toArray, List.map_cons, List.map_nil, hs, hx, hr]
  exact hK _ _ (h v' w' h2 h3 h5)
end Go.Proofs.Ytgnobmmlmmbfcaa
