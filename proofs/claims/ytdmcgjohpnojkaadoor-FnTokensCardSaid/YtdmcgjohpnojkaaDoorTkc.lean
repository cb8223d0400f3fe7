/- Tokens and faults compared by the laws; a token and a fault in memory of the call's own. Tokens of a text: lists of tokens in memory of the call's own; contracts of tkAll and TokensOf, program and model. -/
import Derived.Test.YtdmcgjohpnojkaaDoorTkb
import Derived.Test.YtdmcgjohpnojkaaDoorSbm
import Derived.Deep.AppendLies
namespace Go.Proofs.YtdmcgjohpnojkaaDoor
set_option maxRecDepth 100000
open Go.RowKit

/-- a token in block g, a fault in the block behind it -/
def Pair (w : World) (g : Nat) (k b t v f x : Value) : Prop :=
  (w.cell? ⟨g, 0, none⟩ = some k ∧ w.cell? ⟨g, 1, none⟩ = some b ∧ w.cell? ⟨g, 2, none⟩ = some t ∧ w.cell? ⟨g, 3, none⟩ = some v) ∧ (w.cell? ⟨g + 1, 0, none⟩ = some f ∧ w.cell? ⟨g + 1, 1, none⟩ = some x)
theorem Pair.below {w w' : World} {B g : Nat} {k b t v f x : Value} (h : Pair w g k b t v f x) (hb : Below B w w') (hg : g + 1 < B) : Pair w' g k b t v f x := by
  obtain ⟨⟨h0, h1, h2, h3⟩, h4, h5⟩ := h
  exact ⟨⟨(hb.cell (p := ⟨g, 0, none⟩) (by simp; omega)).trans h0, (hb.cell (p := ⟨g, 1, none⟩) (by simp; omega)).trans h1, (hb.cell (p := ⟨g, 2, none⟩) (by simp; omega)).trans h2, (hb.cell (p := ⟨g, 3, none⟩) (by simp; omega)).trans h3⟩, (hb.cell (p := ⟨g + 1, 0, none⟩) (by simp; omega)).trans h4, (hb.cell (p := ⟨g + 1, 1, none⟩) (by simp; omega)).trans h5⟩
theorem pair_new {w1 wr : World} {k b t v f x : Value} {T T' : TypeId} (h : (w1.alloc (.cells #[k, b, t, v] T)).alloc (.cells #[f, x] T') = wr) : Pair wr w1.heap.size k b t v f x ∧ Below w1.heap.size w1 wr ∧ w1.heap.size + 1 < wr.heap.size := by
  subst h
  refine ⟨⟨⟨?_, ?_, ?_, ?_⟩, ?_, ?_⟩, two_new _ _ _, by simp⟩ <;> simp [go_sem]
/-- the same behind two allocations, cell by cell: for the walk -/
theorem pair_later {w2 : World} {g : Nat} {k b t v f x : Value} (h : Pair w2 g k b t v f x) (hz : g + 1 < w2.heap.size) :
    ((∀ o o', ((w2.alloc o).alloc o').cell? ⟨g, 0, none⟩ = some k) ∧ (∀ o o', ((w2.alloc o).alloc o').cell? ⟨g, 1, none⟩ = some b) ∧ (∀ o o', ((w2.alloc o).alloc o').cell? ⟨g, 2, none⟩ = some t) ∧ (∀ o o', ((w2.alloc o).alloc o').cell? ⟨g, 3, none⟩ = some v)) ∧
    ((∀ o o', ((w2.alloc o).alloc o').cell? ⟨g + 1, 0, none⟩ = some f) ∧ (∀ o o', ((w2.alloc o).alloc o').cell? ⟨g + 1, 1, none⟩ = some x)) :=
  have q := fun o o' => h.below (two_new w2 o o') hz
  ⟨⟨fun o o' => (q o o').1.1, fun o o' => (q o o').1.2.1, fun o o' => (q o o').1.2.2.1, fun o o' => (q o o').1.2.2.2⟩, fun o o' => (q o o').2.1, fun o o' => (q o o').2.2⟩
theorem taV_form (s : ByteArray) (a : Int) : ∃ (k b v n f g : Int) (t : ByteArray) (o : Bool), taV s a = .tuple #[.agg #[.int .i64 k, .int .i64 b, .string t, .int .i64 v], .int .i64 n, .agg #[.int .i64 f, .int .i64 g], .bool o] := by
  unfold taV
  split
  · exact ⟨_, _, _, _, _, _, _, _, rfl⟩
  · exact ⟨0, 0, 0, 0, 0, 0, ⟨#[]⟩, false, rfl⟩
end Go.Proofs.YtdmcgjohpnojkaaDoor

namespace Go.Proofs.YtdmcgjohpnojkaaDoor
open Go.RowKit

/-- a token in a list -/
structure Tok where
  k : Int
  a : Int
  t : ByteArray
  v : Int
def tkC (x : Tok) : List Value := [.int .i64 x.k, .int .i64 x.a, .string x.t, .int .i64 x.v]
def tkCs (l : List Tok) : List Value := l.flatMap tkC
theorem tkCs_length (l : List Tok) : (tkCs l).length = l.length * 4 := by
  unfold tkCs
  induction l with
  | nil => rfl
  | cons x r ih => simp [tkC] at *; omega
theorem tkCs_snoc (l : List Tok) (x : Tok) : tkCs (l ++ [x]) = tkCs l ++ tkC x := by simp [tkCs]
theorem tkCs_get : ∀ (l : List Tok) (i j : Nat), j < 4 → i < l.length → (tkCs l)[i * 4 + j]? = (tkC (l.getD i ⟨0, 0, ⟨#[]⟩, 0⟩))[j]?
  | [], i, j, _, h => absurd h (by simp)
  | x :: r, 0, j, hj, _ => by
    have hc : tkCs (x :: r) = tkC x ++ tkCs r := by simp [tkCs]
    rw [hc, List.getElem?_append_left (by simp [tkC]; omega)]
    simp
  | x :: r, i + 1, j, hj, h => by
    have hc : tkCs (x :: r) = tkC x ++ tkCs r := by simp [tkCs]
    have e : (i + 1) * 4 + j - (tkC x).length = i * 4 + j := by simp [tkC]; omega
    rw [hc, List.getElem?_append_right (by simp [tkC]; omega), e, tkCs_get r i j hj (by simpa using h)]
    simp
/-- a slice of tokens of the call's own, or nil -/
def OwnK (w : World) (B : Nat) (v : Value) (n : Nat) (l : List Tok) : Prop := w.ownsRow B 32 4 v n (tkCs l)
theorem OwnK.len {w : World} {B n : Nat} {v : Value} {l : List Tok} (h : OwnK w B v n l) : l.length = n := by
  have := h.1; rw [tkCs_length] at this; omega
theorem OwnK.below {w w' : World} {B B' n : Nat} {v : Value} {l : List Tok} (h : OwnK w B v n l) (hb : Below B' w w') (hB : w.heap.size ≤ B') : OwnK w' B v n l := by
  obtain ⟨h1, h2⟩ := h
  refine ⟨h1, ?_⟩
  rcases h2 with h2 | ⟨g, cap, cur, a, b, c, d⟩
  · exact .inl h2
  · have hlt : g < w.heap.size := (World.ownsRow.lt (show w.ownsRow B 32 4 v n (tkCs l) from ⟨h1, .inr ⟨g, cap, cur, a, b, c, d⟩⟩) g (by rw [a]; rfl)).2
    exact .inr ⟨g, cap, cur, a, b, by rw [hb.block g (by omega)]; exact c, d⟩
theorem OwnK.base {w : World} {B B' n : Nat} {v : Value} {l : List Tok} (h : OwnK w B v n l) (hB : B' ≤ B) : OwnK w B' v n l := by
  obtain ⟨h1, h2⟩ := h
  refine ⟨h1, ?_⟩
  rcases h2 with h2 | ⟨g', cap', cur, a, b, c, d⟩
  · exact .inl h2
  · exact .inr ⟨g', cap', cur, a, Nat.le_trans hB b, c, d⟩
theorem OwnK.nil (w : World) (B : Nat) : OwnK w B (.slice none 0 0) 0 [] := World.ownsRow_nil _ _ _ _
theorem OwnK.snoc {w wr w1 wx : World} {B n : Nat} {v v' : Value} {l : List Tok} {x : Tok} (h : OwnK wr B v n l) (hb : Below B w wr) (hx : Below wr.heap.size wr wx)
    (h' : w1.ownsRow B 32 4 v' (n + 1) (tkCs l ++ tkC x)) (hB : B ≤ wr.heap.size) (hg : wx.grownBy w1 v.ownBlock) : OwnK w1 B v' (n + 1) (l ++ [x]) ∧ Below B w w1 := by
  refine ⟨by unfold OwnK; rw [tkCs_snoc]; exact h', ?_⟩
  exact (hb.trans (hx.mono hB)).grown hg (Nat.le_trans hB hx.size) (fun j hj => (World.ownsRow.lt h j hj).1)
theorem infoTok : (Tryd.prog.info? 32).map (fun i => (i.zero, i.size, i.bytes)) = some (some (.agg #[.int .i64 0, .int .i64 0, .string ⟨#[]⟩, .int .i64 0]), 4, 40) := by kernel_rfl

/-- the answer for a text: its tokens or the fault -/
structure TkRes where
  l : List Tok
  f : Int
  g : Int
def tkGo (s : ByteArray) : Nat → Nat → List Tok → TkRes
  | 0, _, _ => ⟨[], 5, 0⟩
  | m + 1, i, acc =>
    if (tkA s i).f ≠ 0 then ⟨[], (tkA s i).f, (tkA s i).g⟩
    else if (tkA s i).k = 0 then ⟨acc, 0, 0⟩
    else if acc.length = 600 then ⟨[], 5, (tkA s i).a⟩
    else tkGo s m (tkA s i).e (acc ++ [⟨(tkA s i).k, (tkA s i).a, (tkA s i).t, (tkA s i).v⟩])
def tkL (s : ByteArray) : TkRes := tkGo s 601 0 []
/-- the three ways on at an index -/
inductive TkAWay (s : ByteArray) (i : Nat) : Prop
  | fault (n : Nat) (f : Int) (g : Nat) (hf : f ≠ 0) (e : tkA s i = ⟨0, 0, ⟨#[]⟩, 0, n, f, g⟩)
  | stop (n : Nat) (e : tkA s i = ⟨0, 0, ⟨#[]⟩, 0, n, 0, 0⟩)
  | tok (k : Int) (a : Nat) (t : ByteArray) (v : Int) (n : Nat) (hk : k ≠ 0) (hn : n ≤ s.size) (e : tkA s i = ⟨k, a, t, v, n, 0, 0⟩)
theorem tkKi_ne {t : ByteArray} (h : tkFa t = 0) : tkKi t ≠ 0 := by
  rcases Nat.eq_zero_or_pos t.size with hz | hz
  · rw [tk_nil t hz] at h; cases h
  · rcases tk_way t hz with ⟨v, d, r, e, k, x⟩ | ⟨d, r, e⟩ | ⟨d, l, e, k, x⟩ | ⟨d, l, q, e⟩ | ⟨d, l, q, i, e, k, x⟩ | ⟨d, l, q, i, e, k, x⟩
    · rw [k]; decide
    · rw [e] at h; cases h
    · rw [k]; decide
    · rw [e] at h; cases h
    · rw [k]; decide
    · rw [k]; decide
theorem tkA_way (s : ByteArray) (i : Nat) (h : i ≤ s.size) : TkAWay s i := by
  obtain ⟨n, hn⟩ : ∃ n, i + skL false (s.data.toList.drop i) = n := ⟨_, rfl⟩
  have hns : n ≤ s.size := by have := skL_le false (s.data.toList.drop i); rw [List.length_drop, ← size_list] at this; omega
  rcases Nat.lt_or_eq_of_le hns with hlt | heq
  · obtain ⟨t, ht⟩ : ∃ t, ftL (s.data.toList.drop n) = t := ⟨_, rfl⟩
    have htl : n + t.size ≤ s.size := by have := ftL_len (s.data.toList.drop n); rw [ht, List.length_drop, ← size_list] at this; omega
    by_cases hf : tkFa t = 0
    · exact .tok _ _ _ _ _ (tkKi_ne hf) htl (tkA_tok hn (by omega) ht hf)
    · exact .fault _ _ _ hf (tkA_bad hn (by omega) ht hf)
  · exact .stop _ (tkA_end hn heq)
theorem go_fault {s : ByteArray} {m i n g : Nat} {f : Int} {acc : List Tok} {R : TkRes} (h : tkGo s (m + 1) i acc = R) (e : tkA s i = ⟨0, 0, ⟨#[]⟩, 0, n, f, g⟩) (hf : f ≠ 0) : R = ⟨[], f, g⟩ := by
  rw [← h, tkGo, e]; exact if_pos hf
theorem go_stop {s : ByteArray} {m i n : Nat} {acc : List Tok} {R : TkRes} (h : tkGo s (m + 1) i acc = R) (e : tkA s i = ⟨0, 0, ⟨#[]⟩, 0, n, 0, 0⟩) : R = ⟨acc, 0, 0⟩ := by
  rw [← h, tkGo, e]; rfl
theorem go_full {s : ByteArray} {m i n a : Nat} {k v : Int} {t : ByteArray} {acc : List Tok} {R : TkRes} (h : tkGo s (m + 1) i acc = R) (e : tkA s i = ⟨k, a, t, v, n, 0, 0⟩) (hk : k ≠ 0) (ha : acc.length = 600) : R = ⟨[], 5, a⟩ := by
  rw [← h, tkGo, e]; simp [hk, ha]
theorem go_more {s : ByteArray} {m i n a : Nat} {k v : Int} {t : ByteArray} {acc : List Tok} {R : TkRes} (h : tkGo s (m + 1) i acc = R) (e : tkA s i = ⟨k, a, t, v, n, 0, 0⟩) (hk : k ≠ 0) (ha : acc.length ≠ 600) : tkGo s m n (acc ++ [⟨k, a, t, v⟩]) = R := by
  rw [← h]; conv => rhs; rw [tkGo, e]
  simp [hk, ha]
def sliceLen (v : Value) : Nat := match v with | .slice _ n _ => n | _ => 0
def AllRel (s : ByteArray) (W0 : World) (R : TkRes) (v i : Value) (wr : World) : Prop :=
  ∃ (m k n : Nat) (acc : List Tok) (ad : Option Addr) (c : Nat), m + n = 600 ∧ k ≤ s.size ∧ i = .int .i64 k ∧ v = .slice ad n c ∧ OwnK wr W0.heap.size v n acc ∧ Below W0.heap.size W0 wr ∧ Hid (tkGo s (m + 1) k acc = R)
/-- a list of tokens of the call's own and a fault -/
def SaysL (w : World) (R : TkRes) (e : Ending) (w' : World) : Prop :=
  ∃ v, e = .returned (.tuple #[v, .agg #[.int .i64 R.f, .int .i64 R.g]]) ∧ OwnK w' w.heap.size v R.l.length R.l ∧ Below w.heap.size w w'
/-- a fault of the call's own, laid first: for the walk -/
theorem loop_facts {w W0 w1 : World} {z0 z1 : Value} {T : TypeId} (h0 : w.alloc (.cells #[z0, z1] T) = W0) (hb : Below W0.heap.size W0 w1) :
    w1.cell? ⟨w.heap.size, 0, none⟩ = some z0 ∧ w1.cell? ⟨w.heap.size, 1, none⟩ = some z1 ∧ w1.frozen? ⟨w.heap.size, 0, none⟩ = false ∧ w1.frozen? ⟨w.heap.size, 1, none⟩ = false ∧ w.heap.size < w1.heap.size ∧ Below w.heap.size w w1 := by
  subst h0
  have e : (w.alloc (.cells #[z0, z1] T)).heap.size = w.heap.size + 1 := by simp
  obtain ⟨hc, hf⟩ := bcell hb
  rw [e] at hc hf
  have hz : w.heap.size < w1.heap.size := by have := hb.size; rw [e] at this; omega
  refine ⟨?_, ?_, ?_, ?_, hz, (one_new2 w _).trans (hb.mono (by simp))⟩
  · rw [hc _ _ (by omega)]; simp [go_sem]
  · rw [hc _ _ (by omega)]; simp [go_sem]
  · rw [hf _ _ (by omega)]; simp [go_sem]
  · rw [hf _ _ (by omega)]; simp [go_sem]
theorem read2 {w1 : World} {b : Nat} {x0 x1 : Value} (h0 : w1.cell? ⟨b, 0, none⟩ = some x0) (h1 : w1.cell? ⟨b, 1, none⟩ = some x1) (hz : b < w1.heap.size) (v0 v1 : Value) (o o' : Obj) :
    ((((w1.setCell ⟨b, 0, none⟩ v0).setCell ⟨b, 1, none⟩ v1).alloc o).alloc o').cell? ⟨b, 0, none⟩ = some v0 ∧ ((((w1.setCell ⟨b, 0, none⟩ v0).setCell ⟨b, 1, none⟩ v1).alloc o).alloc o').cell? ⟨b, 1, none⟩ = some v1 := by
  have hx := two_new ((w1.setCell ⟨b, 0, none⟩ v0).setCell ⟨b, 1, none⟩ v1) o o'
  have hs : b < ((w1.setCell ⟨b, 0, none⟩ v0).setCell ⟨b, 1, none⟩ v1).heap.size := by simpa using hz
  refine ⟨((hx.cell (p := ⟨b, 0, none⟩) hs)).trans ?_, ((hx.cell (p := ⟨b, 1, none⟩) hs)).trans ?_⟩ <;> simp [go_sem, World.cell?_setCell_other, World.cell?_setCell_same', h0, h1]
theorem new4 (w1 : World) (o1 o2 : Obj) (v0 v1 v2 v3 : Value) (t : TypeId) : ∀ j u, [v0, v1, v2, v3][j]? = some u → (((w1.alloc o1).alloc o2).alloc (.cells #[v0, v1, v2, v3] t)).cell? ((⟨w1.heap.size + 1 + 1, 0, none⟩ : Addr).add j) = some u := by
  intro j u hj
  match j, hj with
  | 0, hj => simp at hj; subst hj; simp [Addr.add, go_sem]
  | 1, hj => simp at hj; subst hj; simp [Addr.add, go_sem]
  | 2, hj => simp at hj; subst hj; simp [Addr.add, go_sem]
  | 3, hj => simp at hj; subst hj; simp [Addr.add, go_sem]
theorem one4 (k a v : Int) (t : ByteArray) : ∀ u ∈ [Value.int .i64 k, .int .i64 a, .string t, .int .i64 v], u.oneCell' = true := by
  intro u hu
  simp at hu
  rcases hu with rfl | rfl | rfl | rfl <;> rfl
/-- a slice that lies behind a block is as it was when that block is written -/
theorem OwnK.sets {w : World} {B n b : Nat} {v u0 u1 : Value} {l : List Tok} (h : OwnK w B v n l) (hb : b < B) : OwnK ((w.setCell ⟨b, 0, none⟩ u0).setCell ⟨b, 1, none⟩ u1) B v n l := by
  obtain ⟨h1, h2⟩ := h
  refine ⟨h1, ?_⟩
  rcases h2 with h2 | ⟨g, cap, cur, a, hg, c, d⟩
  · exact .inl h2
  · exact .inr ⟨g, cap, cur, a, hg, by rw [Below.heap_setCell _ _ _ _ (by show g ≠ b; omega), Below.heap_setCell _ _ _ _ (by show g ≠ b; omega)]; exact c, d⟩
theorem OwnK.two {w : World} {B B' n : Nat} {v : Value} {l : List Tok} (h : OwnK w B v n l) (hB : B' ≤ B) (o o' : Obj) : OwnK ((w.alloc o).alloc o') B' v n l := OwnK.base (World.ownsRow.alloc (World.ownsRow.alloc (w := w) h o) o') hB
theorem OwnK.form {w : World} {B n : Nat} {v : Value} {l : List Tok} (h : OwnK w B v n l) (hn : 0 < n) : ∃ g cap, v = .slice (some ⟨g, 0, none⟩) n cap := by
  rcases h.2 with ⟨_, h0⟩ | ⟨g, cap, cur, hv, _⟩
  · omega
  · exact ⟨g, cap, hv⟩
theorem three_new (w : World) (o o' o'' : Obj) : Below w.heap.size w (((w.alloc o).alloc o').alloc o'') := (two_new w o o').alloc (by simp; omega) _
theorem three_size (w : World) (o o' o'' : Obj) (B : Nat) (h : B ≤ w.heap.size) : B ≤ (((w.alloc o).alloc o').alloc o'').heap.size := by simp; omega
set_option maxHeartbeats 6400000 in
theorem tkAll_any (s : ByteArray) (w : World) (hs : s.size ≤ 1048576) :
    Calls Tryd.prog 37 #[.string s] w (SaysL w (tkL s)) := by
  obtain ⟨i0, hi, hz0, hz1, hz2⟩ := info_parts infoTok
  obtain ⟨R, hR⟩ : ∃ R, tkL s = R := ⟨_, rfl⟩
  have H0 : Hid (tkGo s (600 + 1) 0 [] = R) := Lib.hid hR
  rw [hR]
  clear hR
  go_enter Tryd.func37, Tryd.ntmps37
  go_wp2_with fail
  obtain ⟨W0, hW0⟩ : ∃ W0, w.alloc (.cells #[.int .i64 0, .int .i64 0] 26) = W0 := ⟨_, rfl⟩
  rw [hW0]
  have HZ : Hid (w.heap.size < W0.heap.size) := Lib.hid (by rw [← hW0]; simp)
  go_loopw [4, 5] (fun v i wr => AllRel s W0 R v i wr) (fun v _ _ => 601 - sliceLen v)
  case atStart => exact ⟨600, 0, 0, [], none, 0, rfl, Nat.zero_le _, rfl, rfl, OwnK.nil _ _, Below.refl _ _, H0⟩
  case round =>
    obtain ⟨m, k, n, acc, ad, c, hmn, hk, rfl, rfl, ho, hb, HG⟩ := hrel
    have HO := Lib.hid ho
    have HB := Lib.hid hb
    clear ho hb
    rcases tkA_way s k hk with ⟨q, f, g, hf, e⟩ | ⟨q, e⟩ | ⟨kk, a, t, v, q, hkk, hq, e⟩
    · have HR := Lib.hid (go_fault HG.out e hf)
      have HA : Hid (∀ w, Calls Tryd.prog 42 #[.string s, .int .i64 k] w (SaysV w (.tuple #[.agg #[.int .i64 0, .int .i64 0, .string ⟨#[]⟩, .int .i64 0], .int .i64 q, .agg #[.int .i64 f, .int .i64 g]]))) := Lib.hid (fun w => by
        have := tkAt_any s k w hs hk
        rw [e] at this
        exact this)
      have df : (f != 0) = true := by simpa using hf
      clear e hf
      go_wp2_with (go_at_call 42; refine (HA.out _).mono ?_; rintro e w1 ⟨rfl, b1⟩; obtain ⟨p0, p1, p2, p3, hz, bb⟩ := loop_facts hW0 (HB.out.trans (b1.mono HB.out.size)); have B1 := Lib.hid bb; have P1 := Lib.hid (show _ ∧ _ from ⟨p0, p1⟩); clear b1 bb)
      go_region
      all_goals
        go_wp2
        have r2 := read2 P1.out.1 P1.out.2 hz (.int .i64 f) (.int .i64 g) (.cells #[.int .i64 0, .int .i64 0, .string ⟨#[]⟩, .int .i64 0] 32) (.cells #[.int .i64 f, .int .i64 g] 26)
        refine bodyPost_ret (v := .tuple #[.slice none 0 0, .agg #[.int .i64 f, .int .i64 g]]) (by simp [results, Tryd.results37, go_sem, r2.1, r2.2]) rfl ⟨.slice none 0 0, ?_, ?_, below_drewN ((((B1.out.setCell (Nat.le_refl _) _).setCell (Nat.le_refl _) _).alloc (by simpa using Nat.le_of_lt hz) _).alloc (by simp; omega) _) 1⟩
        · rw [HR.out]
        · rw [HR.out]; exact OwnK.nil _ _
    · have HR := Lib.hid (go_stop HG.out e)
      have HA : Hid (∀ w, Calls Tryd.prog 42 #[.string s, .int .i64 k] w (SaysV w (.tuple #[.agg #[.int .i64 0, .int .i64 0, .string ⟨#[]⟩, .int .i64 0], .int .i64 q, .agg #[.int .i64 0, .int .i64 0]]))) := Lib.hid (fun w => by
        have := tkAt_any s k w hs hk
        rw [e] at this
        exact this)
      clear e
      go_wp2_with (go_at_call 42; refine (HA.out _).mono ?_; rintro e w1 ⟨rfl, b1⟩; obtain ⟨p0, p1, p2, p3, hz, bb⟩ := loop_facts hW0 (HB.out.trans (b1.mono HB.out.size)); have B1 := Lib.hid bb; have P1 := Lib.hid (show _ ∧ _ from ⟨p0, p1⟩); have O1 := Lib.hid (HO.out.below b1 (Nat.le_refl _)); clear b1 bb)
      have r2 := read2 P1.out.1 P1.out.2 hz (.int .i64 0) (.int .i64 0) (.cells #[.int .i64 0, .int .i64 0, .string ⟨#[]⟩, .int .i64 0] 32) (.cells #[.int .i64 0, .int .i64 0] 26)
      refine bodyPost_ret (v := .tuple #[.slice ad n c, .agg #[.int .i64 0, .int .i64 0]]) (by simp [results, Tryd.results37, go_sem, r2.1, r2.2]) rfl ⟨.slice ad n c, ?_, ?_, ((((B1.out.setCell (Nat.le_refl _) _).setCell (Nat.le_refl _) _).alloc (by simpa using Nat.le_of_lt hz) _).alloc (by simp; omega) _)⟩
      · rw [HR.out]
      · rw [HR.out]
        show OwnK _ _ _ acc.length acc
        rw [O1.out.len]
        exact (O1.out.sets HZ.out).two (Nat.le_of_lt HZ.out) _ _
    · have HA : Hid (∀ w, Calls Tryd.prog 42 #[.string s, .int .i64 k] w (SaysV w (.tuple #[.agg #[.int .i64 kk, .int .i64 a, .string t, .int .i64 v], .int .i64 q, .agg #[.int .i64 0, .int .i64 0]]))) := Lib.hid (fun w => by
        have := tkAt_any s k w hs hk
        rw [e] at this
        exact this)
      have dk : (kk == 0) = false := by simpa using hkk
      by_cases hn : n = 600
      · have HR := Lib.hid (go_full HG.out e hkk (HO.out.len.trans hn))
        have dn : ((n : Int) == 600) = true := by simp; omega
        clear e hkk
        go_wp2_with (go_at_call 42; refine (HA.out _).mono ?_; rintro e w1 ⟨rfl, b1⟩; obtain ⟨p0, p1, p2, p3, hz, bb⟩ := loop_facts hW0 (HB.out.trans (b1.mono HB.out.size)); have B1 := Lib.hid bb; have P1 := Lib.hid (show _ ∧ _ from ⟨p0, p1⟩); clear b1 bb)
        go_region
        all_goals
          go_wp2
          have r2 := read2 P1.out.1 P1.out.2 hz (.int .i64 5) (.int .i64 a) (.cells #[.int .i64 kk, .int .i64 a, .string t, .int .i64 v] 32) (.cells #[.int .i64 0, .int .i64 0] 26)
          refine bodyPost_ret (v := .tuple #[.slice none 0 0, .agg #[.int .i64 5, .int .i64 a]]) (by simp [results, Tryd.results37, go_sem, r2.1, r2.2]) rfl ⟨.slice none 0 0, ?_, ?_, below_drewN ((((B1.out.setCell (Nat.le_refl _) _).setCell (Nat.le_refl _) _).alloc (by simpa using Nat.le_of_lt hz) _).alloc (by simp; omega) _) 1⟩
          · rw [HR.out]
          · rw [HR.out]; exact OwnK.nil _ _
      · have HR := Lib.hid (fun m' (hm : m = m' + 1) => go_more (R := R) (m := m' + 1) (by rw [← hm]; exact HG.out) e hkk (by rw [HO.out.len]; exact hn))
        have dn : ((n : Int) == 600) = false := by simp; omega
        clear e hkk
        have hn6 : n < 600 := by omega
        go_wp2_with (first | (go_at_call 42; refine (HA.out _).mono ?_; rintro e w1 ⟨rfl, b1⟩; have B1 := Lib.hid (HB.out.trans (b1.mono HB.out.size)); have O1 := Lib.hid (HO.out.below b1 (Nat.le_refl _)); clear b1) | (at_builtin; refine wpList_append_own _ rfl _ _ 24 rfl W0.heap.size 32 i0 (.agg #[.int .i64 0, .int .i64 0, .string ⟨#[]⟩, .int .i64 0]) 4 40 Tryd.underlying24 hi hz0 hz1 hz2 rfl (by decide) _ _ _ rfl (World.ownsRow.alloc (World.ownsRow.alloc (World.ownsRow.alloc (w := w1) O1.out _) _) _) ⟨w1.heap.size + 1 + 1, 0, none⟩ 1 1 [.int .i64 kk, .int .i64 a, .string t, .int .i64 v] rfl rfl (new4 w1 _ _ _ _ _ _ _) (one4 _ _ _ _) ?_ ?_ (three_size w1 _ _ _ _ B1.out.size) ?_; (unfold maxLen; omega); omega; intro v' w3 hown1 hgrow1 _; have RR := Lib.hid (OwnK.snoc (wr := w1) (x := ⟨kk, a, t, v⟩) O1.out B1.out (three_new w1 _ _ _) hown1 B1.out.size hgrow1); clear hown1 hgrow1))
        obtain ⟨m', rfl⟩ : ∃ m', m = m' + 1 := ⟨m - 1, by omega⟩
        obtain ⟨g', cap', hv'⟩   := RR.out.1.form (Nat.succ_pos _)
        have HV := Lib.hid hv'
        clear hv'
        go_roundw
        case rel => exact ⟨m', q, n + 1, acc ++ [⟨kk, a, t, v⟩], some ⟨g', 0, none⟩, cap', by omega, hq, rfl, HV.out, RR.out.1, RR.out.2, Lib.hid (HR.out m' rfl)⟩
        case measure => rw [HV.out]; simp [sliceLen]; omega
end Go.Proofs.YtdmcgjohpnojkaaDoor
