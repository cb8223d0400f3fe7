import Derived.Test.YtmmofchfafnkcaaGreatDoorPkg
import Derived.Deep.AppendLies
import Derived.Deep.RegionWith
/- Tokens and faults compared by the laws; a token and a fault in memory of the call's own. Tokens of a text: lists of tokens in memory of the call's own; contracts of tkAll and TokensOf, program and model. -/
namespace Go.Proofs.YtmmofchfafnkcaaGreatDoor
set_option maxRecDepth 100000
open Go.RowKit

/-- a token in block g, a fault in the block behind it -/
def Pair (w : World) (g : Nat) (k b t v f x : Value) : Prop :=
  (w.cell? ⟨g, 0, none⟩ = some k ∧ w.cell? ⟨g, 1, none⟩ = some b ∧ w.cell? ⟨g, 2, none⟩ = some t ∧ w.cell? ⟨g, 3, none⟩ = some v) ∧ (w.cell? ⟨g + 1, 0, none⟩ = some f ∧ w.cell? ⟨g + 1, 1, none⟩ = some x)
theorem Pair.below {w w' : World} {B g : Nat} {k b t v f x : Value} (h : Pair w g k b t v f x) (hb : Below B w w') (hg : g + 1 < B) : Pair w' g k b t v f x := by
  obtain ⟨⟨h0, h1, h2, h3⟩, h4, h5⟩ := h
  exact ⟨⟨(hb.cell (p := ⟨g, 0, none⟩) (by simp; omega)).trans h0, (hb.cell (p := ⟨g, 1, none⟩) (by simp; omega)).trans h1, (hb.cell (p := ⟨g, 2, none⟩) (by simp; omega)).trans h2, (hb.cell (p := ⟨g, 3, none⟩) (by simp; omega)).trans h3⟩, (hb.cell (p := ⟨g + 1, 0, none⟩) (by simp; omega)).trans h4, (hb.cell (p := ⟨g + 1, 1, none⟩) (by simp; omega)).trans h5⟩
theorem pair_new {w1 wr : World} {k b t v f x : Value} {T T' : TypeId} (h : (w1.alloc (.cells #[k, b, t, v] T)).alloc (.cells #[f, x] T') = wr) : Pair wr w1.heap.size k b t v f x ∧ Below w1.heap.size w1 wr ∧ w1.heap.size + 1 < wr.heap.size := by
  subst h
  refine ⟨⟨⟨?_, ?_, ?_, ?_⟩, ?_, ?_⟩, two_new _ _ _, by simp⟩ <;> simp [go_sem]
/-- the same behind two allocations, cell by cell: for the walk -/
theorem pair_later {w2 : World} {g : Nat} {k b t v f x : Value} (h : Pair w2 g k b t v f x) (hz : g + 1 < w2.heap.size) :
    ((∀ o o', ((w2.alloc o).alloc o').cell? ⟨g, 0, none⟩ = some k) ∧ (∀ o o', ((w2.alloc o).alloc o').cell? ⟨g, 1, none⟩ = some b) ∧ (∀ o o', ((w2.alloc o).alloc o').cell? ⟨g, 2, none⟩ = some t) ∧ (∀ o o', ((w2.alloc o).alloc o').cell? ⟨g, 3, none⟩ = some v)) ∧
    ((∀ o o', ((w2.alloc o).alloc o').cell? ⟨g + 1, 0, none⟩ = some f) ∧ (∀ o o', ((w2.alloc o).alloc o').cell? ⟨g + 1, 1, none⟩ = some x)) :=
  have q := fun o o' => h.below (two_new w2 o o') hz
  ⟨⟨fun o o' => (q o o').1.1, fun o o' => (q o o').1.2.1, fun o o' => (q o o').1.2.2.1, fun o o' => (q o o').1.2.2.2⟩, fun o o' => (q o o').2.1, fun o o' => (q o o').2.2⟩
theorem taV_form (s : ByteArray) (a : Int) : ∃ (k b v n f g : Int) (t : ByteArray) (o : Bool), taV s a = .tuple #[.agg #[.int .i64 k, .int .i64 b, .string t, .int .i64 v], .int .i64 n, .agg #[.int .i64 f, .int .i64 g], .bool o] := by
  unfold taV
  split
  · exact ⟨_, _, _, _, _, _, _, _, rfl⟩
  · exact ⟨0, 0, 0, 0, 0, 0, ⟨#[]⟩, false, rfl⟩
end Go.Proofs.YtmmofchfafnkcaaGreatDoor

namespace Go.Proofs.YtmmofchfafnkcaaGreatDoor
open Go.RowKit

/-- a token in a list -/
structure Tok where
  k : Int
  a : Int
  t : ByteArray
  v : Int
def tkC (x : Tok) : List Value := [.int .i64 x.k, .int .i64 x.a, .string x.t, .int .i64 x.v]
def tkCs (l : List Tok) : List Value := l.flatMap tkC
theorem tkCs_length (l : List Tok) : (tkCs l).length = l.length * 4 := by
  unfold tkCs
  induction l with
  | nil => rfl
  | cons x r ih => simp [tkC] at *; omega
theorem tkCs_snoc (l : List Tok) (x : Tok) : tkCs (l ++ [x]) = tkCs l ++ tkC x := by simp [tkCs]
theorem tkCs_get : ∀ (l : List Tok) (i j : Nat), j < 4 → i < l.length → (tkCs l)[i * 4 + j]? = (tkC (l.getD i ⟨0, 0, ⟨#[]⟩, 0⟩))[j]?
  | [], i, j, _, h => absurd h (by simp)
  | x :: r, 0, j, hj, _ => by
    have hc : tkCs (x :: r) = tkC x ++ tkCs r := by simp [tkCs]
    rw [hc, List.getElem?_append_left (by simp [tkC]; omega)]
    simp
  | x :: r, i + 1, j, hj, h => by
    have hc : tkCs (x :: r) = tkC x ++ tkCs r := by simp [tkCs]
    have e : (i + 1) * 4 + j - (tkC x).length = i * 4 + j := by simp [tkC]; omega
    rw [hc, List.getElem?_append_right (by simp [tkC]; omega), e, tkCs_get r i j hj (by simpa using h)]
    simp
/-- a slice of tokens of the call's own, or nil -/
def OwnK (w : World) (B : Nat) (v : Value) (n : Nat) (l : List Tok) : Prop := w.ownsRow B 31 4 v n (tkCs l)
theorem OwnK.len {w : World} {B n : Nat} {v : Value} {l : List Tok} (h : OwnK w B v n l) : l.length = n := by
  have := h.1; rw [tkCs_length] at this; omega
theorem OwnK.below {w w' : World} {B B' n : Nat} {v : Value} {l : List Tok} (h : OwnK w B v n l) (hb : Below B' w w') (hB : w.heap.size ≤ B') : OwnK w' B v n l := by
  obtain ⟨h1, h2⟩ := h
  refine ⟨h1, ?_⟩
  rcases h2 with h2 | ⟨g, cap, cur, a, b, c, d⟩
  · exact .inl h2
  · have hlt : g < w.heap.size := (World.ownsRow.lt (show w.ownsRow B 31 4 v n (tkCs l) from ⟨h1, .inr ⟨g, cap, cur, a, b, c, d⟩⟩) g (by rw [a]; rfl)).2
    exact .inr ⟨g, cap, cur, a, b, by rw [hb.block g (by omega)]; exact c, d⟩
theorem OwnK.base {w : World} {B B' n : Nat} {v : Value} {l : List Tok} (h : OwnK w B v n l) (hB : B' ≤ B) : OwnK w B' v n l := by
  obtain ⟨h1, h2⟩ := h
  refine ⟨h1, ?_⟩
  rcases h2 with h2 | ⟨g', cap', cur, a, b, c, d⟩
  · exact .inl h2
  · exact .inr ⟨g', cap', cur, a, Nat.le_trans hB b, c, d⟩
theorem OwnK.nil (w : World) (B : Nat) : OwnK w B (.slice none 0 0) 0 [] := World.ownsRow_nil _ _ _ _
theorem OwnK.snoc {w wr w1 wx : World} {B n : Nat} {v v' : Value} {l : List Tok} {x : Tok} (h : OwnK wr B v n l) (hb : Below B w wr) (hx : Below wr.heap.size wr wx)
    (h' : w1.ownsRow B 31 4 v' (n + 1) (tkCs l ++ tkC x)) (hB : B ≤ wr.heap.size) (hg : wx.grownBy w1 v.ownBlock) : OwnK w1 B v' (n + 1) (l ++ [x]) ∧ Below B w w1 := by
  refine ⟨by unfold OwnK; rw [tkCs_snoc]; exact h', ?_⟩
  exact (hb.trans (hx.mono hB)).grown hg (Nat.le_trans hB hx.size) (fun j hj => (World.ownsRow.lt h j hj).1)
theorem infoTok : (Tryz.prog.info? 31).map (fun i => (i.zero, i.size, i.bytes)) = some (some (.agg #[.int .i64 0, .int .i64 0, .string ⟨#[]⟩, .int .i64 0]), 4, 40) := by kernel_rfl

/-- the answer for a text: its tokens or the fault -/
structure TkRes where
  l : List Tok
  f : Int
  g : Int
def tkGo (s : ByteArray) : Nat → Nat → List Tok → TkRes
  | 0, _, _ => ⟨[], 5, 0⟩
  | m + 1, i, acc =>
    if (tkA s i).f ≠ 0 then ⟨[], (tkA s i).f, (tkA s i).g⟩
    else if (tkA s i).k = 0 then ⟨acc, 0, 0⟩
    else if acc.length = 600 then ⟨[], 5, (tkA s i).a⟩
    else tkGo s m (tkA s i).e (acc ++ [⟨(tkA s i).k, (tkA s i).a, (tkA s i).t, (tkA s i).v⟩])
def tkL (s : ByteArray) : TkRes := tkGo s 601 0 []
/-- the three ways on at an index -/
inductive TkAWay (s : ByteArray) (i : Nat) : Prop
  | fault (n : Nat) (f : Int) (g : Nat) (hf : f ≠ 0) (e : tkA s i = ⟨0, 0, ⟨#[]⟩, 0, n, f, g⟩)
  | stop (n : Nat) (e : tkA s i = ⟨0, 0, ⟨#[]⟩, 0, n, 0, 0⟩)
  | tok (k : Int) (a : Nat) (t : ByteArray) (v : Int) (n : Nat) (hk : k ≠ 0) (hn : n ≤ s.size) (e : tkA s i = ⟨k, a, t, v, n, 0, 0⟩)
theorem tkKi_ne {t : ByteArray} (h : tkFa t = 0) : tkKi t ≠ 0 := by
  rcases Nat.eq_zero_or_pos t.size with hz | hz
  · rw [tk_nil t hz] at h; cases h
  · rcases tk_way t hz with ⟨v, d, r, e, k, x⟩ | ⟨d, r, e⟩ | ⟨d, l, e, k, x⟩ | ⟨d, l, q, e⟩ | ⟨d, l, q, i, e, k, x⟩ | ⟨d, l, q, i, e, k, x⟩
    · rw [k]; decide
    · rw [e] at h; cases h
    · rw [k]; decide
    · rw [e] at h; cases h
    · rw [k]; decide
    · rw [k]; decide
theorem tkA_way (s : ByteArray) (i : Nat) (h : i ≤ s.size) : TkAWay s i := by
  obtain ⟨n, hn⟩ : ∃ n, i + skL false (s.data.toList.drop i) = n := ⟨_, rfl⟩
  have hns : n ≤ s.size := by have := skL_le false (s.data.toList.drop i); rw [List.length_drop, ← size_list] at this; omega
  rcases Nat.lt_or_eq_of_le hns with hlt | heq
  · obtain ⟨t, ht⟩ : ∃ t, ftL (s.data.toList.drop n) = t := ⟨_, rfl⟩
    have htl : n + t.size ≤ s.size := by have := ftL_len (s.data.toList.drop n); rw [ht, List.length_drop, ← size_list] at this; omega
    by_cases hf : tkFa t = 0
    · exact .tok _ _ _ _ _ (tkKi_ne hf) htl (tkA_tok hn (by omega) ht hf)
    · exact .fault _ _ _ hf (tkA_bad hn (by omega) ht hf)
  · exact .stop _ (tkA_end hn heq)
theorem go_fault {s : ByteArray} {m i n g : Nat} {f : Int} {acc : List Tok} {R : TkRes} (h : tkGo s (m + 1) i acc = R) (e : tkA s i = ⟨0, 0, ⟨#[]⟩, 0, n, f, g⟩) (hf : f ≠ 0) : R = ⟨[], f, g⟩ := by
  rw [← h, tkGo, e]; exact if_pos hf
theorem go_stop {s : ByteArray} {m i n : Nat} {acc : List Tok} {R : TkRes} (h : tkGo s (m + 1) i acc = R) (e : tkA s i = ⟨0, 0, ⟨#[]⟩, 0, n, 0, 0⟩) : R = ⟨acc, 0, 0⟩ := by
  rw [← h, tkGo, e]; rfl
theorem go_full {s : ByteArray} {m i n a : Nat} {k v : Int} {t : ByteArray} {acc : List Tok} {R : TkRes} (h : tkGo s (m + 1) i acc = R) (e : tkA s i = ⟨k, a, t, v, n, 0, 0⟩) (hk : k ≠ 0) (ha : acc.length = 600) : R = ⟨[], 5, a⟩ := by
  rw [← h, tkGo, e]; simp [hk, ha]
theorem go_more {s : ByteArray} {m i n a : Nat} {k v : Int} {t : ByteArray} {acc : List Tok} {R : TkRes} (h : tkGo s (m + 1) i acc = R) (e : tkA s i = ⟨k, a, t, v, n, 0, 0⟩) (hk : k ≠ 0) (ha : acc.length ≠ 600) : tkGo s m n (acc ++ [⟨k, a, t, v⟩]) = R := by
  rw [← h]; conv => rhs; rw [tkGo, e]
  simp [hk, ha]
def sliceLen (v : Value) : Nat := match v with | .slice _ n _ => n | _ => 0
def AllRel (s : ByteArray) (W0 : World) (R : TkRes) (v i : Value) (wr : World) : Prop :=
  ∃ (m k n : Nat) (acc : List Tok) (ad : Option Addr) (c : Nat), m + n = 600 ∧ k ≤ s.size ∧ i = .int .i64 k ∧ v = .slice ad n c ∧ OwnK wr W0.heap.size v n acc ∧ Below W0.heap.size W0 wr ∧ Hid (tkGo s (m + 1) k acc = R)
/-- a list of tokens of the call's own and a fault -/
def SaysL (w : World) (R : TkRes) (e : Ending) (w' : World) : Prop :=
  ∃ v, e = .returned (.tuple #[v, .agg #[.int .i64 R.f, .int .i64 R.g]]) ∧ OwnK w' w.heap.size v R.l.length R.l ∧ Below w.heap.size w w'
/-- a fault of the call's own, laid first: for the walk -/
theorem loop_facts {w W0 w1 : World} {z0 z1 : Value} {T : TypeId} (h0 : w.alloc (.cells #[z0, z1] T) = W0) (hb : Below W0.heap.size W0 w1) :
    w1.cell? ⟨w.heap.size, 0, none⟩ = some z0 ∧ w1.cell? ⟨w.heap.size, 1, none⟩ = some z1 ∧ w1.frozen? ⟨w.heap.size, 0, none⟩ = false ∧ w1.frozen? ⟨w.heap.size, 1, none⟩ = false ∧ w.heap.size < w1.heap.size ∧ Below w.heap.size w w1 := by
  subst h0
  have e : (w.alloc (.cells #[z0, z1] T)).heap.size = w.heap.size + 1 := by simp
  obtain ⟨hc, hf⟩ := bcell hb
  rw [e] at hc hf
  have hz : w.heap.size < w1.heap.size := by have := hb.size; rw [e] at this; omega
  refine ⟨?_, ?_, ?_, ?_, hz, (one_new2 w _).trans (hb.mono (by simp))⟩
  · rw [hc _ _ (by omega)]; simp [go_sem]
  · rw [hc _ _ (by omega)]; simp [go_sem]
  · rw [hf _ _ (by omega)]; simp [go_sem]
  · rw [hf _ _ (by omega)]; simp [go_sem]
theorem read2 {w1 : World} {b : Nat} {x0 x1 : Value} (h0 : w1.cell? ⟨b, 0, none⟩ = some x0) (h1 : w1.cell? ⟨b, 1, none⟩ = some x1) (hz : b < w1.heap.size) (v0 v1 : Value) (o o' : Obj) :
    ((((w1.setCell ⟨b, 0, none⟩ v0).setCell ⟨b, 1, none⟩ v1).alloc o).alloc o').cell? ⟨b, 0, none⟩ = some v0 ∧ ((((w1.setCell ⟨b, 0, none⟩ v0).setCell ⟨b, 1, none⟩ v1).alloc o).alloc o').cell? ⟨b, 1, none⟩ = some v1 := by
  have hx := two_new ((w1.setCell ⟨b, 0, none⟩ v0).setCell ⟨b, 1, none⟩ v1) o o'
  have hs : b < ((w1.setCell ⟨b, 0, none⟩ v0).setCell ⟨b, 1, none⟩ v1).heap.size := by simpa using hz
  refine ⟨((hx.cell (p := ⟨b, 0, none⟩) hs)).trans ?_, ((hx.cell (p := ⟨b, 1, none⟩) hs)).trans ?_⟩ <;> simp [go_sem, World.cell?_setCell_other, World.cell?_setCell_same', h0, h1]
theorem new4 (w1 : World) (o1 o2 : Obj) (v0 v1 v2 v3 : Value) (t : TypeId) : ∀ j u, [v0, v1, v2, v3][j]? = some u → (((w1.alloc o1).alloc o2).alloc (.cells #[v0, v1, v2, v3] t)).cell? ((⟨w1.heap.size + 1 + 1, 0, none⟩ : Addr).add j) = some u := by
  intro j u hj
  match j, hj with
  | 0, hj => simp at hj; subst hj; simp [Addr.add, go_sem]
  | 1, hj => simp at hj; subst hj; simp [Addr.add, go_sem]
  | 2, hj => simp at hj; subst hj; simp [Addr.add, go_sem]
  | 3, hj => simp at hj; subst hj; simp [Addr.add, go_sem]
theorem one4 (k a v : Int) (t : ByteArray) : ∀ u ∈ [Value.int .i64 k, .int .i64 a, .string t, .int .i64 v], u.oneCell' = true := by
  intro u hu
  simp at hu
  rcases hu with rfl | rfl | rfl | rfl <;> rfl
/-- a slice that lies behind a block is as it was when that block is written -/
theorem OwnK.sets {w : World} {B n b : Nat} {v u0 u1 : Value} {l : List Tok} (h : OwnK w B v n l) (hb : b < B) : OwnK ((w.setCell ⟨b, 0, none⟩ u0).setCell ⟨b, 1, none⟩ u1) B v n l := by
  obtain ⟨h1, h2⟩ := h
  refine ⟨h1, ?_⟩
  rcases h2 with h2 | ⟨g, cap, cur, a, hg, c, d⟩
  · exact .inl h2
  · exact .inr ⟨g, cap, cur, a, hg, by rw [Below.heap_setCell _ _ _ _ (by show g ≠ b; omega), Below.heap_setCell _ _ _ _ (by show g ≠ b; omega)]; exact c, d⟩
theorem OwnK.two {w : World} {B B' n : Nat} {v : Value} {l : List Tok} (h : OwnK w B v n l) (hB : B' ≤ B) (o o' : Obj) : OwnK ((w.alloc o).alloc o') B' v n l := OwnK.base (World.ownsRow.alloc (World.ownsRow.alloc (w := w) h o) o') hB
theorem OwnK.form {w : World} {B n : Nat} {v : Value} {l : List Tok} (h : OwnK w B v n l) (hn : 0 < n) : ∃ g cap, v = .slice (some ⟨g, 0, none⟩) n cap := by
  rcases h.2 with ⟨_, h0⟩ | ⟨g, cap, cur, hv, _⟩
  · omega
  · exact ⟨g, cap, hv⟩
theorem three_new (w : World) (o o' o'' : Obj) : Below w.heap.size w (((w.alloc o).alloc o').alloc o'') := (two_new w o o').alloc (by simp; omega) _
theorem three_size (w : World) (o o' o'' : Obj) (B : Nat) (h : B ≤ w.heap.size) : B ≤ (((w.alloc o).alloc o').alloc o'').heap.size := by simp; omega
set_option maxHeartbeats 6400000 in
theorem tkAll_any (s : ByteArray) (w : World) (hs : s.size ≤ 1048576) :
    Calls Tryz.prog 75 #[.string s] w (SaysL w (tkL s)) := by
  obtain ⟨i0, hi, hz0, hz1, hz2⟩ := info_parts infoTok
  obtain ⟨R, hR⟩ : ∃ R, tkL s = R := ⟨_, rfl⟩
  have H0 : Hid (tkGo s (600 + 1) 0 [] = R) := Lib.hid hR
  rw [hR]
  clear hR
  go_enter Tryz.func75, Tryz.ntmps75
  go_wp2_with fail
  obtain ⟨W0, hW0⟩ : ∃ W0, w.alloc (.cells #[.int .i64 0, .int .i64 0] 46) = W0 := ⟨_, rfl⟩
  rw [hW0]
  have HZ : Hid (w.heap.size < W0.heap.size) := Lib.hid (by rw [← hW0]; simp)
  go_loopw [4, 5] (fun v i wr => AllRel s W0 R v i wr) (fun v _ _ => 601 - sliceLen v)
  case atStart => exact ⟨600, 0, 0, [], none, 0, rfl, Nat.zero_le _, rfl, rfl, OwnK.nil _ _, Below.refl _ _, H0⟩
  case round =>
    obtain ⟨m, k, n, acc, ad, c, hmn, hk, rfl, rfl, ho, hb, HG⟩ := hrel
    have HO := Lib.hid ho
    have HB := Lib.hid hb
    clear ho hb
    rcases tkA_way s k hk with ⟨q, f, g, hf, e⟩ | ⟨q, e⟩ | ⟨kk, a, t, v, q, hkk, hq, e⟩
    · have HR := Lib.hid (go_fault HG.out e hf)
      have HA : Hid (∀ w, Calls Tryz.prog 148 #[.string s, .int .i64 k] w (SaysV w (.tuple #[.agg #[.int .i64 0, .int .i64 0, .string ⟨#[]⟩, .int .i64 0], .int .i64 q, .agg #[.int .i64 f, .int .i64 g]]))) := Lib.hid (fun w => by
        have := tkAt_any s k w hs hk
        rw [e] at this
        exact this)
      have df : (f != 0) = true := by simpa using hf
      clear e hf
      go_wp2_with (go_at_call 148; refine (HA.out _).mono ?_; rintro e w1 ⟨rfl, b1⟩; obtain ⟨p0, p1, p2, p3, hz, bb⟩ := loop_facts hW0 (HB.out.trans (b1.mono HB.out.size)); have B1 := Lib.hid bb; have P1 := Lib.hid (show _ ∧ _ from ⟨p0, p1⟩); clear b1 bb)
      go_region
      all_goals
        go_wp2
        have r2 := read2 P1.out.1 P1.out.2 hz (.int .i64 f) (.int .i64 g) (.cells #[.int .i64 0, .int .i64 0, .string ⟨#[]⟩, .int .i64 0] 31) (.cells #[.int .i64 f, .int .i64 g] 46)
        refine bodyPost_ret (v := .tuple #[.slice none 0 0, .agg #[.int .i64 f, .int .i64 g]]) (by simp [results, Tryz.results75, go_sem, r2.1, r2.2]) rfl ⟨.slice none 0 0, ?_, ?_, below_drewN ((((B1.out.setCell (Nat.le_refl _) _).setCell (Nat.le_refl _) _).alloc (by simpa using Nat.le_of_lt hz) _).alloc (by simp; omega) _) 1⟩
        · rw [HR.out]
        · rw [HR.out]; exact OwnK.nil _ _
    · have HR := Lib.hid (go_stop HG.out e)
      have HA : Hid (∀ w, Calls Tryz.prog 148 #[.string s, .int .i64 k] w (SaysV w (.tuple #[.agg #[.int .i64 0, .int .i64 0, .string ⟨#[]⟩, .int .i64 0], .int .i64 q, .agg #[.int .i64 0, .int .i64 0]]))) := Lib.hid (fun w => by
        have := tkAt_any s k w hs hk
        rw [e] at this
        exact this)
      clear e
      go_wp2_with (go_at_call 148; refine (HA.out _).mono ?_; rintro e w1 ⟨rfl, b1⟩; obtain ⟨p0, p1, p2, p3, hz, bb⟩ := loop_facts hW0 (HB.out.trans (b1.mono HB.out.size)); have B1 := Lib.hid bb; have P1 := Lib.hid (show _ ∧ _ from ⟨p0, p1⟩); have O1 := Lib.hid (HO.out.below b1 (Nat.le_refl _)); clear b1 bb)
      have r2 := read2 P1.out.1 P1.out.2 hz (.int .i64 0) (.int .i64 0) (.cells #[.int .i64 0, .int .i64 0, .string ⟨#[]⟩, .int .i64 0] 31) (.cells #[.int .i64 0, .int .i64 0] 46)
      refine bodyPost_ret (v := .tuple #[.slice ad n c, .agg #[.int .i64 0, .int .i64 0]]) (by simp [results, Tryz.results75, go_sem, r2.1, r2.2]) rfl ⟨.slice ad n c, ?_, ?_, ((((B1.out.setCell (Nat.le_refl _) _).setCell (Nat.le_refl _) _).alloc (by simpa using Nat.le_of_lt hz) _).alloc (by simp; omega) _)⟩
      · rw [HR.out]
      · rw [HR.out]
        show OwnK _ _ _ acc.length acc
        rw [O1.out.len]
        exact (O1.out.sets HZ.out).two (Nat.le_of_lt HZ.out) _ _
    · have HA : Hid (∀ w, Calls Tryz.prog 148 #[.string s, .int .i64 k] w (SaysV w (.tuple #[.agg #[.int .i64 kk, .int .i64 a, .string t, .int .i64 v], .int .i64 q, .agg #[.int .i64 0, .int .i64 0]]))) := Lib.hid (fun w => by
        have := tkAt_any s k w hs hk
        rw [e] at this
        exact this)
      have dk : (kk == 0) = false := by simpa using hkk
      by_cases hn : n = 600
      · have HR := Lib.hid (go_full HG.out e hkk (HO.out.len.trans hn))
        have dn : ((n : Int) == 600) = true := by simp; omega
        clear e hkk
        go_wp2_with (go_at_call 148; refine (HA.out _).mono ?_; rintro e w1 ⟨rfl, b1⟩; obtain ⟨p0, p1, p2, p3, hz, bb⟩ := loop_facts hW0 (HB.out.trans (b1.mono HB.out.size)); have B1 := Lib.hid bb; have P1 := Lib.hid (show _ ∧ _ from ⟨p0, p1⟩); clear b1 bb)
        go_region
        all_goals
          go_wp2
          have r2 := read2 P1.out.1 P1.out.2 hz (.int .i64 5) (.int .i64 a) (.cells #[.int .i64 kk, .int .i64 a, .string t, .int .i64 v] 31) (.cells #[.int .i64 0, .int .i64 0] 46)
          refine bodyPost_ret (v := .tuple #[.slice none 0 0, .agg #[.int .i64 5, .int .i64 a]]) (by simp [results, Tryz.results75, go_sem, r2.1, r2.2]) rfl ⟨.slice none 0 0, ?_, ?_, below_drewN ((((B1.out.setCell (Nat.le_refl _) _).setCell (Nat.le_refl _) _).alloc (by simpa using Nat.le_of_lt hz) _).alloc (by simp; omega) _) 1⟩
          · rw [HR.out]
          · rw [HR.out]; exact OwnK.nil _ _
      · have HR := Lib.hid (fun m' (hm : m = m' + 1) => go_more (R := R) (m := m' + 1) (by rw [← hm]; exact HG.out) e hkk (by rw [HO.out.len]; exact hn))
        have dn : ((n : Int) == 600) = false := by simp; omega
        clear e hkk
        have hn6 : n < 600 := by omega
        go_wp2_with (first | (go_at_call 148; refine (HA.out _).mono ?_; rintro e w1 ⟨rfl, b1⟩; have B1 := Lib.hid (HB.out.trans (b1.mono HB.out.size)); have O1 := Lib.hid (HO.out.below b1 (Nat.le_refl _)); clear b1) | (at_builtin; refine wpList_append_own _ rfl _ _ 23 rfl W0.heap.size 31 i0 (.agg #[.int .i64 0, .int .i64 0, .string ⟨#[]⟩, .int .i64 0]) 4 40 Tryz.underlying23 hi hz0 hz1 hz2 rfl (by decide) _ _ _ rfl (World.ownsRow.alloc (World.ownsRow.alloc (World.ownsRow.alloc (w := w1) O1.out _) _) _) ⟨w1.heap.size + 1 + 1, 0, none⟩ 1 1 [.int .i64 kk, .int .i64 a, .string t, .int .i64 v] rfl rfl (new4 w1 _ _ _ _ _ _ _) (one4 _ _ _ _) ?_ ?_ (three_size w1 _ _ _ _ B1.out.size) ?_; (unfold maxLen; omega); omega; intro v' w3 hown1 hgrow1 _; have RR := Lib.hid (OwnK.snoc (wr := w1) (x := ⟨kk, a, t, v⟩) O1.out B1.out (three_new w1 _ _ _) hown1 B1.out.size hgrow1); clear hown1 hgrow1))
        obtain ⟨m', rfl⟩ : ∃ m', m = m' + 1 := ⟨m - 1, by omega⟩
        obtain ⟨g', cap', hv'⟩   := RR.out.1.form (Nat.succ_pos _)
        have HV := Lib.hid hv'
        clear hv'
        go_roundw
        case rel => exact ⟨m', q, n + 1, acc ++ [⟨kk, a, t, v⟩], some ⟨g', 0, none⟩, cap', by omega, hq, rfl, HV.out, RR.out.1, RR.out.2, Lib.hid (HR.out m' rfl)⟩
        case measure => rw [HV.out]; simp [sliceLen]; omega
end Go.Proofs.YtmmofchfafnkcaaGreatDoor

/- Tokens of a text: contracts of TokensOf, program and model. -/
namespace Go.Proofs.YtmmofchfafnkcaaGreatDoor
set_option maxRecDepth 100000
open Go.RowKit

/-- a list of tokens of the call's own, a fault, and whether there is an answer -/
def SaysL3 (w : World) (R : TkRes) (ok : Bool) (e : Ending) (w' : World) : Prop :=
  ∃ v, e = .returned (.tuple #[v, .agg #[.int .i64 R.f, .int .i64 R.g], .bool ok]) ∧ OwnK w' w.heap.size v R.l.length R.l ∧ Below w.heap.size w w'
/-- what TokensOf answers -/
def tkT (s : ByteArray) : TkRes := if s.size ≤ 4000 then tkL s else ⟨[], 0, 0⟩
def tkO (s : ByteArray) : Bool := decide (s.size ≤ 4000)
theorem tkT_yes {s : ByteArray} (h : s.size ≤ 4000) : tkT s = tkL s ∧ tkO s = true := ⟨if_pos h, decide_eq_true h⟩
theorem tkT_no {s : ByteArray} (h : ¬ s.size ≤ 4000) : tkT s = ⟨[], 0, 0⟩ ∧ tkO s = false := ⟨if_neg h, decide_eq_false h⟩
theorem ixB_yes {s : ByteArray} {k : Nat} (hs : (s.size : Int) ≤ 4000) (hk : k ≤ s.size) : ixB s (k : Int) = true := by unfold ixB; simp; omega
theorem read21 {w1 : World} {b : Nat} {x0 x1 : Value} (h0 : w1.cell? ⟨b, 0, none⟩ = some x0) (h1 : w1.cell? ⟨b, 1, none⟩ = some x1) (hz : b < w1.heap.size) (v0 v1 : Value) (o : Obj) :
    (((w1.setCell ⟨b, 0, none⟩ v0).setCell ⟨b, 1, none⟩ v1).alloc o).cell? ⟨b, 0, none⟩ = some v0 ∧ (((w1.setCell ⟨b, 0, none⟩ v0).setCell ⟨b, 1, none⟩ v1).alloc o).cell? ⟨b, 1, none⟩ = some v1 := by
  have hx := one_new2 ((w1.setCell ⟨b, 0, none⟩ v0).setCell ⟨b, 1, none⟩ v1) o
  have hs : b < ((w1.setCell ⟨b, 0, none⟩ v0).setCell ⟨b, 1, none⟩ v1).heap.size := by simpa using hz
  refine ⟨((hx.cell (p := ⟨b, 0, none⟩) hs)).trans ?_, ((hx.cell (p := ⟨b, 1, none⟩) hs)).trans ?_⟩ <;> simp [go_sem, World.cell?_setCell_other, World.cell?_setCell_same', h0, h1]
theorem OwnK.drew {w : World} {B n : Nat} {v : Value} {l : List Tok} (h : OwnK w B v n l) : OwnK w.drew B v n l := h
theorem specTokensOf_no (s : ByteArray) (w : World) (h : (4000 : Int) < s.size) :
    Calls Tryz.prog 26 #[.string s] w (SaysL3 w ⟨[], 0, 0⟩ false) := by
  go_enter Tryz.func26, Tryz.ntmps26
  go_wp2_with (go_at_call 68; refine (scBytes_false _ _ h).mono ?_; rintro e w' ⟨rfl, rfl⟩)
  exact bodyPost_ret (v := .tuple #[.slice none 0 0, .agg #[.int .i64 0, .int .i64 0], .bool false]) (by simp [results, Tryz.results26, go_sem]) rfl ⟨.slice none 0 0, rfl, OwnK.nil _ _, one_new2 _ _⟩
set_option maxHeartbeats 1600000 in
theorem specTokensOf_go (s : ByteArray) (w : World) (h : (s.size : Int) ≤ 4000) :
    Calls Tryz.prog 26 #[.string s] w (SaysL3 w (tkL s) true) := by
  have HA := Lib.hid (fun w => tkAll_any s w (by omega))
  obtain ⟨R, hR⟩ : ∃ R, tkL s = R := ⟨_, rfl⟩
  rw [hR] at HA ⊢
  clear hR
  obtain ⟨l, f, g⟩ := R
  obtain ⟨W0, hW0⟩ : ∃ W0, w.alloc (.cells #[.int .i64 0, .int .i64 0] 46) = W0 := ⟨_, rfl⟩
  have HZ : Hid (w.heap.size < W0.heap.size) := Lib.hid (by rw [← hW0]; simp)
  have HW := Lib.hid hW0
  clear hW0
  go_enter Tryz.func26, Tryz.ntmps26
  go_wp2_with (go_at_call 68; refine (scBytes_true _ _ h).mono ?_; rintro e w' ⟨rfl, rfl⟩)
  rw [HW.out]
  go_wp2_with (go_at_call 75; refine (HA.out _).mono ?_; rintro e w1 ⟨v, rfl, o1, b1⟩; obtain ⟨p0, p1, p2, p3, hz, bb⟩ := loop_facts HW.out b1; have B1 := Lib.hid bb; have P1 := Lib.hid (show _ ∧ _ from ⟨p0, p1⟩); have O1 := Lib.hid o1; clear b1 bb o1)
  go_region
  all_goals
    go_wp2
    have r2 := read21 P1.out.1 P1.out.2 hz (.int .i64 f) (.int .i64 g) (.cells #[.int .i64 f, .int .i64 g] 46)
    exact bodyPost_ret (v := .tuple #[v, .agg #[.int .i64 f, .int .i64 g], .bool true]) (by simp [results, Tryz.results26, go_sem, r2.1, r2.2]) rfl ⟨v, rfl, OwnK.base (World.ownsRow.alloc (O1.out.sets HZ.out) _) (Nat.le_of_lt HZ.out), below_drewN (((B1.out.setCell (Nat.le_refl _) _).setCell (Nat.le_refl _) _).alloc (by simpa using Nat.le_of_lt hz) _) 1⟩
theorem specTokensOf_any (s : ByteArray) (w : World) : Calls Tryz.prog 26 #[.string s] w (SaysL3 w (tkT s) (tkO s)) := by
  by_cases h : s.size ≤ 4000
  · rw [(tkT_yes h).1, (tkT_yes h).2]; exact specTokensOf_go s w (by omega)
  · rw [(tkT_no h).1, (tkT_no h).2]; exact specTokensOf_no s w (by omega)
theorem implTokensOf_no (s : ByteArray) (w : World) (h : (4000 : Int) < s.size) :
    Calls Tryz.prog 25 #[.string s] w (SaysL3 w ⟨[], 0, 0⟩ false) := by
  go_enter Tryz.func25, Tryz.ntmps25
  go_wp2_with (go_at_call 66; refine (isText_false _ _ h).mono ?_; rintro e w' ⟨rfl, rfl⟩)
  exact bodyPost_ret (v := .tuple #[.slice none 0 0, .agg #[.int .i64 0, .int .i64 0], .bool false]) (by simp [results, Tryz.results25, go_sem]) rfl ⟨.slice none 0 0, rfl, OwnK.nil _ _, one_new2 _ _⟩
set_option maxHeartbeats 6400000 in
theorem implTokensOf_go (s : ByteArray) (w : World) (hs : (s.size : Int) ≤ 4000) (hT : Hid (Tabs w)) :
    Calls Tryz.prog 25 #[.string s] w (SaysL3 w (tkL s) true) := by
  have hs2 : s.size ≤ 1048576 := by omega
  obtain ⟨i0, hi, hz0, hz1, hz2⟩ := info_parts infoTok
  obtain ⟨R, hR⟩ : ∃ R, tkL s = R := ⟨_, rfl⟩
  have H0 : Hid (tkGo s (600 + 1) 0 [] = R) := Lib.hid hR
  rw [hR]
  clear hR
  go_enter Tryz.func25, Tryz.ntmps25
  go_wp2_with (go_at_call 66; refine (isText_true _ _ hs).mono ?_; rintro e w' ⟨rfl, rfl⟩)
  obtain ⟨W0, hW0⟩ : ∃ W0, w.alloc (.cells #[.int .i64 0, .int .i64 0] 46) = W0 := ⟨_, rfl⟩
  rw [hW0]
  have HT0 : Hid (Tabs W0) := Lib.hid (by rw [← hW0]; exact hT.out.below (one_new2 _ _))
  have HZ : Hid (w.heap.size < W0.heap.size) := Lib.hid (by rw [← hW0]; simp)
  go_loopw [5, 6] (fun v i wr => AllRel s W0 R v i wr) (fun v _ _ => 601 - sliceLen v)
  case atStart => exact ⟨600, 0, 0, [], none, 0, rfl, Nat.zero_le _, rfl, rfl, OwnK.nil _ _, Below.refl _ _, H0⟩
  case round =>
    obtain ⟨m, k, n, acc, ad, c, hmn, hk, rfl, rfl, ho, hb, HG⟩ := hrel
    have HO := Lib.hid ho
    have HB := Lib.hid hb
    have HTr := Lib.hid (HT0.out.below hb)
    clear ho hb
    rcases tkA_way s k hk with ⟨q, f, g, hf, e⟩ | ⟨q, e⟩ | ⟨kk, a, t, v, q, hkk, hq, e⟩
    · have HR := Lib.hid (go_fault HG.out e hf)
      have HA : Hid (∀ w, Hid (Tabs w) → Calls Tryz.prog 85 #[.string s, .int .i64 k] w (SaysV w (.tuple #[.agg #[.int .i64 0, .int .i64 0, .string ⟨#[]⟩, .int .i64 0], .int .i64 q, .agg #[.int .i64 f, .int .i64 g], .bool true]))) := Lib.hid (fun w hT => by
        have := implTokenAt_any s k w hs2 hT
        rw [taV_yes (ixB_yes hs hk), e] at this
        exact this)
      have df : (f != 0) = true := by simpa using hf
      clear e hf
      go_wp2_with (go_at_call 85; refine (HA.out _ HTr).mono ?_; rintro e w1 ⟨rfl, b1⟩; obtain ⟨p0, p1, p2, p3, hz, bb⟩ := loop_facts hW0 (HB.out.trans (b1.mono HB.out.size)); have B1 := Lib.hid bb; have P1 := Lib.hid (show _ ∧ _ from ⟨p0, p1⟩); clear b1 bb)
      go_region
      all_goals
        go_wp2
        have r2 := read2 P1.out.1 P1.out.2 hz (.int .i64 f) (.int .i64 g) (.cells #[.int .i64 0, .int .i64 0, .string ⟨#[]⟩, .int .i64 0] 31) (.cells #[.int .i64 f, .int .i64 g] 46)
        refine bodyPost_ret (v := .tuple #[.slice none 0 0, .agg #[.int .i64 f, .int .i64 g], .bool true]) (by simp [results, Tryz.results25, go_sem, r2.1, r2.2]) rfl ⟨.slice none 0 0, ?_, ?_, below_drewN ((((B1.out.setCell (Nat.le_refl _) _).setCell (Nat.le_refl _) _).alloc (by simpa using Nat.le_of_lt hz) _).alloc (by simp; omega) _) 1⟩
        · rw [HR.out]
        · rw [HR.out]; exact OwnK.nil _ _
    · have HR := Lib.hid (go_stop HG.out e)
      have HA : Hid (∀ w, Hid (Tabs w) → Calls Tryz.prog 85 #[.string s, .int .i64 k] w (SaysV w (.tuple #[.agg #[.int .i64 0, .int .i64 0, .string ⟨#[]⟩, .int .i64 0], .int .i64 q, .agg #[.int .i64 0, .int .i64 0], .bool true]))) := Lib.hid (fun w hT => by
        have := implTokenAt_any s k w hs2 hT
        rw [taV_yes (ixB_yes hs hk), e] at this
        exact this)
      clear e
      go_wp2_with (go_at_call 85; refine (HA.out _ HTr).mono ?_; rintro e w1 ⟨rfl, b1⟩; obtain ⟨p0, p1, p2, p3, hz, bb⟩ := loop_facts hW0 (HB.out.trans (b1.mono HB.out.size)); have B1 := Lib.hid bb; have P1 := Lib.hid (show _ ∧ _ from ⟨p0, p1⟩); have O1 := Lib.hid (HO.out.below b1 (Nat.le_refl _)); clear b1 bb)
      have r2 := read2 P1.out.1 P1.out.2 hz (.int .i64 0) (.int .i64 0) (.cells #[.int .i64 0, .int .i64 0, .string ⟨#[]⟩, .int .i64 0] 31) (.cells #[.int .i64 0, .int .i64 0] 46)
      refine bodyPost_ret (v := .tuple #[.slice ad n c, .agg #[.int .i64 0, .int .i64 0], .bool true]) (by simp [results, Tryz.results25, go_sem, r2.1, r2.2]) rfl ⟨.slice ad n c, ?_, ?_, ((((B1.out.setCell (Nat.le_refl _) _).setCell (Nat.le_refl _) _).alloc (by simpa using Nat.le_of_lt hz) _).alloc (by simp; omega) _)⟩
      · rw [HR.out]
      · rw [HR.out]
        show OwnK _ _ _ acc.length acc
        rw [O1.out.len]
        exact (O1.out.sets HZ.out).two (Nat.le_of_lt HZ.out) _ _
    · have HA : Hid (∀ w, Hid (Tabs w) → Calls Tryz.prog 85 #[.string s, .int .i64 k] w (SaysV w (.tuple #[.agg #[.int .i64 kk, .int .i64 a, .string t, .int .i64 v], .int .i64 q, .agg #[.int .i64 0, .int .i64 0], .bool true]))) := Lib.hid (fun w hT => by
        have := implTokenAt_any s k w hs2 hT
        rw [taV_yes (ixB_yes hs hk), e] at this
        exact this)
      have dk : (kk == 0) = false := by simpa using hkk
      by_cases hn : n = 600
      · have HR := Lib.hid (go_full HG.out e hkk (HO.out.len.trans hn))
        have dn : ((n : Int) == 600) = true := by simp; omega
        clear e hkk
        go_wp2_with (go_at_call 85; refine (HA.out _ HTr).mono ?_; rintro e w1 ⟨rfl, b1⟩; obtain ⟨p0, p1, p2, p3, hz, bb⟩ := loop_facts hW0 (HB.out.trans (b1.mono HB.out.size)); have B1 := Lib.hid bb; have P1 := Lib.hid (show _ ∧ _ from ⟨p0, p1⟩); clear b1 bb)
        go_region
        all_goals
          go_wp2
          have r2 := read2 P1.out.1 P1.out.2 hz (.int .i64 5) (.int .i64 a) (.cells #[.int .i64 kk, .int .i64 a, .string t, .int .i64 v] 31) (.cells #[.int .i64 0, .int .i64 0] 46)
          refine bodyPost_ret (v := .tuple #[.slice none 0 0, .agg #[.int .i64 5, .int .i64 a], .bool true]) (by simp [results, Tryz.results25, go_sem, r2.1, r2.2]) rfl ⟨.slice none 0 0, ?_, ?_, below_drewN ((((B1.out.setCell (Nat.le_refl _) _).setCell (Nat.le_refl _) _).alloc (by simpa using Nat.le_of_lt hz) _).alloc (by simp; omega) _) 1⟩
          · rw [HR.out]
          · rw [HR.out]; exact OwnK.nil _ _
      · have HR := Lib.hid (fun m' (hm : m = m' + 1) => go_more (R := R) (m := m' + 1) (by rw [← hm]; exact HG.out) e hkk (by rw [HO.out.len]; exact hn))
        have dn : ((n : Int) == 600) = false := by simp; omega
        clear e hkk
        have hn6 : n < 600 := by omega
        go_wp2_with (first | (go_at_call 85; refine (HA.out _ HTr).mono ?_; rintro e w1 ⟨rfl, b1⟩; have B1 := Lib.hid (HB.out.trans (b1.mono HB.out.size)); have O1 := Lib.hid (HO.out.below b1 (Nat.le_refl _)); clear b1) | (at_builtin; refine wpList_append_own _ rfl _ _ 23 rfl W0.heap.size 31 i0 (.agg #[.int .i64 0, .int .i64 0, .string ⟨#[]⟩, .int .i64 0]) 4 40 Tryz.underlying23 hi hz0 hz1 hz2 rfl (by decide) _ _ _ rfl (World.ownsRow.alloc (World.ownsRow.alloc (World.ownsRow.alloc (w := w1) O1.out _) _) _) ⟨w1.heap.size + 1 + 1, 0, none⟩ 1 1 [.int .i64 kk, .int .i64 a, .string t, .int .i64 v] rfl rfl (new4 w1 _ _ _ _ _ _ _) (one4 _ _ _ _) ?_ ?_ (three_size w1 _ _ _ _ B1.out.size) ?_; (unfold maxLen; omega); omega; intro v' w3 hown1 hgrow1 _; have RR := Lib.hid (OwnK.snoc (wr := w1) (x := ⟨kk, a, t, v⟩) O1.out B1.out (three_new w1 _ _ _) hown1 B1.out.size hgrow1); clear hown1 hgrow1))
        obtain ⟨m', rfl⟩ : ∃ m', m = m' + 1 := ⟨m - 1, by omega⟩
        obtain ⟨g', cap', hv'⟩   := RR.out.1.form (Nat.succ_pos _)
        have HV := Lib.hid hv'
        clear hv'
        go_roundw
        case rel => exact ⟨m', q, n + 1, acc ++ [⟨kk, a, t, v⟩], some ⟨g', 0, none⟩, cap', by omega, hq, rfl, HV.out, RR.out.1, RR.out.2, Lib.hid (HR.out m' rfl)⟩
        case measure => rw [HV.out]; simp [sliceLen]; omega
theorem implTokensOf_any (s : ByteArray) (w : World) (hT : Hid (Tabs w)) : Calls Tryz.prog 25 #[.string s] w (SaysL3 w (tkT s) (tkO s)) := by
  by_cases h : s.size ≤ 4000
  · rw [(tkT_yes h).1, (tkT_yes h).2]; exact implTokensOf_go s w (by omega) hT
  · rw [(tkT_no h).1, (tkT_no h).2]; exact implTokensOf_no s w (by omega)
end Go.Proofs.YtmmofchfafnkcaaGreatDoor

/- Lists of tokens compared by the laws. Lists of tokens marked and asked by the laws. Lists of tokens that are values of slots: comparing, marking, asking, whatever their length. -/
namespace Go.Proofs.YtmmofchfafnkcaaGreatDoor
set_option maxRecDepth 100000
open Go.RowKit

def tok0 : Tok := ⟨0, 0, ⟨#[]⟩, 0⟩
/-- the cells of a list of tokens lie from the start of a block on -/
def ToksAt (w : World) (g : Nat) (l : List Tok) : Prop := ∀ i j, j < 4 → i < l.length → w.cell? ⟨g, i * 4 + j, none⟩ = (tkC (l.getD i tok0))[j]?
theorem ToksAt.below {w w' : World} {g B : Nat} {l : List Tok} (h : ToksAt w g l) (hb : Below B w w') (hg : g < B) : ToksAt w' g l := fun i j hj hi => (hb.cell (p := ⟨g, i * 4 + j, none⟩) hg).trans (h i j hj hi)
theorem OwnK.toks {w : World} {B g n cap : Nat} {l : List Tok} (h : OwnK w B (.slice (some ⟨g, 0, none⟩) n cap) n l) : ToksAt w g l := by
  intro i j hj hi
  have hl := h.len
  rw [World.ownsRow.cellAt h (i * 4 + j) (by omega), tkCs_get l i j hj hi]
  rfl
theorem ToksAt.four {w : World} {g : Nat} {l : List Tok} (h : ToksAt w g l) (i : Nat) (hi : i < l.length) (x : Tok) (hx : l.getD i tok0 = x) :
    w.cell? ⟨g, i * 4, none⟩ = some (.int .i64 x.k) ∧ w.cell? ⟨g, i * 4 + 1, none⟩ = some (.int .i64 x.a) ∧ w.cell? ⟨g, i * 4 + 2, none⟩ = some (.string x.t) ∧ w.cell? ⟨g, i * 4 + 3, none⟩ = some (.int .i64 x.v) := by
  subst hx
  exact ⟨(h i 0 (by decide) hi), (h i 1 (by decide) hi), (h i 2 (by decide) hi), (h i 3 (by decide) hi)⟩
def EqTRel (w : World) (n : Nat) (i : Value) (wr : World) : Prop := ∃ k : Nat, k ≤ n ∧ i = .int .i64 k ∧ Below w.heap.size w wr

/-! Marks. -/
/-- the digits of a number in front of a text -/
def mtF : Nat → Nat → ByteArray → ByteArray
  | 0, _, o => o
  | f + 1, k, o => if k = 0 then o else mtF f (k / 10) (strOfNums [48 + ((k % 10 : Nat) : Int)] ++ o)
/-- the text that marks with a number -/
def mtS (k : Nat) : ByteArray := (⟨#[109]⟩ : ByteArray) ++ mtF k k ⟨#[]⟩
def MtRel (w : World) (R : ByteArray) (i o : Value) (wr : World) : Prop := ∃ (f : Nat) (k : Int) (t : ByteArray), 0 ≤ k ∧ k.toNat ≤ f ∧ i = .int .i64 k ∧ o = .string t ∧ t.size + k ≤ 1000000 ∧ Hid (mtF f k.toNat t = R) ∧ Below w.heap.size w wr
theorem conv_any (w : World) (z : Int) : (convert 22 9 (.slice (some ⟨w.heap.size, 0, none⟩) 1 1)).run Tryz.prog (w.alloc (.cells #[.int .u8 z] 5)) = .ok (.string (strOfNums [z])) (w.alloc (.cells #[.int .u8 z] 5)) :=
  run_convert_bytes_arg (w.alloc (.cells #[.int .u8 z] 5)) 22 5 Tryz.underlying22 Tryz.underlying5 w.heap.size 0 1 1 [z] rfl
    (fun i hi => by
      obtain rfl : i = 0 := by omega
      rw [World.cell?_alloc_at _ _ _ _ rfl]
      rfl) 9 Tryz.underlying9
theorem str_one (z : Int) : (strOfNums [z]).size = 1 := by rw [strOfNums_size]; rfl
end Go.Proofs.YtmmofchfafnkcaaGreatDoor

namespace Go.Proofs.YtmmofchfafnkcaaGreatDoor
open Go.RowKit
set_option linter.unusedVariables false

def mk4 (i : Nat) : Tok := ⟨4 * (i : Int) + 1, 4 * (i : Int) + 1 + 1, mtS (4 * (i : Int) + 1 + 1 + 1).toNat, 4 * (i : Int) + 1 + 1 + 1 + 1⟩
def marksT (n : Nat) : List Tok := (List.range n).map mk4
def markToT (l : List Tok) (k : Nat) : List Tok := marksT k ++ l.drop k
theorem marksT_length (n : Nat) : (marksT n).length = n := by simp [marksT]
theorem marksT_succ (n : Nat) : marksT (n + 1) = marksT n ++ [mk4 n] := by simp [marksT, List.range_succ]
theorem markToT_zero (l : List Tok) : markToT l 0 = l := by simp [markToT, marksT]
theorem markToT_all (l : List Tok) : markToT l l.length = marksT l.length := by simp [markToT]
theorem markToT_set (l : List Tok) (k : Nat) (h : k < l.length) : (markToT l k).set k (mk4 k) = markToT l (k + 1) := by
  unfold markToT
  rw [List.set_append_right _ _ (by rw [marksT_length]; exact Nat.le_refl _), marksT_length, Nat.sub_self, List.drop_eq_getElem_cons h, List.set_cons_zero, marksT_succ, List.append_assoc]
  rfl
theorem marksT_get (n k : Nat) (h : k < n) : (marksT n).getD k tok0 = mk4 k := by simp [marksT, List.getD_eq_getElem?_getD, h]
theorem tkCs_set : ∀ (l : List Tok) (k : Nat) (x : Tok), k < l.length →
    ((((tkCs l).set (k * 4) (.int .i64 x.k)).set (k * 4 + 1) (.int .i64 x.a)).set (k * 4 + 2) (.string x.t)).set (k * 4 + 3) (.int .i64 x.v) = tkCs (l.set k x)
  | [], k, x, h => absurd h (by simp)
  | y :: r, 0, x, _ => by simp [tkCs, tkC]
  | y :: r, k + 1, x, h => by
    have hc : ∀ z : Tok, ∀ q : List Tok, tkCs (z :: q) = .int .i64 z.k :: .int .i64 z.a :: .string z.t :: .int .i64 z.v :: tkCs q := fun z q => by simp [tkCs, tkC]
    have ih := tkCs_set r k x (by simpa using h)
    rw [List.set_cons_succ, hc, hc, ← ih]
    have e0 : (k + 1) * 4 = k * 4 + 4 := by omega
    have e1 : (k + 1) * 4 + 1 = k * 4 + 1 + 4 := by omega
    have e2 : (k + 1) * 4 + 2 = k * 4 + 2 + 4 := by omega
    have e3 : (k + 1) * 4 + 3 = k * 4 + 3 + 4 := by omega
    rw [e1, e2, e3, e0]
    rfl
theorem raw_below {w w' : World} {B g n cap : Nat} {xs : List Value} (h : w.ownsRow g 31 4 (.slice (some ⟨g, 0, none⟩) n cap) n xs) (hb : Below B w w') (hg : g < B) : w'.ownsRow g 31 4 (.slice (some ⟨g, 0, none⟩) n cap) n xs := by
  obtain ⟨h1, h2⟩ := h
  refine ⟨h1, ?_⟩
  rcases h2 with h2 | ⟨g', cap', cur, a, b, c, d⟩
  · exact .inl h2
  · cases a
    exact .inr ⟨g, cap, cur, rfl, b, by rw [hb.block g hg]; exact c, d⟩
/-- behind two marks and a call -/
theorem mark_mid {wr w1 : World} {g n cap k : Nat} {L : List Tok} {a b : Value} (h : OwnK wr g (.slice (some ⟨g, 0, none⟩) n cap) n L) (hk : k < n) (x : Tok) (hx : L.getD k tok0 = x)
    (b1 : Below ((wr.setCell ⟨g, k * 4, none⟩ a).setCell ⟨g, k * 4 + 1, none⟩ b).heap.size ((wr.setCell ⟨g, k * 4, none⟩ a).setCell ⟨g, k * 4 + 1, none⟩ b) w1) :
    w1.cell? ⟨g, k * 4 + 2, none⟩ = some (.string x.t) ∧ w1.cell? ⟨g, k * 4 + 3, none⟩ = some (.int .i64 x.v) ∧ w1.frozen? ⟨g, k * 4 + 2, none⟩ = false ∧ w1.frozen? ⟨g, k * 4 + 3, none⟩ = false ∧
    w1.ownsRow g 31 4 (.slice (some ⟨g, 0, none⟩) n cap) n (((tkCs L).set (k * 4) a).set (k * 4 + 1) b) := by
  have hg := (World.ownsRow.lt h g rfl).2
  have hl := h.len
  have h2 := (World.ownsRow.stored (World.ownsRow.stored h (k * 4) a).1 (k * 4 + 1) b).1
  have h3 := raw_below h2 b1 (by simpa using hg)
  have g2 := tkCs_get L k 2 (by decide) (by omega)
  have g3 := tkCs_get L k 3 (by decide) (by omega)
  subst hx
  refine ⟨?_, ?_, World.ownsRow.frozenAt h3 _, World.ownsRow.frozenAt h3 _, h3⟩
  · rw [World.ownsRow.cellAt h3 _ (by omega), List.getElem?_set_ne (by omega), List.getElem?_set_ne (by omega), g2]; rfl
  · rw [World.ownsRow.cellAt h3 _ (by omega), List.getElem?_set_ne (by omega), List.getElem?_set_ne (by omega), g3]; rfl
theorem OnlyGrown.set {g : Nat} {w wr : World} (h : OnlyGrown g w wr) (hg : g < wr.heap.size) (k : Nat) (v : Value) : OnlyGrown g w (wr.setCell ⟨g, k, none⟩ v) := h.step hg (Below.refl _ _) k v
/-- a mark is made -/
theorem mark_done {w wr w1 : World} {g n cap k : Nat} {l : List Tok} {m : Int} (h : OwnK wr g (.slice (some ⟨g, 0, none⟩) n cap) n (markToT l k)) (hl : k < l.length) (hm : m = 4 * (k : Int) + 1)
    (h1 : w1.ownsRow g 31 4 (.slice (some ⟨g, 0, none⟩) n cap) n (((tkCs (markToT l k)).set (k * 4) (.int .i64 m)).set (k * 4 + 1) (.int .i64 (m + 1)))) (hO : OnlyGrown g w wr)
    (b1 : Below ((wr.setCell ⟨g, k * 4, none⟩ (.int .i64 m)).setCell ⟨g, k * 4 + 1, none⟩ (.int .i64 (m + 1))).heap.size ((wr.setCell ⟨g, k * 4, none⟩ (.int .i64 m)).setCell ⟨g, k * 4 + 1, none⟩ (.int .i64 (m + 1))) w1) :
    OwnK ((w1.setCell ⟨g, k * 4 + 2, none⟩ (.string (mtS (m + 1 + 1).toNat))).setCell ⟨g, k * 4 + 3, none⟩ (.int .i64 (m + 1 + 1 + 1))) g (.slice (some ⟨g, 0, none⟩) n cap) n (markToT l (k + 1)) ∧
    OnlyGrown g w ((w1.setCell ⟨g, k * 4 + 2, none⟩ (.string (mtS (m + 1 + 1).toNat))).setCell ⟨g, k * 4 + 3, none⟩ (.int .i64 (m + 1 + 1 + 1))) := by
  have hg := (World.ownsRow.lt h g rfl).2
  have hlen : k < (markToT l k).length := by simp [markToT, marksT_length]; omega
  refine ⟨?_, ?_⟩
  · have h3 := (World.ownsRow.stored (World.ownsRow.stored h1 (k * 4 + 2) (.string (mtS (m + 1 + 1).toNat))).1 (k * 4 + 3) (.int .i64 (m + 1 + 1 + 1))).1
    have e := tkCs_set (markToT l k) k (mk4 k) hlen
    rw [markToT_set l k hl] at e
    subst hm
    unfold OwnK
    rw [← e]
    exact h3
  · have q := ((hO.set hg (k * 4) (.int .i64 m)).set (by simpa using hg) (k * 4 + 1) (.int .i64 (m + 1)))
    have q2 := q.step (by simpa using hg) b1 (k * 4 + 2) (.string (mtS (m + 1 + 1).toNat))
    exact q2.set (by have := b1.size; simp at this ⊢; omega) _ _
def MarkRelT (w : World) (g n cap : Nat) (l : List Tok) (m i : Value) (wr : World) : Prop :=
  ∃ (k : Nat) (q : Int), k ≤ n ∧ i = .int .i64 k ∧ m = .int .i64 q ∧ Hid (q = 4 * (k : Int) + 1) ∧ 1 ≤ q ∧ q ≤ 2401 ∧ OwnK wr g (.slice (some ⟨g, 0, none⟩) n cap) n (markToT l k) ∧ OnlyGrown g w wr
end Go.Proofs.YtmmofchfafnkcaaGreatDoor

namespace Go.Proofs.YtmmofchfafnkcaaGreatDoor
open Go.RowKit
set_option linter.unusedVariables false

/-- a slice holds a list of tokens -/
def SlT (w : World) (v : Value) (l : List Tok) : Prop :=
  (l = [] ∧ ∃ ad c, v = .slice ad 0 c) ∨ (∃ g c, v = .slice (some ⟨g, 0, none⟩) l.length c ∧ ToksAt w g l ∧ g < w.heap.size)
theorem SlT.below {w w' : World} {v : Value} {l : List Tok} (h : SlT w v l) (hb : Below w.heap.size w w') : SlT w' v l := by
  rcases h with h | ⟨g, c, hv, ht, hg⟩
  · exact .inl h
  · exact .inr ⟨g, c, hv, ht.below hb hg, Nat.lt_of_lt_of_le hg hb.size⟩
/-- the same where only what lies behind a place was written -/
theorem SlT.deep {wo w w' : World} {v : Value} {l : List Tok} {B : Nat} (ho : SlT wo v l) (hB : wo.heap.size ≤ B) (h1 : Below wo.heap.size wo w) (hb : Below B w w') : SlT w' v l :=
  ho.below (h1.trans (hb.mono hB))
theorem OwnK.slt {w : World} {B n : Nat} {v : Value} {l : List Tok} (h : OwnK w B v n l) : SlT w v l := by
  have hl := h.len
  rcases Nat.eq_zero_or_pos n with hn | hn
  · refine .inl ⟨List.eq_nil_of_length_eq_zero (by omega), ?_⟩
    rcases h.2 with ⟨hv, _⟩ | ⟨g, cap, cur, hv, _⟩
    · exact ⟨none, 0, hv⟩
    · subst hn; exact ⟨_, _, hv⟩
  · obtain ⟨g, cap, hv⟩ := h.form hn
    subst hv
    exact .inr ⟨g, cap, by rw [hl], h.toks, (World.ownsRow.lt h g rfl).2⟩
/-- two cells of the call's own -/
def Two (w : World) (g : Nat) (a b : Value) : Prop := w.cell? ⟨g, 0, none⟩ = some a ∧ w.cell? ⟨g, 1, none⟩ = some b
theorem Two.below {w w' : World} {g B : Nat} {a b : Value} (h : Two w g a b) (hb : Below B w w') (hg : g < B) : Two w' g a b :=
  ⟨(hb.cell (p := ⟨g, 0, none⟩) hg).trans h.1, (hb.cell (p := ⟨g, 1, none⟩) hg).trans h.2⟩
theorem two_cells {w wr : World} {a b : Value} {T : TypeId} (h : w.alloc (.cells #[a, b] T) = wr) : Two wr w.heap.size a b ∧ Below w.heap.size w wr ∧ w.heap.size < wr.heap.size := by
  subst h
  exact ⟨⟨by simp [go_sem], by simp [go_sem]⟩, one_new2 _ _, by simp⟩
theorem tkGo_len (s : ByteArray) : ∀ (m i : Nat) (acc : List Tok), acc.length ≤ 600 → (tkGo s m i acc).l.length ≤ 600
  | 0, _, _, _ => by simp [tkGo]
  | m + 1, i, acc, h => by
    rw [tkGo]
    split
    · simp
    · split
      · exact h
      · split
        · simp
        · exact tkGo_len s m _ _ (by simp; omega)
theorem tkT_len (s : ByteArray) : (tkT s).l.length ≤ 600 := by
  unfold tkT
  split
  · exact tkGo_len s 601 0 [] (by simp)
  · simp
end Go.Proofs.YtmmofchfafnkcaaGreatDoor
