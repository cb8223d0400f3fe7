import Derived.Test.YtmmofchfafnkcaaGreatDoorPka
import Derived.Test.YtmmofchfafnkcaaGreatDoorPkk
import Derived.Deep.OwnRows
import Derived.Laws.Bits64b
/- Slices of integers: what reads as a list of integers, what the call made itself, and the contracts of the copying and comparing functions of the laws. -/
namespace Go.Proofs.YtmmofchfafnkcaaGreatDoor
set_option maxRecDepth 100000
open Go.RowKit

theorem infoI : (Tryz.prog.info? 3).map (fun i => (i.zero, i.size, i.bytes)) = some (some (.int .i64 0), 1, 8) := by kernel_rfl

/-- the cells of a list of bytes -/
def iv (zs : List Int) : List Value := zs.map (Value.int .i64)
theorem iv_length (zs : List Int) : (iv zs).length = zs.length := by simp [iv]
theorem iv_get (zs : List Int) (i : Nat) (h : i < zs.length) : (iv zs)[i]? = some (.int .i64 (zs.getD i 0)) := by
  simp [iv, h]

/-- in world w, the bytes zs lie from cell off of block b on -/
def RowI (w : World) (b off : Nat) (zs : List Int) : Prop :=
  (∀ i, i < zs.length → w.cell? ⟨b, off + i, none⟩ = some (.int .i64 (zs.getD i 0))) ∧ ∀ n ∈ zs, -9223372036854775808 ≤ n ∧ n ≤ 9223372036854775807

/-- a slice of n bytes of the call's own: block g, the bytes zs -/
def OwnI (w : World) (B g n cap : Nat) (zs : List Int) : Prop :=
  w.ownsRow B 3 1 (.slice (some ⟨g, 0, none⟩) n cap) n (iv zs)

theorem OwnI.len {w : World} {B g n cap : Nat} {zs : List Int} (h : OwnI w B g n cap zs) : zs.length = n := by
  have := h.1; rw [iv_length] at this; omega
theorem OwnI.lt {w : World} {B g n cap : Nat} {zs : List Int} (h : OwnI w B g n cap zs) : B ≤ g ∧ g < w.heap.size := World.ownsRow.lt h g rfl
theorem OwnI.row {w : World} {B g n cap : Nat} {zs : List Int} (h : OwnI w B g n cap zs) (hr : ∀ n ∈ zs, -9223372036854775808 ≤ n ∧ n ≤ 9223372036854775807) : RowI w g 0 zs := by
  refine ⟨fun i hi => ?_, hr⟩
  have hl := h.len
  have := World.ownsRow.cellAt h i (by omega)
  rw [Nat.zero_add, this, iv_get _ _ hi]
theorem OwnI.below {w w' : World} {B B' g n cap : Nat} {zs : List Int} (h : OwnI w B g n cap zs) (hb : Below B' w w') (hg : g < B') : OwnI w' B g n cap zs := by
  obtain ⟨h1, h2⟩ := h
  refine ⟨h1, ?_⟩
  rcases h2 with h2 | ⟨g', cap', cur, a, b, c, d⟩
  · exact .inl h2
  · cases a
    exact .inr ⟨g, cap, cur, rfl, b, by rw [hb.block g hg]; exact c, d⟩
theorem OwnI.base {w : World} {B B' g n cap : Nat} {zs : List Int} (h : OwnI w B g n cap zs) (hB : B' ≤ B) : OwnI w B' g n cap zs := by
  obtain ⟨h1, h2⟩ := h
  refine ⟨h1, ?_⟩
  rcases h2 with h2 | ⟨g', cap', cur, a, b, c, d⟩
  · exact .inl h2
  · exact .inr ⟨g', cap', cur, a, Nat.le_trans hB b, c, d⟩
theorem RowI.below {w w' : World} {b off B : Nat} {zs : List Int} (h : RowI w b off zs) (hb : Below B w w') (hB : b < B) : RowI w' b off zs :=
  ⟨fun i hi => (hb.cell (p := ⟨b, off + i, none⟩) hB).trans (h.1 i hi), h.2⟩
theorem RowI.drewN {w : World} {b off : Nat} {zs : List Int} (h : RowI w b off zs) (q : Nat) : RowI (w.drewN q) b off zs := h
theorem RowI.at {w : World} {b off : Nat} {zs : List Int} (h : RowI w b off zs) (k : Nat) (hk : k < zs.length) :
    ∃ c, Hid (c = zs.getD k 0) ∧ -9223372036854775808 ≤ c ∧ c ≤ 9223372036854775807 ∧ w.cell? ⟨b, off + k, none⟩ = some (.int .i64 c) := by
  refine ⟨zs.getD k 0, rfl, ?_, ?_, h.1 k hk⟩
  · exact (h.2 _ (by rw [List.getD_eq_getElem?_getD, List.getElem?_eq_getElem hk]; exact List.getElem_mem hk)).1
  · exact (h.2 _ (by rw [List.getD_eq_getElem?_getD, List.getElem?_eq_getElem hk]; exact List.getElem_mem hk)).2

/-- what a slice that came in reads as: nothing, or a row of bytes -/
def InI (w : World) (a : Option Addr) (zs : List Int) : Prop :=
  zs = [] ∨ ∃ b off, a = some ⟨b, off, none⟩ ∧ RowI w b off zs

/-- a copy was made: a new block that holds the bytes -/
def MadeI (w : World) (n : Nat) (zs : List Int) (e : Ending) (w' : World) : Prop :=
  e = .returned (.slice (some ⟨w.heap.size, 0, none⟩) n n) ∧ OwnI w' w.heap.size w.heap.size n n zs ∧ Below w.heap.size w w'

theorem iv_set (zs : List Int) (k : Nat) (c : Int) : (iv zs).set k (.int .i64 c) = iv (zs.set k c) := by simp [iv, List.map_set]
theorem OwnI.store {w : World} {B g n cap : Nat} {zs : List Int} (h : OwnI w B g n cap zs) (k : Nat) (c : Int) : OwnI (w.setCell ⟨g, k, none⟩ (.int .i64 c)) B g n cap (zs.set k c) := by
  have := (World.ownsRow.stored h k (.int .i64 c)).1
  rw [iv_set] at this
  exact this
theorem OwnI.cell {w : World} {B g n cap : Nat} {zs : List Int} (h : OwnI w B g n cap zs) (k : Nat) (hk : k < n) : w.cell? ⟨g, k, none⟩ = some (.int .i64 (zs.getD k 0)) := by
  have hl := h.len
  rw [World.ownsRow.cellAt h k (by omega), iv_get _ _ (by omega)]

theorem madeI {w : World} {B g n : Nat} (h : w.ownsRow B 3 1 (.slice (some ⟨g, 0, none⟩) n n) n (madeCells (Value.int .i64 0).cells (n * 1)).toList) : OwnI w B g n n (List.replicate n 0) := by
  have e : (madeCells (Value.int .i64 0).cells (n * 1)).toList = iv (List.replicate n 0) := by
    rw [Nat.mul_one, iv, List.map_replicate]
    exact toList_madeCells_one _ n
  rw [e] at h
  exact h

/-- at each round's head of the copying loop -/
def CopyRelI (w : World) (n : Nat) (zs : List Int) (i : Value) (wr : World) : Prop :=
  ∃ k : Nat, k ≤ n ∧ i = .int .i64 k ∧ OwnI wr w.heap.size w.heap.size n n (fillTo zs k) ∧ Below w.heap.size w wr

def EqRelI (w : World) (n : Nat) (i : Value) (wr : World) : Prop := ∃ k q : Nat, k ≤ n ∧ i = .int .i64 k ∧ wr = w.drewN q

theorem wf_i64 {n : Int} (h : (Lit.int .i64 n).wf = true) : -9223372036854775808 ≤ n ∧ n ≤ 9223372036854775807 := by
  have h' : (decide (IntKind.i64.min ≤ n) && decide (n ≤ IntKind.i64.max)) = true := h
  have e1 : IntKind.i64.min = -9223372036854775808 := by decide
  have e2 : IntKind.i64.max = 9223372036854775807 := by decide
  rw [e1, e2] at h'
  simp at h'
  exact h'
theorem IsRow.viewI {w : World} {a : Option Addr} {len cap : Nat} {zs : List Int} (h : IsRow .i64 w a len cap zs) : len ≤ maxLen ∧ ∃ ys, Hid (ys.length = len) ∧ Hid (InI w a ys) := by
  rcases h with ⟨rfl, rfl, rfl, rfl⟩ | ⟨x, rfl, hl, hm, hz, hcell, hwf⟩
  · exact ⟨Nat.zero_le _, [], rfl, .inl rfl⟩
  · refine ⟨Nat.le_trans hl hm, zs.take len, by unfold Hid; simp; omega, ?_⟩
    rcases Nat.eq_zero_or_pos len with rfl | hp
    · exact .inl (by simp)
    · obtain ⟨b, off, spot⟩ := x
      have hspot : spot = none := by simpa [Addr.add] using World.cell?_spot (hcell 0 (by omega))
      subst hspot
      refine .inr ⟨b, off, rfl, fun i hi => ?_, fun n hn => wf_i64 (hwf n (List.mem_of_mem_take hn))⟩
      simp at hi
      have := hcell i (by omega)
      rw [show (⟨b, off, none⟩ : Addr).add i = ⟨b, off + i, none⟩ by unfold Addr.add; split <;> simp_all] at this
      rw [this]
      simp [List.getD_eq_getElem?_getD]
      rw [List.getElem?_take, if_pos (by omega)]
theorem InI.below {w w' : World} {a : Option Addr} {zs : List Int} (h : InI w a zs) (hb : Below w.heap.size w w') : InI w' a zs := by
  by_cases e : zs = []
  · exact .inl e
  · rcases h with h | ⟨b, off, rfl, hr⟩
    · exact absurd h e
    · have hp : 0 < zs.length := List.length_pos_iff.2 e
      exact .inr ⟨b, off, rfl, hr.below hb (World.block_lt_of_cell? w _ (hr.1 0 hp))⟩
theorem InI.range {w : World} {a : Option Addr} {zs : List Int} (h : InI w a zs) : ∀ n ∈ zs, -9223372036854775808 ≤ n ∧ n ≤ 9223372036854775807 := by
  rcases h with rfl | ⟨b, off, rfl, hr⟩
  · intro n hn; cases hn
  · exact hr.2
end Go.Proofs.YtmmofchfafnkcaaGreatDoor

/- CountTokens: what it answers, its contracts, program and model; what the laws do with lists of tokens and of counts. -/
namespace Go.Proofs.YtmmofchfafnkcaaGreatDoor
set_option maxRecDepth 100000
open Go.RowKit
set_option linter.unusedVariables false

theorem lsG_len6 {l : List Tok} (h : lsG l = true) : l.length ≤ 600 := by
  unfold lsG at h
  have := (Bool.and_eq_true_iff.1 h).2
  simpa using this
/-- how many tokens of a kind -/
def cK (l : List Tok) (i : Int) : Nat := (l.filter (fun x => x.k == i)).length
theorem cK_le (l : List Tok) (i : Int) : cK l i ≤ l.length := List.length_filter_le _ _
theorem cK_more (l : List Tok) (k : Nat) (h : k < l.length) (x : Tok) (hx : l.getD k tok0 = x) (i : Int) : cK (l.take (k + 1)) i = cK (l.take k) i + (if x.k = i then 1 else 0) := by
  have hl : l[k] = x := by rw [← hx]; simp [List.getD_eq_getElem?_getD, h]
  unfold cK
  rw [List.take_succ_eq_append_getElem h, List.filter_append, hl, List.length_append]
  by_cases hi : x.k = i
  · simp [hi]
  · simp [hi]
def cntL (l : List Tok) : List Int := [(cK l 1 : Int), (cK l 2 : Int), (cK l 3 : Int), (cK l 4 : Int)]
theorem tkKi_in {t : ByteArray} (h : tkFa t = 0) : tkKi t = 1 ∨ tkKi t = 2 ∨ tkKi t = 3 ∨ tkKi t = 4 := by
  rcases Nat.eq_zero_or_pos t.size with hz | hz
  · rw [tk_nil t hz] at h; cases h
  · rcases tk_way t hz with ⟨v, d, r, e, k, x⟩ | ⟨d, r, e⟩ | ⟨d, l, e, k, x⟩ | ⟨d, l, q, e⟩ | ⟨d, l, q, i, e, k, x⟩ | ⟨d, l, q, i, e, k, x⟩
    · exact .inr (.inr (.inl k))
    · rw [e] at h; cases h
    · exact .inr (.inr (.inr k))
    · rw [e] at h; cases h
    · exact .inl k
    · exact .inr (.inl k)
theorem good_kind {k a v : Int} {s : ByteArray} (h : goodT k a s v = true) : k = 1 ∨ k = 2 ∨ k = 3 ∨ k = 4 := by
  unfold goodT at h
  simp only [Bool.and_eq_true, decide_eq_true_eq, beq_iff_eq] at h
  rw [← h.2.2.1]
  exact tkKi_in h.2.1
theorem alG_kind : ∀ (l : List Tok), alG l = true → ∀ k, k < l.length → (l.getD k tok0).k = 1 ∨ (l.getD k tok0).k = 2 ∨ (l.getD k tok0).k = 3 ∨ (l.getD k tok0).k = 4
  | [], _, k, hk => absurd hk (by simp)
  | x :: r, h, k, hk => by
    unfold alG at h
    rw [Bool.and_eq_true] at h
    match k, hk with
    | 0, _ => exact good_kind h.1
    | k + 1, hk => exact alG_kind r h.2 k (by simpa using hk)
theorem lsG_kind {l : List Tok} (h : lsG l = true) : ∀ k, k < l.length → (l.getD k tok0).k = 1 ∨ (l.getD k tok0).k = 2 ∨ (l.getD k tok0).k = 3 ∨ (l.getD k tok0).k = 4 := by
  unfold lsG at h
  exact alG_kind l (Bool.and_eq_true_iff.1 h).1
/-- four counts of the call's own -/
def SaysC (w : World) (l : List Tok) (e : Ending) (w' : World) : Prop := e = .returned (.tuple #[.slice none 0 0, .bool false]) ∧ lsG l = false ∧ Below w.heap.size w w' ∨
  lsG l = true ∧ ∃ g, e = .returned (.tuple #[.slice (some ⟨g, 0, none⟩) 4 4, .bool true]) ∧ OwnI w' w.heap.size g 4 4 (cntL l) ∧ Below w.heap.size w w'
def CtRel (W0 : World) (l : List Tok) (n gt : Nat) (i : Value) (wr : World) : Prop := ∃ k : Nat, k ≤ n ∧ i = .int .i64 k ∧ OwnI wr gt gt 4 4 (cntL (l.take k)) ∧ Below gt W0 wr
theorem OwnI.walk {w : World} {g n : Nat} {zs : List Int} (h : OwnI w g g n n zs) (k : Nat) (hk : k < n) (c : Int) (hc : zs.getD k 0 = c) :
    (∀ o, (w.alloc o).cell? ⟨g, k, none⟩ = some (.int .i64 c)) ∧ (∀ o, (w.alloc o).frozen? ⟨g, k, none⟩ = false) :=
  ⟨fun o => by rw [OwnI.cell (World.ownsRow.alloc (w := w) h o : OwnI (w.alloc o) g g n n zs) k hk, hc], fun o => World.ownsRow.frozenAt (World.ownsRow.alloc (w := w) h o) k⟩
theorem ct_round {W0 wr : World} {zs ys : List Int} {gt j : Nat} {c : Int} {T : TypeId} {cs : Array Value} (ho : OwnI wr gt gt 4 4 zs) (hb : Below gt W0 wr) (hs : zs.set j c = ys) :
    OwnI ((wr.setCell ⟨gt, j, none⟩ (.int .i64 c)).alloc (.cells cs T)) gt gt 4 4 ys ∧ Below gt W0 ((wr.setCell ⟨gt, j, none⟩ (.int .i64 c)).alloc (.cells cs T)) := by
  have hlt := ho.lt.2
  have h2 := ho.store j c
  rw [hs] at h2
  have b2 := hb.setCell (p := ⟨gt, j, none⟩) (Nat.le_refl gt) (.int .i64 c)
  exact ⟨World.ownsRow.alloc h2 _, b2.alloc (by simp; omega) _⟩
theorem ct_start (l : List Tok) (w1 : World) :
    OwnI (w1.alloc (.cells (madeCells #[.int .i64 0] 4) 3)) w1.heap.size w1.heap.size 4 4 (cntL (l.take 0)) ∧ Below w1.heap.size w1 (w1.alloc (.cells (madeCells #[.int .i64 0] 4) 3)) := by
  refine ⟨?_, one_new2 w1 _⟩
  have h := World.ownsRow_lit (base := w1.heap.size) (e := 3) (size := 1) w1 (madeCells #[.int .i64 0] 4) 4 (Nat.le_refl _) (by unfold maxLen; omega) (by rw [← Array.length_toList, toList_madeCells_one]; simp)
  rw [toList_madeCells_one] at h
  exact h
set_option maxHeartbeats 6400000 in
theorem implCount_good (ad : Option Addr) (n c : Nat) (l : List Tok) (w : World) (HT : Hid (Tabs w)) (h : Hid (SlT w (.slice ad n c) l)) (HD : Hid (0 < n → ∃ g, ad = some ⟨g, 0, none⟩ ∧ ToksAt w g l ∧ g < w.heap.size)) (HZ : Hid (SzT l)) (hn : Hid (l.length = n)) (hm : n ≤ 600) (hls : Hid (lsG l = true)) :
    Calls Tryz.prog 9 #[.slice ad n c] w (SaysC w l) := by
  have HA := Lib.hid (areTokens_any (.slice ad n c) l w HT h HZ)
  rw [hls.out] at HA
  have HK := Lib.hid (lsG_kind hls.out)
  have hmk := run_make_row' (P := Tryz.prog) 27 3 (.int .i64 0) 8 Tryz.underlying27 infoI rfl .i64 .i64 4 (by omega) (by omega)
  rw [show ((4 : Nat) : Int) = 4 from rfl] at hmk
  go_enter Tryz.func9, Tryz.ntmps9
  go_wp2_with (go_at_call 64; refine (HA.out).mono ?_; rintro e w1 ⟨rfl, b1⟩; have B1 := Lib.hid b1; clear b1)
  have HST := Lib.hid (ct_start l w1)
  go_loopw [13] (fun i wr => CtRel w1 l n w1.heap.size i wr) (fun i _ => n - (intOf i).toNat)
  case atStart => exact ⟨0, Nat.zero_le _, rfl, HST.out.1, HST.out.2⟩
  case round =>
    obtain ⟨k, hk, rfl, ho, hb⟩ := hrel
    have HO := Lib.hid ho
    have HB := Lib.hid hb
    by_cases hlt : k < n
    · obtain ⟨g, rfl, ht, hg⟩ := HD.out (by omega)
      obtain ⟨x, hx⟩ : ∃ x, l.getD k tok0 = x := ⟨_, rfl⟩
      have hl1 : k < l.length := by rw [hn.out]; exact hlt
      have hg1 := Nat.lt_of_lt_of_le hg B1.out.size
      obtain ⟨a0, a1, a2, a3⟩ := ((ht.below B1.out hg).below hb hg1).four k hl1 x hx
      have hkd := HK.out k hl1
      rw [hx] at hkd
      have HX := Lib.hid (fun i => cK_more l k hl1 x hx i)
      have hle := fun i => Nat.le_trans (cK_le (l.take k) i) (by rw [List.length_take]; omega : (l.take k).length ≤ 600)
      obtain ⟨c1, hc1⟩ : ∃ c1, cK (l.take k) 1 = c1 := ⟨_, rfl⟩
      obtain ⟨c2, hc2⟩ : ∃ c2, cK (l.take k) 2 = c2 := ⟨_, rfl⟩
      obtain ⟨c3, hc3⟩ : ∃ c3, cK (l.take k) 3 = c3 := ⟨_, rfl⟩
      obtain ⟨c4, hc4⟩ : ∃ c4, cK (l.take k) 4 = c4 := ⟨_, rfl⟩
      have h1 := hle 1
      have h2 := hle 2
      have h3 := hle 3
      have h4 := hle 4
      rw [hc1] at h1
      rw [hc2] at h2
      rw [hc3] at h3
      rw [hc4] at h4
      have e : cntL (l.take k) = [(c1 : Int), (c2 : Int), (c3 : Int), (c4 : Int)] := by unfold cntL; rw [hc1, hc2, hc3, hc4]
      have e1 : cntL (l.take (k + 1)) = [((c1 + (if x.k = 1 then 1 else 0) : Nat) : Int), ((c2 + (if x.k = 2 then 1 else 0) : Nat) : Int), ((c3 + (if x.k = 3 then 1 else 0) : Nat) : Int), ((c4 + (if x.k = 4 then 1 else 0) : Nat) : Int)] := by
        unfold cntL; rw [HX.out, HX.out, HX.out, HX.out, hc1, hc2, hc3, hc4]
      have E1 := Lib.hid e1
      rw [e] at ho HO
      have hgt := ho.lt.2
      obtain ⟨xk, xa, xt, xv⟩ := x
      clear hb hx hl1 e e1 HX hle hc1 hc2 hc3 hc4
      rcases hkd with hkd | hkd | hkd | hkd
      all_goals
        have hkd2 : xk = _ := hkd
        clear hkd
        subst hkd2
      · obtain ⟨s0, s1⟩ := ho.walk 0 (by decide) _ rfl
        clear ho
        go_wp2_with fail
        go_roundw
        case rel =>
          have q := ct_round (j := 0) (c := (c1 : Int) + 1) (ys := cntL (l.take (k + 1))) (T := 31) (cs := #[.int .i64 1, .int .i64 xa, .string xt, .int .i64 xv]) HO.out HB.out (by rw [E1.out]; simp)
          exact ⟨k + 1, by omega, by go_num, q.1, q.2⟩
        case measure => simp [intOf]; omega
      · obtain ⟨s0, s1⟩ := ho.walk 1 (by decide) _ rfl
        clear ho
        go_wp2_with fail
        go_roundw
        case rel =>
          have q := ct_round (j := 1) (c := (c2 : Int) + 1) (ys := cntL (l.take (k + 1))) (T := 31) (cs := #[.int .i64 2, .int .i64 xa, .string xt, .int .i64 xv]) HO.out HB.out (by rw [E1.out]; simp)
          exact ⟨k + 1, by omega, by go_num, q.1, q.2⟩
        case measure => simp [intOf]; omega
      · obtain ⟨s0, s1⟩ := ho.walk 2 (by decide) _ rfl
        clear ho
        go_wp2_with fail
        go_roundw
        case rel =>
          have q := ct_round (j := 2) (c := (c3 : Int) + 1) (ys := cntL (l.take (k + 1))) (T := 31) (cs := #[.int .i64 3, .int .i64 xa, .string xt, .int .i64 xv]) HO.out HB.out (by rw [E1.out]; simp)
          exact ⟨k + 1, by omega, by go_num, q.1, q.2⟩
        case measure => simp [intOf]; omega
      · obtain ⟨s0, s1⟩ := ho.walk 3 (by decide) _ rfl
        clear ho
        go_wp2_with fail
        go_roundw
        case rel =>
          have q := ct_round (j := 3) (c := (c4 : Int) + 1) (ys := cntL (l.take (k + 1))) (T := 31) (cs := #[.int .i64 4, .int .i64 xa, .string xt, .int .i64 xv]) HO.out HB.out (by rw [E1.out]; simp)
          exact ⟨k + 1, by omega, by go_num, q.1, q.2⟩
        case measure => simp [intOf]; omega
    · have hkn : k = n := by omega
      subst hkn
      have HF : Hid (OwnI wr w.heap.size w1.heap.size 4 4 (cntL l)) := Lib.hid (by
        have q := ho
        rw [List.take_of_length_le (by rw [hn.out]; exact Nat.le_refl _)] at q
        exact q.base B1.out.size)
      have HB1 := Lib.hid (B1.out.trans (hb.mono B1.out.size))
      clear ho hb
      go_wp2_with fail
      go_ret2
      exact .inr ⟨hls.out, w1.heap.size, rfl, HF.out, HB1.out⟩
theorem implCount_bad (v : Value) (l : List Tok) (w : World) (HT : Hid (Tabs w)) (h : Hid (SlT w v l)) (HZ : Hid (SzT l)) (hls : Hid (lsG l = false)) :
    Calls Tryz.prog 9 #[v] w (SaysC w l) := by
  have HA := Lib.hid (areTokens_any v l w HT h HZ)
  rw [hls.out] at HA
  go_enter Tryz.func9, Tryz.ntmps9
  go_wp2_with (go_at_call 64; refine (HA.out).mono ?_; rintro e w1 ⟨rfl, b1⟩; have B1 := Lib.hid b1; clear b1)
  go_ret2
  exact .inl ⟨rfl, hls.out, B1.out⟩
theorem implCount_any (v : Value) (l : List Tok) (w : World) (HT : Hid (Tabs w)) (h : Hid (SlT w v l)) (HZ : Hid (SzT l)) :
    Calls Tryz.prog 9 #[v] w (SaysC w l) := by
  rcases Bool.eq_false_or_eq_true (lsG l) with hls | hls
  · have hm := lsG_len6 hls
    rcases h.out with ⟨hl, ad, c, hv⟩ | ⟨g, c, hv, ht, hg⟩
    · subst hv
      exact implCount_good ad 0 c l w HT h (Lib.hid (fun q => absurd q (by omega))) HZ (Lib.hid (by rw [hl]; rfl)) (by omega) hls
    · subst hv
      exact implCount_good (some ⟨g, 0, none⟩) l.length c l w HT h (Lib.hid (fun _ => ⟨g, rfl, ht, hg⟩)) HZ rfl hm hls
  · exact implCount_bad v l w HT h HZ hls
set_option maxHeartbeats 6400000 in
theorem specCount_good (ad : Option Addr) (n c : Nat) (l : List Tok) (w : World) (h : Hid (SlT w (.slice ad n c) l)) (HD : Hid (0 < n → ∃ g, ad = some ⟨g, 0, none⟩ ∧ ToksAt w g l ∧ g < w.heap.size)) (HZ : Hid (SzT l)) (hn : Hid (l.length = n)) (hm : n ≤ 600) (hls : Hid (lsG l = true)) :
    Calls Tryz.prog 10 #[.slice ad n c] w (SaysC w l) := by
  have HA := Lib.hid (tkList_any (.slice ad n c) l w h HZ (by rw [hn.out]; omega))
  rw [hls.out] at HA
  have HK := Lib.hid (lsG_kind hls.out)
  have hmk := run_make_row' (P := Tryz.prog) 27 3 (.int .i64 0) 8 Tryz.underlying27 infoI rfl .i64 .i64 4 (by omega) (by omega)
  rw [show ((4 : Nat) : Int) = 4 from rfl] at hmk
  go_enter Tryz.func10, Tryz.ntmps10
  go_wp2_with (go_at_call 67; refine (HA.out).mono ?_; rintro e w1 ⟨rfl, b1⟩; have B1 := Lib.hid b1; clear b1)
  have HST := Lib.hid (ct_start l w1)
  go_loopw [13] (fun i wr => CtRel w1 l n w1.heap.size i wr) (fun i _ => n - (intOf i).toNat)
  case atStart => exact ⟨0, Nat.zero_le _, rfl, HST.out.1, HST.out.2⟩
  case round =>
    obtain ⟨k, hk, rfl, ho, hb⟩ := hrel
    have HO := Lib.hid ho
    have HB := Lib.hid hb
    by_cases hlt : k < n
    · obtain ⟨g, rfl, ht, hg⟩ := HD.out (by omega)
      obtain ⟨x, hx⟩ : ∃ x, l.getD k tok0 = x := ⟨_, rfl⟩
      have hl1 : k < l.length := by rw [hn.out]; exact hlt
      have hg1 := Nat.lt_of_lt_of_le hg B1.out.size
      obtain ⟨a0, a1, a2, a3⟩ := ((ht.below B1.out hg).below hb hg1).four k hl1 x hx
      have hkd := HK.out k hl1
      rw [hx] at hkd
      have HX := Lib.hid (fun i => cK_more l k hl1 x hx i)
      have hle := fun i => Nat.le_trans (cK_le (l.take k) i) (by rw [List.length_take]; omega : (l.take k).length ≤ 600)
      obtain ⟨c1, hc1⟩ : ∃ c1, cK (l.take k) 1 = c1 := ⟨_, rfl⟩
      obtain ⟨c2, hc2⟩ : ∃ c2, cK (l.take k) 2 = c2 := ⟨_, rfl⟩
      obtain ⟨c3, hc3⟩ : ∃ c3, cK (l.take k) 3 = c3 := ⟨_, rfl⟩
      obtain ⟨c4, hc4⟩ : ∃ c4, cK (l.take k) 4 = c4 := ⟨_, rfl⟩
      have h1 := hle 1
      have h2 := hle 2
      have h3 := hle 3
      have h4 := hle 4
      rw [hc1] at h1
      rw [hc2] at h2
      rw [hc3] at h3
      rw [hc4] at h4
      have e : cntL (l.take k) = [(c1 : Int), (c2 : Int), (c3 : Int), (c4 : Int)] := by unfold cntL; rw [hc1, hc2, hc3, hc4]
      have e1 : cntL (l.take (k + 1)) = [((c1 + (if x.k = 1 then 1 else 0) : Nat) : Int), ((c2 + (if x.k = 2 then 1 else 0) : Nat) : Int), ((c3 + (if x.k = 3 then 1 else 0) : Nat) : Int), ((c4 + (if x.k = 4 then 1 else 0) : Nat) : Int)] := by
        unfold cntL; rw [HX.out, HX.out, HX.out, HX.out, hc1, hc2, hc3, hc4]
      have E1 := Lib.hid e1
      rw [e] at ho HO
      have hgt := ho.lt.2
      obtain ⟨xk, xa, xt, xv⟩ := x
      clear hb hx hl1 e e1 HX hle hc1 hc2 hc3 hc4
      rcases hkd with hkd | hkd | hkd | hkd
      all_goals
        have hkd2 : xk = _ := hkd
        clear hkd
        subst hkd2
      · obtain ⟨s0, s1⟩ := ho.walk 0 (by decide) _ rfl
        clear ho
        go_wp2_with fail
        go_roundw
        case rel =>
          have q := ct_round (j := 0) (c := (c1 : Int) + 1) (ys := cntL (l.take (k + 1))) (T := 31) (cs := #[.int .i64 1, .int .i64 xa, .string xt, .int .i64 xv]) HO.out HB.out (by rw [E1.out]; simp)
          exact ⟨k + 1, by omega, by go_num, q.1, q.2⟩
        case measure => simp [intOf]; omega
      · obtain ⟨s0, s1⟩ := ho.walk 1 (by decide) _ rfl
        clear ho
        go_wp2_with fail
        go_roundw
        case rel =>
          have q := ct_round (j := 1) (c := (c2 : Int) + 1) (ys := cntL (l.take (k + 1))) (T := 31) (cs := #[.int .i64 2, .int .i64 xa, .string xt, .int .i64 xv]) HO.out HB.out (by rw [E1.out]; simp)
          exact ⟨k + 1, by omega, by go_num, q.1, q.2⟩
        case measure => simp [intOf]; omega
      · obtain ⟨s0, s1⟩ := ho.walk 2 (by decide) _ rfl
        clear ho
        go_wp2_with fail
        go_roundw
        case rel =>
          have q := ct_round (j := 2) (c := (c3 : Int) + 1) (ys := cntL (l.take (k + 1))) (T := 31) (cs := #[.int .i64 3, .int .i64 xa, .string xt, .int .i64 xv]) HO.out HB.out (by rw [E1.out]; simp)
          exact ⟨k + 1, by omega, by go_num, q.1, q.2⟩
        case measure => simp [intOf]; omega
      · obtain ⟨s0, s1⟩ := ho.walk 3 (by decide) _ rfl
        clear ho
        go_wp2_with fail
        go_roundw
        case rel =>
          have q := ct_round (j := 3) (c := (c4 : Int) + 1) (ys := cntL (l.take (k + 1))) (T := 31) (cs := #[.int .i64 4, .int .i64 xa, .string xt, .int .i64 xv]) HO.out HB.out (by rw [E1.out]; simp)
          exact ⟨k + 1, by omega, by go_num, q.1, q.2⟩
        case measure => simp [intOf]; omega
    · have hkn : k = n := by omega
      subst hkn
      have HF : Hid (OwnI wr w.heap.size w1.heap.size 4 4 (cntL l)) := Lib.hid (by
        have q := ho
        rw [List.take_of_length_le (by rw [hn.out]; exact Nat.le_refl _)] at q
        exact q.base B1.out.size)
      have HB1 := Lib.hid (B1.out.trans (hb.mono B1.out.size))
      clear ho hb
      go_wp2_with fail
      go_ret2
      exact .inr ⟨hls.out, w1.heap.size, rfl, HF.out, HB1.out⟩
theorem specCount_bad (v : Value) (l : List Tok) (w : World) (h : Hid (SlT w v l)) (HZ : Hid (SzT l)) (hm : l.length ≤ 1048576) (hls : Hid (lsG l = false)) :
    Calls Tryz.prog 10 #[v] w (SaysC w l) := by
  have HA := Lib.hid (tkList_any v l w h HZ hm)
  rw [hls.out] at HA
  go_enter Tryz.func10, Tryz.ntmps10
  go_wp2_with (go_at_call 67; refine (HA.out).mono ?_; rintro e w1 ⟨rfl, b1⟩; have B1 := Lib.hid b1; clear b1)
  go_ret2
  exact .inl ⟨rfl, hls.out, B1.out⟩
theorem specCount_any (v : Value) (l : List Tok) (w : World) (h : Hid (SlT w v l)) (HZ : Hid (SzT l)) (hm : l.length ≤ 1048576) :
    Calls Tryz.prog 10 #[v] w (SaysC w l) := by
  rcases Bool.eq_false_or_eq_true (lsG l) with hls | hls
  · have hm6 := lsG_len6 hls
    rcases h.out with ⟨hl, ad, c, hv⟩ | ⟨g, c, hv, ht, hg⟩
    · subst hv
      exact specCount_good ad 0 c l w h (Lib.hid (fun q => absurd q (by omega))) HZ (Lib.hid (by rw [hl]; rfl)) (by omega) hls
    · subst hv
      exact specCount_good (some ⟨g, 0, none⟩) l.length c l w h (Lib.hid (fun _ => ⟨g, rfl, ht, hg⟩)) HZ rfl hm6 hls
  · exact specCount_bad v l w h HZ hm hls

def MtRelB (w : World) (R : ByteArray) (i o : Value) (wr : World) : Prop := ∃ (f : Nat) (k : Int) (t : ByteArray), 0 ≤ k ∧ k.toNat ≤ f ∧ i = .int .i64 k ∧ o = .string t ∧ t.size + k ≤ 9000000 ∧ Hid (mtF f k.toNat t = R) ∧ Below w.heap.size w wr
def MarkRelB (w : World) (g n cap : Nat) (l : List Tok) (m i : Value) (wr : World) : Prop :=
  ∃ (k : Nat) (q : Int), k ≤ n ∧ i = .int .i64 k ∧ m = .int .i64 q ∧ Hid (q = 4 * (k : Int) + 1) ∧ 1 ≤ q ∧ q ≤ 4194305 ∧ OwnK wr g (.slice (some ⟨g, 0, none⟩) n cap) n (markToT l k) ∧ OnlyGrown g w wr
/-- a list of the call's own was marked: what lies elsewhere is as it was -/
def Sp (B C : Nat) (w w' : World) : Prop := Below B w w' ∧ ∀ j, C ≤ j → j < w.heap.size → w'.heap[j]? = w.heap[j]?
theorem OwnI.block {w w' : World} {B g n cap : Nat} {zs : List Int} (h : OwnI w B g n cap zs) (hb : w'.heap[g]? = w.heap[g]?) : OwnI w' B g n cap zs := by
  obtain ⟨h1, h2⟩ := h
  refine ⟨h1, ?_⟩
  rcases h2 with h2 | ⟨g', cap', cur, a, b, c, d⟩
  · exact .inl h2
  · cases a
    exact .inr ⟨g, cap, cur, rfl, b, by rw [hb]; exact c, d⟩
theorem OwnK.lt_of {w : World} {B n : Nat} {v : Value} {l : List Tok} (h : OwnK w B v n l) : ∀ g c, v = .slice (some ⟨g, 0, none⟩) n c → g < w.heap.size := fun g c e => (World.ownsRow.lt h g (by rw [e]; rfl)).2
/-- four counts, or none -/
def SaysCg (w : World) (l : List Tok) (e : Ending) (w' : World) : Prop := ∃ g, e = .returned (.tuple #[.slice (some ⟨g, 0, none⟩) 4 4, .bool true]) ∧ OwnI w' w.heap.size g 4 4 (cntL l) ∧ Below w.heap.size w w'
def SaysCb (w : World) (e : Ending) (w' : World) : Prop := e = .returned (.tuple #[.slice none 0 0, .bool false]) ∧ Below w.heap.size w w'
theorem SaysC.good {w : World} {l : List Tok} {e : Ending} {w' : World} (h : SaysC w l e w') (hl : lsG l = true) : SaysCg w l e w' := by
  rcases h with ⟨_, hf, _⟩ | ⟨_, h⟩
  · rw [hl] at hf; cases hf
  · exact h
theorem SaysC.bad {w : World} {l : List Tok} {e : Ending} {w' : World} (h : SaysC w l e w') (hl : lsG l = false) : SaysCb w e w' := by
  rcases h with ⟨he, _, hb⟩ | ⟨hf, _⟩
  · exact ⟨he, hb⟩
  · rw [hl] at hf; cases hf
theorem cnt_range (l : List Tok) (h : lsG l = true) : ∀ n ∈ cntL l, -9223372036854775808 ≤ n ∧ n ≤ 9223372036854775807 := by
  have hl := lsG_len6 h
  have q := fun i => Nat.le_trans (cK_le l i) hl
  intro n hn
  have h1 := q 1
  have h2 := q 2
  have h3 := q 3
  have h4 := q 4
  unfold cntL at hn
  simp only [List.mem_cons, List.not_mem_nil, or_false] at hn
  rcases hn with rfl | rfl | rfl | rfl <;> omega
/-- four marks -/
def marks4 (w : World) (g : Nat) : World := (((w.setCell ⟨g, 0, none⟩ (.int .i64 1)).setCell ⟨g, 1, none⟩ (.int .i64 2)).setCell ⟨g, 2, none⟩ (.int .i64 3)).setCell ⟨g, 3, none⟩ (.int .i64 4)
theorem OwnI.marks {w : World} {B g : Nat} {zs : List Int} (h : OwnI w B g 4 4 zs) : OwnI (marks4 w g) B g 4 4 [1, 2, 3, 4] := by
  have hl := h.len
  match zs, hl with
  | [a, b, c, d], _ => exact (((h.store 0 1).store 1 2).store 2 3).store 3 4
theorem marks4_below (w : World) (g : Nat) : Below g w (marks4 w g) := set4' (Below.refl g w) g (Nat.le_refl g) _ _ _ _ _ _ _ _
end Go.Proofs.YtmmofchfafnkcaaGreatDoor

/- What FnTouch needs beside the functions' contracts: counts compared and summed, two tokens and a joined text read again. -/
namespace Go.Proofs.YtmmofchfafnkcaaGreatDoor
set_option maxRecDepth 100000
open Go.RowKit
set_option linter.unusedVariables false

/-! Counts. -/
theorem cK_cons (x : Tok) (r : List Tok) (i : Int) : cK (x :: r) i = (if x.k = i then 1 else 0) + cK r i := by
  unfold cK
  rw [List.filter_cons]
  by_cases h : x.k = i
  · rw [if_pos h, if_pos (by simpa using h)]; simp; omega
  · rw [if_neg h, if_neg (by simpa using h)]; simp
theorem alG_sum : ∀ (l : List Tok), alG l = true → cK l 1 + cK l 2 + cK l 3 + cK l 4 = l.length
  | [], _ => rfl
  | x :: r, h => by
    unfold alG at h
    rw [Bool.and_eq_true] at h
    have ih := alG_sum r h.2
    simp only [cK_cons, List.length_cons]
    rcases good_kind h.1 with e | e | e | e <;> rw [e] <;> simp <;> omega
theorem lsG_al {l : List Tok} (h : lsG l = true) : alG l = true := by unfold lsG at h; exact (Bool.and_eq_true_iff.1 h).1
theorem lsG_sum {l : List Tok} (h : lsG l = true) : cK l 1 + cK l 2 + cK l 3 + cK l 4 = l.length := alG_sum l (by unfold lsG at h; exact (Bool.and_eq_true_iff.1 h).1)
/-- a value that holds the counts of a list, or nothing -/
def CntV (w : World) (v : Value) (l : List Tok) : Prop := (v = .slice none 0 0 ∧ lsG l = false) ∨ (lsG l = true ∧ ∃ g, v = .slice (some ⟨g, 0, none⟩) 4 4 ∧ g < w.heap.size ∧ ∀ k, k < 4 → w.cell? ⟨g, k, none⟩ = some (.int .i64 ((cntL l).getD k 0)))
theorem CntV.below {w w' : World} {v : Value} {l : List Tok} (h : CntV w v l) (b : Below w.heap.size w w') : CntV w' v l := by
  rcases h with h | ⟨hl, g, hv, hg, hc⟩
  · exact .inl h
  · exact .inr ⟨hl, g, hv, Nat.lt_of_lt_of_le hg b.size, fun k hk => (b.cell (p := ⟨g, k, none⟩) hg).trans (hc k hk)⟩
theorem SaysC.cnt {w : World} {l : List Tok} {e : Ending} {w' : World} (h : SaysC w l e w') : ∃ v, e = .returned (.tuple #[v, .bool (lsG l)]) ∧ CntV w' v l ∧ Below w.heap.size w w' := by
  rcases h with ⟨rfl, hl, b⟩ | ⟨hl, g, rfl, ho, b⟩
  · exact ⟨_, by rw [hl], .inl ⟨rfl, hl⟩, b⟩
  · exact ⟨_, by rw [hl], .inr ⟨hl, g, rfl, ho.lt.2, fun k hk => ho.cell k hk⟩, b⟩
theorem CntV.view {w : World} {v : Value} {l : List Tok} (h : CntV w v l) : ∃ ad n c, v = .slice ad n c ∧ n ≤ 4 ∧ (n = 0 ∨ ∃ g, ad = some ⟨g, 0, none⟩ ∧ n = 4 ∧ g < w.heap.size ∧ ∀ k, k < 4 → w.cell? ⟨g, k, none⟩ = some (.int .i64 ((cntL l).getD k 0))) := by
  rcases h with ⟨rfl, _⟩ | ⟨_, g, rfl, hg, hc⟩
  · exact ⟨_, _, _, rfl, by omega, .inl rfl⟩
  · exact ⟨_, _, _, rfl, by omega, .inr ⟨g, rfl, rfl, hg, hc⟩⟩
theorem CntV.len {w w' : World} {ad ad' : Option Addr} {n n' c c' : Nat} {l : List Tok} (h : CntV w (.slice ad n c) l) (h' : CntV w' (.slice ad' n' c') l) : n = n' := by
  rcases h with ⟨h, hl⟩ | ⟨hl, g, h, _⟩ <;> rcases h' with ⟨h', hl'⟩ | ⟨hl', g', h', _⟩ <;> cases h <;> cases h' <;> first | rfl | (rw [hl] at hl'; cases hl')
theorem implCountC (v : Value) (l : List Tok) (w : World) (HT : Hid (Tabs w)) (h : Hid (SlT w v l)) (HZ : Hid (SzT l)) :
    Calls Tryz.prog 9 #[v] w (fun e w' => ∃ u, e = .returned (.tuple #[u, .bool (lsG l)]) ∧ CntV w' u l ∧ Below w.heap.size w w') := (implCount_any v l w HT h HZ).mono (fun _ _ h => h.cnt)
theorem specCountC (v : Value) (l : List Tok) (w : World) (h : Hid (SlT w v l)) (HZ : Hid (SzT l)) (hm : l.length ≤ 1048576) :
    Calls Tryz.prog 10 #[v] w (fun e w' => ∃ u, e = .returned (.tuple #[u, .bool (lsG l)]) ∧ CntV w' u l ∧ Below w.heap.size w w') := (specCount_any v l w h HZ hm).mono (fun _ _ h => h.cnt)
set_option maxHeartbeats 3200000 in
theorem qInts_any (v v' : Value) (l : List Tok) (w : World) (h : Hid (CntV w v l)) (h' : Hid (CntV w v' l)) :
    Calls Tryz.prog 19 #[v, v'] w (SaysB w true) := by
  obtain ⟨ad, n, c, rfl, hn4, hv⟩ := h.out.view
  obtain ⟨ad', n', c', rfl, _, hv'⟩ := h'.out.view
  obtain rfl : n = n' := h.out.len h'.out
  have HV := Lib.hid hv
  have HV' := Lib.hid hv'
  clear hv hv'
  go_enter Tryz.func19, Tryz.ntmps19
  go_wp2_with fail
  go_loopw [13] (fun i wr => ∃ k : Nat, k ≤ n ∧ i = .int .i64 k ∧ Below w.heap.size w wr) (fun i _ => n - (intOf i).toNat)
  case atStart => exact ⟨0, Nat.zero_le _, rfl, Below.refl _ _⟩
  case round =>
    obtain ⟨k, hk, rfl, hb⟩ := hrel
    have HB := Lib.hid hb
    by_cases hlt : k < n
    · rcases HV.out with e | ⟨g, rfl, hn, hg, hc⟩
      · omega
      rcases HV'.out with e | ⟨g', rfl, _, hg', hc'⟩
      · omega
      have a0 := (hb.cell (p := ⟨g, k, none⟩) hg).trans (hc k (by omega))
      have a1 := (hb.cell (p := ⟨g', k, none⟩) hg').trans (hc' k (by omega))
      generalize (cntL l).getD k 0 = z at a0 a1
      clear hc hc' hb
      go_wp2_with fail
      go_quiet (fail)
      go_wp2_with fail
      go_roundw
      case rel => exact ⟨k + 1, by omega, by go_num, HB.out.trans (below_drewN (Below.refl _ _) _)⟩
      case measure => simp [intOf]; omega
    · clear hb
      go_wp2_with fail
      go_ret
      exact ⟨rfl, HB.out⟩
def smL (l : List Tok) : Nat → Int
  | 0 => 0
  | k + 1 => smL l k + (cntL l).getD k 0
theorem smL_four {l : List Tok} (h : lsG l = true) : smL l 4 = (l.length : Int) := by
  have := lsG_sum h
  unfold smL smL smL smL smL cntL
  simp
  omega
theorem cnt_le (l : List Tok) (h : l.length ≤ 1000) : ∀ k, 0 ≤ (cntL l).getD k 0 ∧ (cntL l).getD k 0 ≤ 1000 := fun k => by
  have h1 := cK_le l 1
  have h2 := cK_le l 2
  have h3 := cK_le l 3
  have h4 := cK_le l 4
  unfold cntL
  match k with
  | 0 => simp; omega
  | 1 => simp; omega
  | 2 => simp; omega
  | 3 => simp; omega
  | k + 4 => simp
theorem smL_le (l : List Tok) (h : l.length ≤ 1000) : ∀ k, 0 ≤ smL l k ∧ smL l k ≤ 1000 * (k : Int)
  | 0 => by simp [smL]
  | k + 1 => by
    have := smL_le l h k
    have := cnt_le l h k
    unfold smL
    omega
set_option maxHeartbeats 3200000 in
theorem qSum_any (v : Value) (l : List Tok) (w : World) (h : Hid (CntV w v l)) (hl : lsG l = true) (hm : l.length ≤ 601) :
    Calls Tryz.prog 20 #[v] w (SaysI w (l.length : Int)) := by
  rcases h.out with ⟨_, hf⟩ | ⟨_, g, rfl, hg, hc⟩
  · rw [hl] at hf; cases hf
  have HC := Lib.hid hc
  have H4 := Lib.hid (smL_four hl)
  have HLE := Lib.hid (smL_le l (by omega))
  have HCE := Lib.hid (cnt_le l (by omega))
  clear hc
  go_enter Tryz.func20, Tryz.ntmps20
  go_wp2_with fail
  go_loopw [3, 8] (fun a i wr => ∃ (k : Nat) (z : Int), k ≤ 4 ∧ i = .int .i64 k ∧ a = .int .i64 z ∧ Below w.heap.size w wr ∧ Hid (smL l k = z)) (fun _ i _ => 4 - (intOf i).toNat)
  case atStart => exact ⟨0, 0, Nat.zero_le _, rfl, rfl, Below.refl _ _, Lib.hid rfl⟩
  case round =>
    obtain ⟨k, z, hk, rfl, rfl, hb, hz⟩ := hrel
    have HB := Lib.hid hb
    by_cases hlt : k < 4
    · have a0 := (hb.cell (p := ⟨g, k, none⟩) hg).trans (HC.out k hlt)
      have hz1 := HLE.out k
      rw [hz.out] at hz1
      have hz2 := HCE.out k
      have HN : Hid (smL l (k + 1) = z + (cntL l).getD k 0) := Lib.hid (by rw [← hz.out]; rfl)
      generalize (cntL l).getD k 0 = y at a0 hz2 HN
      clear hb
      go_wp2_with fail
      go_roundw
      case rel => exact ⟨k + 1, z + y, by omega, by go_num, rfl, HB.out, HN⟩
      case measure => simp [intOf]; omega
    · have hk4 : k = 4 := by omega
      subst hk4
      have HZ : Hid (z = (l.length : Int)) := Lib.hid (hz.out.symm.trans H4.out)
      clear hb
      go_wp2_with fail
      go_ret
      exact ⟨ret_int HZ.out, HB.out⟩
/-! Read again. -/
theorem two_texts {x y : Tok} (h : ctG x y = true) : tkT ((x.t ++ (⟨#[32]⟩ : ByteArray)) ++ y.t) = ⟨anew [x.t, y.t], 0, 0⟩ ∧ tkO ((x.t ++ (⟨#[32]⟩ : ByteArray)) ++ y.t) = true := by
  unfold ctG at h
  rw [Bool.and_eq_true] at h
  have h1 := good_tok h.1
  have h2 := good_tok h.2
  have z1 := good_size h.1
  have z2 := good_size h.2
  have hs : ((x.t ++ (⟨#[32]⟩ : ByteArray)) ++ y.t).size ≤ 4000 := by
    rw [ByteArray.size_append, ByteArray.size_append]
    have : (⟨#[32]⟩ : ByteArray).size = 1 := rfl
    omega
  obtain ⟨e1, e2⟩ := tkT_yes hs
  refine ⟨e1.trans (tkL_anew [x.t, y.t] _ (by intro t ht; simp at ht; rcases ht with rfl | rfl; exact h1.1; exact h2.1) ?_ (by simp)), e2⟩
  simp [ByteArray.data_append, Lib.join_cons, Lib.joinTail]
theorem anew_two (a b : ByteArray) : ∃ x y, anew [a, b] = [x, y] ∧ x.t = a ∧ y.t = b := ⟨_, _, rfl, rfl, rfl⟩
theorem join_again {l : List Tok} (h : jnO l = true) : tkT (jnR l) = ⟨anew (l.map fun x => x.t), 0, 0⟩ ∧ tkO (jnR l) = true ∧ (anew (l.map fun x => x.t)).length = l.length := by
  have hg : lsG l = true := by unfold jnO at h; exact (Bool.and_eq_true_iff.1 h).1
  have hz : (jS l l.length).size ≤ 4000 := by unfold jnO at h; exact of_decide_eq_true (Bool.and_eq_true_iff.1 h).2
  have hr : jnR l = jS l l.length := by unfold jnR; rw [if_pos h]
  rw [hr]
  have hts : ∀ t ∈ l.map (fun x => x.t), IsTok t := fun t ht => by
    obtain ⟨x, hx, rfl⟩ := List.mem_map.1 ht
    exact (good_tok ((alG_all l).1 (lsG_al hg) x hx)).1
  obtain ⟨e1, e2⟩ := tkT_yes hz
  refine ⟨e1.trans (tkL_anew _ _ hts (jS_list l) (by rw [List.length_map]; exact lsG_len hg)), e2, ?_⟩
  have := congrArg List.length (anew_texts (l.map fun x => x.t))
  simpa using this
theorem join_same {l : List Tok} (h : jnO l = true) : sameL l (anew (l.map fun x => x.t)) = true := by
  have hg : lsG l = true := by unfold jnO at h; exact (Bool.and_eq_true_iff.1 h).1
  exact anew_same l (fun x hx => (good_tok ((alG_all l).1 (lsG_al hg) x hx)).2)
theorem same_get : ∀ (l m : List Tok), sameL l m = true → ∀ k, k < l.length → (m.getD k tok0).k = (l.getD k tok0).k ∧ (m.getD k tok0).t = (l.getD k tok0).t ∧ (m.getD k tok0).v = (l.getD k tok0).v
  | [], _, _, k, hk => absurd hk (by simp)
  | x :: r, [], h, _, _ => by cases h
  | x :: r, y :: q, h, k, hk => by
    unfold sameL at h
    rw [Bool.and_eq_true] at h
    match k, hk with
    | 0, _ =>
      have := h.1
      unfold sameB at this
      simp only [Bool.and_eq_true, beq_iff_eq] at this
      refine ⟨this.1.symm, ?_, this.2.2.symm⟩
      exact (ByteArray.ext (Array.toList_inj.1 (by rw [← ByteArray.toList_eq, ← ByteArray.toList_eq]; exact this.2.1))).symm
    | k + 1, hk => simpa using same_get r q h.2 k (by simpa using hk)
end Go.Proofs.YtmmofchfafnkcaaGreatDoor

/- The cursor from which a law's arguments are drawn: contracts of next, pick, one, among. -/
namespace Go.Proofs.YtmmofchfafnkcaaGreatDoor
set_option maxRecDepth 100000
open Go.RowKit

/-- the cursor in block bc: the bytes that it reads, where it is, its seed -/
def CurAt (w : World) (bc : Nat) (a : Option Addr) (n cap t : Nat) : Prop :=
  ∃ s : Int, w.heap[bc]? = some (.cells #[.slice a n cap, .int .i64 t, .int .u64 s] 79 (0, 0))
/-- what it reads lies ahead of it -/
def Ahead (bc : Nat) (a : Option Addr) (zs : List Int) : Prop := zs ≠ [] → ∀ b off, a = some ⟨b, off, none⟩ → b < bc
theorem In.ahead {w : World} {a : Option Addr} {zs : List Int} (h : In w a zs) : Ahead w.heap.size a zs := fun e b off ha => by
  rcases h with h | ⟨b1, off1, rfl, hr⟩
  · exact absurd h e
  · cases ha
    exact World.block_lt_of_cell? w _ (hr.1 0 (List.length_pos_iff.2 e))
theorem Ahead.mono {B B' : Nat} {a : Option Addr} {zs : List Int} (h : Ahead B a zs) (hB : B ≤ B') : Ahead B' a zs := fun e b off ha => Nat.lt_of_lt_of_le (h e b off ha) hB
def Nexts (w : World) (bc : Nat) (a : Option Addr) (n cap t : Nat) (e : Ending) (w' : World) : Prop :=
  ∃ r : Int, e = .returned (.int .i64 r) ∧ 0 ≤ r ∧ r ≤ 255 ∧ CurAt w' bc a n cap (t + 1) ∧ OnlyBlock bc w w'
theorem OnlyBlock.drewN {g : Nat} {w w' : World} (h : OnlyBlock g w w') (q : Nat) : OnlyBlock g w (w'.drewN q) := ⟨below_drewN h.1 q, h.2.1, h.2.2⟩
theorem OnlyBlock.trans {g : Nat} {w w' w'' : World} (h : OnlyBlock g w w') (k : OnlyBlock g w' w'') : OnlyBlock g w w'' := ⟨h.1.trans k.1, k.2.1.trans h.2.1, fun j hj => (k.2.2 j hj).trans (h.2.2 j hj)⟩
theorem In.only {w w' : World} {g : Nat} {a : Option Addr} {zs : List Int} (h : In w a zs) (hb : OnlyBlock g w w') (hA : Ahead g a zs) : In w' a zs := by
  by_cases e : zs = []
  · exact .inl e
  · rcases h with h | ⟨b, off, rfl, hr⟩
    · exact .inl h
    · exact .inr ⟨b, off, rfl, hr.below hb.1 (hA e b off rfl)⟩
theorem bits_255 (X : Int) : 0 ≤ bits .and .u64 X 255 ∧ bits .and .u64 X 255 ≤ 255 := by
  have h255 : (BitVec.ofInt 64 255).toNat = 2 ^ 8 - 1 := by decide
  have key : (BitVec.ofInt 64 X &&& BitVec.ofInt 64 255).toNat = (X % ((2 ^ 64 : Nat) : Int)).toNat % 2 ^ 8 := by
    rw [BitVec.toNat_and, BitVec.toNat_ofInt, h255, Nat.and_two_pow_sub_one_eq_mod]
  have e : bits .and .u64 X 255 = IntKind.u64.wrap ((BitVec.ofInt 64 X &&& BitVec.ofInt 64 255).toNat : Nat) := rfl
  rw [e, key, IntKind.wrap_u64]
  omega

theorem cur_two {w : World} {bc n cap t : Nat} {a : Option Addr} {s : Int} (hs : w.heap[bc]? = some (.cells #[.slice a n cap, .int .i64 t, .int .u64 s] 79 (0, 0))) (s' : Int) :
    CurAt ((w.setCell ⟨bc, 1, none⟩ (.int .i64 ((t : Int) + 1))).setCell ⟨bc, 2, none⟩ (.int .u64 s')) bc a n cap (t + 1) ∧ OnlyBlock bc w ((w.setCell ⟨bc, 1, none⟩ (.int .i64 ((t : Int) + 1))).setCell ⟨bc, 2, none⟩ (.int .u64 s')) :=
  ⟨⟨s', heap_setCell_same _ bc 2 _ _ _ (heap_setCell_same w bc 1 _ _ _ hs)⟩, ((OnlyBlock.refl bc w).store 1 _).store 2 _⟩

set_option maxHeartbeats 1600000 in
theorem next_in (w : World) (bc b off n cap t : Nat) (zs : List Int) (HC : Hid (CurAt w bc (some ⟨b, off, none⟩) n cap t)) (hb : b < bc) (HL : Hid (zs.length = n)) (HR : Hid (Row w b off zs)) (ht : t < n) (hn : n ≤ 9223372036854775807) :
    Calls Tryz.prog 163 #[.pointer (some ⟨bc, 0, none⟩)] w (Nexts w bc (some ⟨b, off, none⟩) n cap t) := by
  obtain ⟨s, hs⟩ := HC.out
  have HH := Lib.hid hs
  have c0 : w.cell? ⟨bc, 0, none⟩ = some (.slice (some ⟨b, off, none⟩) n cap) := by rw [cell_of_row w bc 0 _ _ (0, 0) hs]; rfl
  have c1 : w.cell? ⟨bc, 1, none⟩ = some (.int .i64 t) := by rw [cell_of_row w bc 1 _ _ (0, 0) hs]; rfl
  have c2 : w.cell? ⟨bc, 2, none⟩ = some (.int .u64 s) := by rw [cell_of_row w bc 2 _ _ (0, 0) hs]; rfl
  have f1 : w.frozen? ⟨bc, 1, none⟩ = false := frozen_of_row w bc 1 _ _ hs
  have f2 : w.frozen? ⟨bc, 2, none⟩ = false := frozen_of_row w bc 2 _ _ hs
  clear hs
  obtain ⟨c, HV, h0, h1, hcell⟩ := HR.out.at t (by have := HL.out; omega)
  have hne : bc ≠ b := by omega
  have ht' : (t : Int) < n := by omega
  have e1 : IntKind.i64.wrap (t : Int) = t := IntWalk.i64_in _ (by omega)
  go_enter Tryz.func163, Tryz.ntmps163
  go_wp2_with fail
  go_quiet (fail)
  go_wp2_with fail
  go_quiet (fail)
  go_wp2_with fail
  go_quiet (fail)
  go_wp2
  go_ret
  exact ⟨c, rfl, h0, h1, (cur_two HH.out _).1, ((((OnlyBlock.refl bc w).drewN _).store 1 _).store 2 _).drewN _⟩

set_option maxHeartbeats 1600000 in
theorem next_out (w : World) (bc n cap t : Nat) (a : Option Addr) (HC : Hid (CurAt w bc a n cap t)) (ht : n ≤ t) (ht2 : t ≤ 1048576) :
    Calls Tryz.prog 163 #[.pointer (some ⟨bc, 0, none⟩)] w (Nexts w bc a n cap t) := by
  obtain ⟨s, hs⟩ := HC.out
  have HH := Lib.hid hs
  have c0 : w.cell? ⟨bc, 0, none⟩ = some (.slice a n cap) := by rw [cell_of_row w bc 0 _ _ (0, 0) hs]; rfl
  have c1 : w.cell? ⟨bc, 1, none⟩ = some (.int .i64 t) := by rw [cell_of_row w bc 1 _ _ (0, 0) hs]; rfl
  have c2 : w.cell? ⟨bc, 2, none⟩ = some (.int .u64 s) := by rw [cell_of_row w bc 2 _ _ (0, 0) hs]; rfl
  have f1 : w.frozen? ⟨bc, 1, none⟩ = false := frozen_of_row w bc 1 _ _ hs
  have f2 : w.frozen? ⟨bc, 2, none⟩ = false := frozen_of_row w bc 2 _ _ hs
  clear hs
  have d1 : decide (t < n) = false := by simp; omega
  have d2 : decide ((t : Int) + 1 ≤ n) = false := by simp; omega
  have d3 : (n : Int) < (t : Int) + 1 := by omega
  go_enter Tryz.func163, Tryz.ntmps163
  go_wp2_with fail
  go_quiet (fail)
  go_wp2_with fail
  go_quiet (fail)
  go_wp2
  go_ret
  exact ⟨_, ret_int (IntWalk.wrap64_in _ (by have := bits_255 (IntKind.u64.wrap (IntKind.u64.wrap (IntKind.u64.wrap (s * 6364136223846793005)) + 1442695040888963407) / 1099511627776); omega)), (bits_255 _).1, (bits_255 _).2, (cur_two HH.out _).1, ((((OnlyBlock.refl bc w).drewN _).store 1 _).store 2 _).drewN _⟩

/-- the next byte, or a number of the seed's: whatever lies there -/
theorem next_any (w : World) (bc n cap t : Nat) (a : Option Addr) (zs : List Int) (HC : Hid (CurAt w bc a n cap t)) (hA : Ahead bc a zs) (HL : Hid (zs.length = n)) (HI : Hid (In w a zs)) (hn : n ≤ 9223372036854775807) (ht2 : t ≤ 1048576) :
    Calls Tryz.prog 163 #[.pointer (some ⟨bc, 0, none⟩)] w (Nexts w bc a n cap t) := by
  by_cases h : t < n
  · rcases HI.out with h0 | ⟨b, off, rfl, hr⟩
    · have := HL.out; rw [h0] at this; simp at this; omega
    · exact next_in w bc b off n cap t zs HC (hA (fun e => by have := HL.out; rw [e] at this; simp at this; omega) b off rfl) HL hr h hn
  · exact next_out w bc n cap t a HC (by omega) ht2

/-- the cursor has moved on by some places: a number below m was picked -/
def Picks (w : World) (bc : Nat) (a : Option Addr) (n cap t : Nat) (m : Int) (e : Ending) (w' : World) : Prop :=
  ∃ (r : Int) (t' : Nat), e = .returned (.int .i64 r) ∧ 0 ≤ r ∧ r < m ∧ t' ≤ t + 2 ∧ CurAt w' bc a n cap t' ∧ OnlyBlock bc w w'

set_option maxHeartbeats 1600000 in
theorem pick_any (w : World) (bc n cap t : Nat) (a : Option Addr) (zs : List Int) (m : Int) (hm : 1 < m) (hm2 : m ≤ 1000000) (HC : Hid (CurAt w bc a n cap t)) (hA : Hid (Ahead bc a zs)) (HL : Hid (zs.length = n)) (HI : Hid (In w a zs)) (hn : n ≤ 9223372036854775807) (ht2 : t ≤ 1000000) :
    Calls Tryz.prog 91 #[.pointer (some ⟨bc, 0, none⟩), .int .i64 m] w (Picks w bc a n cap t m) := by
  have d1 := not_le hm
  rcases Int.lt_or_le 200 m with hg | hg
  · have d2 := is_lt hg
    go_enter Tryz.func91, Tryz.ntmps91
    go_wp2_with (go_at_call 163; refine (next_any _ _ _ _ t _ zs HC hA.out HL HI hn (by omega)).mono ?_; rintro e v1 ⟨r1, rfl, r10, r11, c, o⟩; have C1 := Lib.hid c; have O1 := Lib.hid o; clear c o)
    go_wp2_with (go_at_call 163; refine (next_any _ _ _ _ (t + 1) _ zs C1 hA.out HL (Lib.hid (HI.out.only O1.out hA.out)) hn (by omega)).mono ?_; rintro e v2 ⟨r2, rfl, r20, r21, c, o⟩; have C2 := Lib.hid c; have O2 := Lib.hid o; clear c o)
    go_ret
    exact ⟨_, _, rfl, Int.emod_nonneg _ (by omega), Int.emod_lt_of_pos _ (by omega), by omega, C2.out, O1.out.trans O2.out⟩
  · have d2 := not_lt hg
    go_enter Tryz.func91, Tryz.ntmps91
    go_wp2_with (go_at_call 163; refine (next_any _ _ _ _ t _ zs HC hA.out HL HI hn (by omega)).mono ?_; rintro e v1 ⟨r1, rfl, r10, r11, c, o⟩; have C1 := Lib.hid c; have O1 := Lib.hid o; clear c o)
    go_ret
    exact ⟨_, _, rfl, Int.emod_nonneg _ (by omega), Int.emod_lt_of_pos _ (by omega), by omega, C1.out, O1.out⟩
end Go.Proofs.YtmmofchfafnkcaaGreatDoor

/- The cursor's bytes: contracts of one, among, bytes. -/
namespace Go.Proofs.YtmmofchfafnkcaaGreatDoor
set_option maxRecDepth 100000
open Go.RowKit

/-- below block B nothing but block g was written -/
structure Bar (g B : Nat) (w w' : World) : Prop where
  os : w'.os = w.os
  tape : w'.tape = w.tape
  output : w'.output = w.output
  size : w.heap.size ≤ w'.heap.size
  block : ∀ k, k < B → k ≠ g → w'.heap[k]? = w.heap[k]?
theorem Bar.refl (g B : Nat) (w : World) : Bar g B w w := ⟨rfl, rfl, rfl, Nat.le_refl _, fun _ _ _ => rfl⟩
theorem Bar.trans {g B : Nat} {a b c : World} (h : Bar g B a b) (k : Bar g B b c) : Bar g B a c :=
  ⟨k.os.trans h.os, k.tape.trans h.tape, k.output.trans h.output, Nat.le_trans h.size k.size, fun i hi hg => (k.block i hi hg).trans (h.block i hi hg)⟩
theorem Bar.of_only {g : Nat} {w w' : World} (h : OnlyBlock g w w') (B : Nat) : Bar g B w w' := ⟨h.1.os, h.1.tape, h.1.output, h.1.size, fun k _ hg => h.2.2 k hg⟩
theorem Bar.of_below {g B : Nat} {w w' : World} (h : Below B w w') : Bar g B w w' := ⟨h.os, h.tape, h.output, h.size, fun k hk _ => h.block k hk⟩
theorem Bar.below {g B : Nat} {w w' : World} (h : Bar g B w w') {B' : Nat} (h1 : B' ≤ B) (h2 : B' ≤ g) : Below B' w w' := ⟨h.os, h.tape, h.output, h.size, fun k hk => h.block k (by omega) (by omega)⟩
theorem Bar.mono {g B B' : Nat} {w w' : World} (h : Bar g B w w') (hB : B' ≤ B) : Bar g B' w w' := ⟨h.os, h.tape, h.output, h.size, fun k hk => h.block k (by omega)⟩
theorem CurAt.lt {w : World} {bc n cap t : Nat} {a : Option Addr} (h : CurAt w bc a n cap t) : bc < w.heap.size := by
  obtain ⟨s, hs⟩ := h
  exact (Array.getElem?_eq_some_iff.1 hs).1
theorem CurAt.kept {w w' : World} {bc n cap t : Nat} {a : Option Addr} (h : CurAt w bc a n cap t) (hb : w'.heap[bc]? = w.heap[bc]?) : CurAt w' bc a n cap t := by
  obtain ⟨s, hs⟩ := h
  exact ⟨s, by rw [hb]; exact hs⟩
theorem CurAt.alloc {w : World} {bc n cap t : Nat} {a : Option Addr} (h : CurAt w bc a n cap t) (o : Obj) : CurAt (w.alloc o) bc a n cap t := h.kept (Below.heap_alloc _ _ _ h.lt)
theorem OwnV.only {w w' : World} {B g n : Nat} {v : Value} {zs : List Int} (h : OwnV w B v n zs) (ho : OnlyBlock g w w') (hg : g < B) : OwnV w' B v n zs := by
  obtain ⟨h1, h2⟩ := h
  refine ⟨h1, ?_⟩
  rcases h2 with h2 | ⟨g1, cap', cur, a, b, c, d⟩
  · exact .inl h2
  · exact .inr ⟨g1, cap', cur, a, b, by rw [ho.2.2 g1 (by omega)]; exact c, d⟩
theorem In.bar {w w' : World} {g B : Nat} {a : Option Addr} {zs : List Int} (h : In w a zs) (hb : Bar g B w w') (hA : Ahead g a zs) (hB : Ahead B a zs) : In w' a zs := by
  by_cases e : zs = []
  · exact .inl e
  · rcases h with h | ⟨b, off, rfl, hr⟩
    · exact .inl h
    · have h1 := hA e b off rfl
      refine .inr ⟨b, off, rfl, hr.below (hb.below (B' := b + 1) (hB e b off rfl) h1) (Nat.lt_succ_self b)⟩

def Ones (w : World) (bc : Nat) (a : Option Addr) (n cap t : Nat) (e : Ending) (w' : World) : Prop :=
  ∃ (r : Bool) (t' : Nat), e = .returned (.bool r) ∧ t' ≤ t + 2 ∧ CurAt w' bc a n cap t' ∧ OnlyBlock bc w w'
theorem one_any (w : World) (bc n cap t : Nat) (a : Option Addr) (zs : List Int) (m : Int) (hm : 1 < m) (hm2 : m ≤ 1000000) (HC : Hid (CurAt w bc a n cap t)) (hA : Hid (Ahead bc a zs)) (HL : Hid (zs.length = n)) (HI : Hid (In w a zs)) (hn : n ≤ 9223372036854775807) (ht2 : t ≤ 1000000) :
    Calls Tryz.prog 80 #[.pointer (some ⟨bc, 0, none⟩), .int .i64 m] w (Ones w bc a n cap t) := by
  go_enter Tryz.func80, Tryz.ntmps80
  go_wp2_with (go_at_call 91; refine (pick_any _ _ _ _ t _ zs m hm hm2 HC hA HL HI hn ht2).mono ?_; rintro e v1 ⟨r, t1, rfl, r0, r1, ht, c, o⟩; have C1 := Lib.hid c; have O1 := Lib.hid o; clear c o)
  go_ret
  exact ⟨_, t1, rfl, ht, C1.out, O1.out⟩

/-- a list of integers in block gl -/
def Ints (w : World) (gl m : Nat) : Prop := ∀ i, i < m → ∃ x : Int, w.cell? ⟨gl, i, none⟩ = some (.int .i64 x)
theorem Ints.only {w w' : World} {gl m g : Nat} (h : Ints w gl m) (ho : OnlyBlock g w w') (hg : gl ≠ g) : Ints w' gl m := fun i hi => by
  obtain ⟨x, hx⟩ := h i hi
  exact ⟨x, by rw [← hx]; exact World.cell?_of_block (a := ⟨gl, i, none⟩) (ho.2.2 gl hg)⟩
def Amongs (w : World) (bc : Nat) (a : Option Addr) (n cap t : Nat) (e : Ending) (w' : World) : Prop :=
  ∃ (r : Int) (t' : Nat), e = .returned (.int .i64 r) ∧ t' ≤ t + 2 ∧ CurAt w' bc a n cap t' ∧ OnlyBlock bc w w'
theorem among_any (w : World) (bc n cap t gl m cl : Nat) (a : Option Addr) (zs : List Int) (HX : Hid (Ints w gl m)) (hgl : gl ≠ bc) (hm : 1 < m) (hm2 : m ≤ 100) (HC : Hid (CurAt w bc a n cap t)) (hA : Hid (Ahead bc a zs)) (HL : Hid (zs.length = n)) (HI : Hid (In w a zs)) (hn : n ≤ 9223372036854775807) (ht2 : t ≤ 1000000) :
    Calls Tryz.prog 101 #[.pointer (some ⟨bc, 0, none⟩), .slice (some ⟨gl, 0, none⟩) m cl] w (Amongs w bc a n cap t) := by
  go_enter Tryz.func101, Tryz.ntmps101
  go_wp2_with (go_at_call 91; refine (pick_any _ _ _ _ t _ zs (m : Int) (by omega) (by omega) HC hA HL HI hn ht2).mono ?_; rintro e v1 ⟨r, t1, rfl, r0, r1, ht, c, o⟩; obtain ⟨x, hx⟩ := (HX.out.only o hgl) r.toNat (by omega); have C1 := Lib.hid c; have O1 := Lib.hid o; clear c o)
  go_ret
  exact ⟨x, t1, rfl, ht, C1.out, O1.out⟩

theorem OwnV.snocB {w wr w1 : World} {B n bc nc cap t : Nat} {v v' : Value} {zs : List Int} {c : Int} {o : Obj} {a : Option Addr} (h : OwnV wr B v n zs) (hB : B ≤ wr.heap.size) (hb : Bar bc B w wr) (hbc : bc < B) (hC : CurAt wr bc a nc cap t)
    (h' : w1.ownsRow B 5 1 v' (n + 1) (bv zs ++ [.int .u8 c])) (hg : (wr.alloc o).grownBy w1 v.ownBlock) : OwnV w1 B v' (n + 1) (zs ++ [c]) ∧ Bar bc B w w1 ∧ CurAt w1 bc a nc cap t := by
  have hrow : ∀ k, k < B → Option.some k ≠ v.ownBlock := fun k hk e => by
    have := (World.ownsRow.lt h k e.symm).1
    omega
  refine ⟨by unfold OwnV; simpa [bv] using h', ?_, ?_⟩
  · exact hb.trans (Bar.of_below (((Below.refl B wr).alloc hB o).grown hg (by simp; omega) (fun j hj => (World.ownsRow.lt h j hj).1)))
  · exact (hC.alloc o).kept (hg.block bc (by have := hC.lt; simp; omega) (hrow bc hbc))
def BytesRel (w : World) (bc : Nat) (a : Option Addr) (n cap t : Nat) (v k : Value) (wr : World) : Prop :=
  ∃ (j l t' : Nat) (zs : List Int), k = .int .i64 j ∧ j + l ≤ 14 ∧ OwnV wr w.heap.size v l zs ∧ (∀ c ∈ zs, 0 ≤ c ∧ c ≤ 255) ∧ t' ≤ t + 4 + 4 * l ∧ CurAt wr bc a n cap t' ∧ Bar bc w.heap.size w wr
def BytesGot (w : World) (bc : Nat) (a : Option Addr) (n cap t : Nat) (e : Ending) (w' : World) : Prop :=
  ∃ (v : Value) (l t' : Nat) (zs : List Int), e = .returned v ∧ l ≤ 4001 ∧ OwnV w' w.heap.size v l zs ∧ (∀ c ∈ zs, 0 ≤ c ∧ c ≤ 255) ∧ t' ≤ t + 100 ∧ CurAt w' bc a n cap t' ∧ Bar bc w.heap.size w w'
theorem ints_six (w : World) (x0 x1 x2 x3 x4 x5 : Int) (ty : TypeId) : Ints (w.alloc (.cells #[.int .i64 x0, .int .i64 x1, .int .i64 x2, .int .i64 x3, .int .i64 x4, .int .i64 x5] ty)) w.heap.size 6 := by
  intro i hi
  rw [World.cell?_alloc_at _ _ _ _ rfl]
  rcases (show i = 0 ∨ i = 1 ∨ i = 2 ∨ i = 3 ∨ i = 4 ∨ i = 5 by omega) with rfl | rfl | rfl | rfl | rfl | rfl <;> exact ⟨_, rfl⟩

end Go.Proofs.YtmmofchfafnkcaaGreatDoor
