/- Chapter 8's witnesses: WitnessOf, the model's. -/
import Derived.Test.YtfijhgggljaomaaCgd
import Derived.Test.YtfijhgggljaomaaVap
import Derived.Laws.AppendOwn
import Derived.Deep.CutRange
namespace Go.Proofs.Ytfijhgggljaomaa
open Go.RowKit
set_option linter.unusedVariables false
set_option maxRecDepth 100000

theorem wit_far {w : World} {B n z b j : Nat} {T : TypeId} {v : Value} {xs : List Value} (h : w.ownsRow B T z v n xs) (hd : ∀ g, v.ownBlock = some g → g ≠ b) (u : Value) : (w.setCell ⟨b, j, none⟩ u).ownsRow B T z v n xs :=
  own_onl h (onl_set (fun _ _ => rfl) _ _) (fun g hg e => hd g hg (by cases e; rfl))
theorem four_low {w w1 : World} {b n : Nat} {a0 a1 a2 a3 : Value} (h : FourIs w b a0 a1 a2 a3) (hb : Below n w w1) (hn : b < n) : FourIs w1 b a0 a1 a2 a3 := by
  obtain ⟨h0, h1, h2, h3, hl⟩ := h
  exact ⟨(hb.cell (p := ⟨b, 0, none⟩) hn).trans h0, (hb.cell (p := ⟨b, 1, none⟩) hn).trans h1, (hb.cell (p := ⟨b, 2, none⟩) hn).trans h2, (hb.cell (p := ⟨b, 3, none⟩) hn).trans h3, Nat.lt_of_lt_of_le hl hb.size⟩
theorem wit_four_far {w : World} {b g j : Nat} {a0 a1 a2 a3 : Value} (h : FourIs w b a0 a1 a2 a3) (hg : b ≠ g) (v : Value) : FourIs (w.setCell ⟨g, j, none⟩ v) b a0 a1 a2 a3 := by
  obtain ⟨h0, h1, h2, h3, hb⟩ := h
  refine ⟨?_, ?_, ?_, ?_, by rw [Go.Deep.nblk_setCell]; exact hb⟩ <;> rw [World.cell?_setCell_other _ _ _ _ (by intro e; cases e; exact hg rfl)] <;> assumption
theorem fro_low {w w1 : World} {b n : Nat} (h : FroB w b) (hb : Below n w w1) (hn : b < n) : FroB w1 b := fun o => (World.frozen?_of_block (a := ⟨b, o, none⟩) (hb.block b hn)).trans (h o)
theorem zer_low {w w1 : World} {b n : Nat} (h : Zer w b) (hb : Below n w w1) (hn : b < n) : Zer w1 b := ⟨four_low h.1 hb hn, fro_low h.2 hb hn⟩
theorem zer_one (w : World) (t : TypeId) : Zer (w.alloc (.cells #[.string ⟨#[]⟩, .slice none 0 0, .slice none 0 0, .int .i64 0] t)) w.heap.size := ⟨(box_four (Below.refl _ _)).1, FroB.new w _ _⟩
theorem new_row (w : World) (cs : Array Value) (t : TypeId) (m : Nat) (hm : m = w.heap.size) : ∀ j u, cs.toList[j]? = some u → (w.alloc (.cells cs t)).cell? ((⟨m, 0, none⟩ : Addr).add j) = some u := by
  intro j u hu
  have hadd : (⟨m, 0, none⟩ : Addr).add j = ⟨m, j, none⟩ := by unfold Addr.add; split <;> simp_all
  rw [hadd, World.cell?_alloc_at _ _ _ _ hm, ← Array.getElem?_toList]
  exact hu
theorem step_append_ax {P : Program} (w : World) {ops : Array Oper} {o : Oper} {a : Act} {K : Act → World → Prop} {Q : Exit → Act → World → Prop} {E : Prop} (hgd : o.guard = none) (s x : Operand) (t : TypeId)
    (ho : o.op = .call { callee := .builtin .append, args := #[s, x], argTypes := #[t, t] })
    (base : Nat) (e : TypeId) (i : TypeInfo) (z : Value) (size bytes : Nat) (ht : P.underlying t = some (.slice e)) (hi : P.info? e = some i) (hz : i.zero = some z)
    (hsize : i.size = size) (hby : i.bytes = bytes) (hzs : z.cells.size = size) (hsz : 0 < size)
    (v : Value) (n : Nat) (xs : List Value) (hs : a.eval s = v) (hown : w.ownsRow base e size v n xs)
    (ad : Addr) (m c : Nat) (news : List Value) (hx : a.eval x = .slice (some ad) m c) (hl : news.length = m * size) (hnews : ∀ j u, news[j]? = some u → w.cell? (ad.add j) = some u) (h1 : ∀ u ∈ news, u.oneCell' = true)
    (h63 : n + m ≤ maxLen) (hbytes : (n + m) * bytes ≤ 140737488355328) (hbase : base ≤ w.heap.size)
    (h : ∀ v' w', w'.ownsRow base e size v' (n + m) (xs ++ news) → w.grownBy w' v.ownBlock → K (a.put o.dst v') w') :
    if Region.wanted o (yielded ops a.tmps) = true then Oper.wp P o a w K Q else E := by
  have hw : Region.wanted o (yielded ops a.tmps) = true := by simp [Region.wanted, hgd]
  rw [if_pos hw]
  obtain ⟨v', w', hr, h2, h3, _⟩ := run_append_own (P := P) (w := w) base t o.type e i z size bytes ht hi hz hsize hby hzs hsz v n xs hown ad m c news hl hnews h1 h63 hbytes hbase
  unfold Oper.wp execOp
  simp only [ho, resolve, invoke, builtin, Sem.run_bind, Sem.run_pure, Result.andThen_ok, List.map_toArray, List.map_cons, List.map_nil, hs, hx, hr]
  exact h v' w' h2 h3
/-- the classes of a witness of a depth -/
def wc (n k : Nat) : Cls := ⟨(k : Int) + 1, k, 100 * ((n : Int) + 1 - ((k : Int) + 1)), 100 * ((n : Int) + 1 - ((k : Int) + 1)), 1500, 1500, 0, if k + 1 = n then 1 else 0⟩
def wcL (n k : Nat) : List Cls := (List.range k).map (wc n)
theorem wcL_more (n k : Nat) : clsCs (wcL n (k + 1)) = clsCs (wcL n k) ++ clsC (wc n k) := by
  unfold wcL
  rw [List.range_succ, List.map_append, clsCs_append]
  simp [clsCs]
theorem wcL_len (n k : Nat) : (wcL n k).length = k := by simp [wcL]
def wit (n : Nat) : Cfg := ⟨⟨#[100, 101, 101, 112]⟩, wcL n n, [], n⟩
def resWitnessOf2 (a : Int) : Bool := inB a 1 8
def resWitnessOf1 (a : Int) : Cfg := if inB a 1 8 then wit a.toNat else cfg0
theorem lenWitnessOf (a : Int) : CfgM (resWitnessOf1 a) := by
  unfold resWitnessOf1
  cases h : inB a 1 8
  · rw [if_neg Bool.false_ne_true]; exact ⟨by decide, by decide, by decide⟩
  · have := inBR_iff.1 h
    rw [if_pos rfl]
    exact ⟨by show ByteArray.size ⟨#[100, 101, 101, 112]⟩ ≤ _; decide, by show (wcL _ _).length ≤ _; rw [wcL_len]; omega, by show ([] : List Flt).length ≤ _; decide⟩
def WtRel (w : World) (n : Nat) (i : Value) (wr : World) : Prop :=
  ∃ (k : Nat) (v : Value), k ≤ n ∧ i = .int .i64 ((k : Int) + 1) ∧ Zer wr w.heap.size ∧ FourIs wr (w.heap.size + 1) (.string ⟨#[100, 101, 101, 112]⟩) v (.slice none 0 0) (.int .i64 (n : Int)) ∧ FroB wr (w.heap.size + 1) ∧ wr.ownsRow (w.heap.size + 2) 47 8 v k (clsCs (wcL n k)) ∧ Below w.heap.size w wr
set_option maxHeartbeats 12800000 in
theorem specWitnessOf_any (a : Int) (w : World) :
    Calls Try.prog 27 #[.int .i64 a] w (SaysCB w (resWitnessOf1 a) (resWitnessOf2 a)) := by
  have HIN := Lib.hid (fun w => l1In_any a 1 8 w)
  have Z0 := Lib.hid (zer_one w 33)
  have B0 := Lib.hid (one_new2 w (.cells #[.string ⟨#[]⟩, .slice none 0 0, .slice none 0 0, .int .i64 0] 33))
  unfold resWitnessOf1 resWitnessOf2
  cases hi0 : inB a 1 8
  · rw [hi0] at HIN
    obtain ⟨⟨x0, x1, x2, x3, _⟩, x4⟩ := Z0.out
    have y0 := x4 0
    have y1 := x4 1
    have y2 := x4 2
    have y3 := x4 3
    clear x4 hi0
    go_enter Try.func27, Try.ntmps27
    go_wp2_with (go_at_call 51; refine (HIN.out _).mono ?_; rintro e w9 ⟨rfl, rfl⟩)
    exact bodyPost_ret (v := .tuple #[zV, .bool false]) (by simp [results, Try.results27, go_sem, zV]) rfl ⟨_, rfl, own_zV _ _, B0.out⟩
  · have hab := inBR_iff.1 hi0
    obtain ⟨n, rfl⟩ : ∃ n : Nat, a = n := ⟨a.toNat, by omega⟩
    have hn1 : 1 ≤ n := by omega
    have hn8 : n ≤ 8 := by omega
    rw [hi0] at HIN
    obtain ⟨i0, hi, hz0, hz1, hz2⟩ := info_parts infoCls
    rw [if_pos rfl, Int.toNat_natCast]
    have U0 := Lib.hid (one_new2 (w.alloc (.cells #[.string ⟨#[]⟩, .slice none 0 0, .slice none 0 0, .int .i64 0] 33)) (.cells #[.string ⟨#[100, 101, 101, 112]⟩, .slice none 0 0, .slice none 0 0, .int .i64 (n : Int)] 33))
    clear hi0 hab
    go_enter Try.func27, Try.ntmps27
    go_wp2_with (go_at_call 51; refine (HIN.out _).mono ?_; rintro e w9 ⟨rfl, rfl⟩)
    go_loopw [5] (fun i wr => WtRel w n i wr) (fun i _ => n + 1 - (intOf i).toNat)
    case atStart => exact ⟨0, .slice none 0 0, Nat.zero_le _, rfl, Z0.out.on U0.out, by have := (box_four (Below.refl _ ((w.alloc (.cells #[.string ⟨#[]⟩, .slice none 0 0, .slice none 0 0, .int .i64 0] 33)).alloc (.cells #[.string ⟨#[100, 101, 101, 112]⟩, .slice none 0 0, .slice none 0 0, .int .i64 (n : Int)] 33)))).1; simpa using this, by have := FroB.new (w.alloc (.cells #[.string ⟨#[]⟩, .slice none 0 0, .slice none 0 0, .int .i64 0] 33)) #[.string ⟨#[100, 101, 101, 112]⟩, .slice none 0 0, .slice none 0 0, .int .i64 (n : Int)] 33; simpa using this, World.ownsRow_nil _ _ _ _, two_new _ _ _⟩
    case round =>
      obtain ⟨k, v, hk, rfl, hz, hf, hfr, ho, hb⟩ := hrel
      have HB := Lib.hid hb
      have HO := Lib.hid ho
      have HF := Lib.hid hf
      have HR := Lib.hid hfr
      have HZ := Lib.hid hz
      have hg1 : w.heap.size + 1 < wr.heap.size := hf.2.2.2.2
      obtain ⟨ad, cO, rfl, _⟩ := own_in ho
      by_cases hlt : k < n
      · have dk := is_le (show (k : Int) + 1 ≤ (n : Int) by omega)
        by_cases hl : k + 1 = n
        · have dl : (((k : Int) + 1) == (n : Int)) = true := by simp; omega
          have HN : Hid (clsCs (wcL n (k + 1)) = clsCs (wcL n k) ++ #[.int .i64 ((k : Int) + 1), .int .i64 (k : Int), .int .i64 (100 * ((n : Int) + 1 - ((k : Int) + 1))), .int .i64 (100 * ((n : Int) + 1 - ((k : Int) + 1))), .int .i64 1500, .int .i64 1500, .int .i64 0, .int .i64 1].toList) := Lib.hid (by rw [wcL_more]; unfold wc clsC; rw [if_pos hl])
          have BX := Lib.hid (one_new2 wr (.cells #[.int .i64 ((k : Int) + 1), .int .i64 (k : Int), .int .i64 (100 * ((n : Int) + 1 - ((k : Int) + 1))), .int .i64 (100 * ((n : Int) + 1 - ((k : Int) + 1))), .int .i64 1500, .int .i64 1500, .int .i64 0, .int .i64 1] 47))
          have HO1 : Hid ((wr.alloc (.cells #[.int .i64 ((k : Int) + 1), .int .i64 (k : Int), .int .i64 (100 * ((n : Int) + 1 - ((k : Int) + 1))), .int .i64 (100 * ((n : Int) + 1 - ((k : Int) + 1))), .int .i64 1500, .int .i64 1500, .int .i64 0, .int .i64 1] 47)).ownsRow (w.heap.size + 2) 47 8 (.slice ad k cO) k (clsCs (wcL n k))) := Lib.hid (World.ownsRow.alloc HO.out _)
          have BY := Lib.hid (BX.out.trans ((one_new2 (wr.alloc (.cells #[.int .i64 ((k : Int) + 1), .int .i64 (k : Int), .int .i64 (100 * ((n : Int) + 1 - ((k : Int) + 1))), .int .i64 (100 * ((n : Int) + 1 - ((k : Int) + 1))), .int .i64 1500, .int .i64 1500, .int .i64 0, .int .i64 1] 47)) (.cells #[.int .i64 ((k : Int) + 1), .int .i64 (k : Int), .int .i64 (100 * ((n : Int) + 1 - ((k : Int) + 1))), .int .i64 (100 * ((n : Int) + 1 - ((k : Int) + 1))), .int .i64 1500, .int .i64 1500, .int .i64 0, .int .i64 1] 47)).mono BX.out.size))
          have FY := Lib.hid (HF.out.on BY.out)
          have RY := Lib.hid (HR.out.on BY.out hg1)
          have ZY := Lib.hid (HZ.out.on BY.out)
          have HOY := Lib.hid (World.ownsRow.alloc HO1.out (.cells #[.int .i64 ((k : Int) + 1), .int .i64 (k : Int), .int .i64 (100 * ((n : Int) + 1 - ((k : Int) + 1))), .int .i64 (100 * ((n : Int) + 1 - ((k : Int) + 1))), .int .i64 1500, .int .i64 1500, .int .i64 0, .int .i64 1] 47))
          have f1 := HF.out.2.1
          clear hz hf hfr ho hb hl
          go_wp2_with (at_builtin; refine wpList_append_own _ rfl _ _ 30 rfl (w.heap.size + 2) 47 i0 (.agg #[.int .i64 0, .int .i64 0, .int .i64 0, .int .i64 0, .int .i64 0, .int .i64 0, .int .i64 0, .int .i64 0]) 8 64 Try.underlying30 hi hz0 hz1 hz2 rfl (by decide) (.slice ad k cO) k (clsCs (wcL n k)) rfl (World.ownsRow.alloc HO1.out _) ⟨wr.heap.size + 1, 0, none⟩ 1 1 #[.int .i64 ((k : Int) + 1), .int .i64 (k : Int), .int .i64 (100 * ((n : Int) + 1 - ((k : Int) + 1))), .int .i64 (100 * ((n : Int) + 1 - ((k : Int) + 1))), .int .i64 1500, .int .i64 1500, .int .i64 0, .int .i64 1].toList rfl rfl (new_row (wr.alloc (.cells #[.int .i64 ((k : Int) + 1), .int .i64 (k : Int), .int .i64 (100 * ((n : Int) + 1 - ((k : Int) + 1))), .int .i64 (100 * ((n : Int) + 1 - ((k : Int) + 1))), .int .i64 1500, .int .i64 1500, .int .i64 0, .int .i64 1] 47)) _ _ _ (by simp)) (by intro u hu; simp only [List.mem_cons, List.not_mem_nil, or_false] at hu; rcases hu with rfl | rfl | rfl | rfl | rfl | rfl | rfl | rfl <;> rfl) (by unfold maxLen; omega) (by omega) (by simp; omega) ?_; intro v' wA hown1 hgrow1 _; have BA := Lib.hid ((Below.refl (w.heap.size + 2) ((wr.alloc (.cells #[.int .i64 ((k : Int) + 1), .int .i64 (k : Int), .int .i64 (100 * ((n : Int) + 1 - ((k : Int) + 1))), .int .i64 (100 * ((n : Int) + 1 - ((k : Int) + 1))), .int .i64 1500, .int .i64 1500, .int .i64 0, .int .i64 1] 47)).alloc (.cells #[.int .i64 ((k : Int) + 1), .int .i64 (k : Int), .int .i64 (100 * ((n : Int) + 1 - ((k : Int) + 1))), .int .i64 (100 * ((n : Int) + 1 - ((k : Int) + 1))), .int .i64 1500, .int .i64 1500, .int .i64 0, .int .i64 1] 47))).grown hgrow1 (by simp; omega) (fun g h => (World.ownsRow.lt HOY.out g h).1)); obtain ⟨a', c', hv', _⟩ := own_in hown1; have OA := Lib.hid hown1; have FA := Lib.hid (four_low FY.out BA.out (by omega)); have RA := Lib.hid (fro_low RY.out BA.out (by omega)); have ZA := Lib.hid (zer_low ZY.out BA.out (by omega)); subst hv'; obtain ⟨g0, g1, g2, g3, _⟩ := FA.out; have r1 := RA.out 1; clear hown1 hgrow1)
          go_roundw
          case rel => exact ⟨k + 1, _, by omega, by go_num, ZA.out.set (by omega) _, FA.out.set1 _, RA.out.set _ _, wit_far (by rw [HN.out]; exact OA.out) (fun g h => by have := (World.ownsRow.lt OA.out g h).1; omega) _, (HB.out.trans ((BY.out.mono HB.out.size).trans (BA.out.mono (by omega)))).setCell (p := ⟨w.heap.size + 1, 1, none⟩) (by show w.heap.size ≤ w.heap.size + 1; omega) _⟩
          case measure => simp [intOf]; omega
        · have dl : (((k : Int) + 1) == (n : Int)) = false := by simp; omega
          have HN : Hid (clsCs (wcL n (k + 1)) = clsCs (wcL n k) ++ #[.int .i64 ((k : Int) + 1), .int .i64 (k : Int), .int .i64 (100 * ((n : Int) + 1 - ((k : Int) + 1))), .int .i64 (100 * ((n : Int) + 1 - ((k : Int) + 1))), .int .i64 1500, .int .i64 1500, .int .i64 0, .int .i64 0].toList) := Lib.hid (by rw [wcL_more]; unfold wc clsC; rw [if_neg hl])
          have BX := Lib.hid (one_new2 wr (.cells #[.int .i64 ((k : Int) + 1), .int .i64 (k : Int), .int .i64 (100 * ((n : Int) + 1 - ((k : Int) + 1))), .int .i64 (100 * ((n : Int) + 1 - ((k : Int) + 1))), .int .i64 1500, .int .i64 1500, .int .i64 0, .int .i64 0] 47))
          have HO1 : Hid ((wr.alloc (.cells #[.int .i64 ((k : Int) + 1), .int .i64 (k : Int), .int .i64 (100 * ((n : Int) + 1 - ((k : Int) + 1))), .int .i64 (100 * ((n : Int) + 1 - ((k : Int) + 1))), .int .i64 1500, .int .i64 1500, .int .i64 0, .int .i64 0] 47)).ownsRow (w.heap.size + 2) 47 8 (.slice ad k cO) k (clsCs (wcL n k))) := Lib.hid (World.ownsRow.alloc HO.out _)
          have BY := Lib.hid (BX.out.trans ((one_new2 (wr.alloc (.cells #[.int .i64 ((k : Int) + 1), .int .i64 (k : Int), .int .i64 (100 * ((n : Int) + 1 - ((k : Int) + 1))), .int .i64 (100 * ((n : Int) + 1 - ((k : Int) + 1))), .int .i64 1500, .int .i64 1500, .int .i64 0, .int .i64 0] 47)) (.cells #[.int .i64 ((k : Int) + 1), .int .i64 (k : Int), .int .i64 (100 * ((n : Int) + 1 - ((k : Int) + 1))), .int .i64 (100 * ((n : Int) + 1 - ((k : Int) + 1))), .int .i64 1500, .int .i64 1500, .int .i64 0, .int .i64 0] 47)).mono BX.out.size))
          have FY := Lib.hid (HF.out.on BY.out)
          have RY := Lib.hid (HR.out.on BY.out hg1)
          have ZY := Lib.hid (HZ.out.on BY.out)
          have HOY := Lib.hid (World.ownsRow.alloc HO1.out (.cells #[.int .i64 ((k : Int) + 1), .int .i64 (k : Int), .int .i64 (100 * ((n : Int) + 1 - ((k : Int) + 1))), .int .i64 (100 * ((n : Int) + 1 - ((k : Int) + 1))), .int .i64 1500, .int .i64 1500, .int .i64 0, .int .i64 0] 47))
          have f1 := HF.out.2.1
          clear hz hf hfr ho hb hl
          go_wp2_with (at_builtin; refine wpList_append_own _ rfl _ _ 30 rfl (w.heap.size + 2) 47 i0 (.agg #[.int .i64 0, .int .i64 0, .int .i64 0, .int .i64 0, .int .i64 0, .int .i64 0, .int .i64 0, .int .i64 0]) 8 64 Try.underlying30 hi hz0 hz1 hz2 rfl (by decide) (.slice ad k cO) k (clsCs (wcL n k)) rfl (World.ownsRow.alloc HO1.out _) ⟨wr.heap.size + 1, 0, none⟩ 1 1 #[.int .i64 ((k : Int) + 1), .int .i64 (k : Int), .int .i64 (100 * ((n : Int) + 1 - ((k : Int) + 1))), .int .i64 (100 * ((n : Int) + 1 - ((k : Int) + 1))), .int .i64 1500, .int .i64 1500, .int .i64 0, .int .i64 0].toList rfl rfl (new_row (wr.alloc (.cells #[.int .i64 ((k : Int) + 1), .int .i64 (k : Int), .int .i64 (100 * ((n : Int) + 1 - ((k : Int) + 1))), .int .i64 (100 * ((n : Int) + 1 - ((k : Int) + 1))), .int .i64 1500, .int .i64 1500, .int .i64 0, .int .i64 0] 47)) _ _ _ (by simp)) (by intro u hu; simp only [List.mem_cons, List.not_mem_nil, or_false] at hu; rcases hu with rfl | rfl | rfl | rfl | rfl | rfl | rfl | rfl <;> rfl) (by unfold maxLen; omega) (by omega) (by simp; omega) ?_; intro v' wA hown1 hgrow1 _; have BA := Lib.hid ((Below.refl (w.heap.size + 2) ((wr.alloc (.cells #[.int .i64 ((k : Int) + 1), .int .i64 (k : Int), .int .i64 (100 * ((n : Int) + 1 - ((k : Int) + 1))), .int .i64 (100 * ((n : Int) + 1 - ((k : Int) + 1))), .int .i64 1500, .int .i64 1500, .int .i64 0, .int .i64 0] 47)).alloc (.cells #[.int .i64 ((k : Int) + 1), .int .i64 (k : Int), .int .i64 (100 * ((n : Int) + 1 - ((k : Int) + 1))), .int .i64 (100 * ((n : Int) + 1 - ((k : Int) + 1))), .int .i64 1500, .int .i64 1500, .int .i64 0, .int .i64 0] 47))).grown hgrow1 (by simp; omega) (fun g h => (World.ownsRow.lt HOY.out g h).1)); obtain ⟨a', c', hv', _⟩ := own_in hown1; have OA := Lib.hid hown1; have FA := Lib.hid (four_low FY.out BA.out (by omega)); have RA := Lib.hid (fro_low RY.out BA.out (by omega)); have ZA := Lib.hid (zer_low ZY.out BA.out (by omega)); subst hv'; obtain ⟨g0, g1, g2, g3, _⟩ := FA.out; have r1 := RA.out 1; clear hown1 hgrow1)
          go_roundw
          case rel => exact ⟨k + 1, _, by omega, by go_num, ZA.out.set (by omega) _, FA.out.set1 _, RA.out.set _ _, wit_far (by rw [HN.out]; exact OA.out) (fun g h => by have := (World.ownsRow.lt OA.out g h).1; omega) _, (HB.out.trans ((BY.out.mono HB.out.size).trans (BA.out.mono (by omega)))).setCell (p := ⟨w.heap.size + 1, 1, none⟩) (by show w.heap.size ≤ w.heap.size + 1; omega) _⟩
          case measure => simp [intOf]; omega
      · have hkn : k = n := by omega
        subst hkn
        have dk := not_le (show (k : Int) < (k : Int) + 1 by omega)
        obtain ⟨z0, z1, z2, z3, _⟩ := HF.out
        obtain ⟨⟨x0, x1, x2, x3, _⟩, x4⟩ := HZ.out
        have y0 := x4 0
        have y1 := x4 1
        have y2 := x4 2
        have y3 := x4 3
        clear x4 hz hf hfr ho hb
        go_wp2_with fail
        obtain ⟨r0, r1, r2, r3⟩ := read4 HZ.out.four (.string ⟨#[100, 101, 101, 112]⟩) (.slice ad k cO) (.slice none 0 0) (.int .i64 (k : Int)) _ rfl
        have OC : Hid (OwnCfg wr (w.heap.size + 2) (.agg #[.string ⟨#[100, 101, 101, 112]⟩, .slice ad k cO, .slice none 0 0, .int .i64 (k : Int)]) (wit k)) := Lib.hid ⟨_, _, rfl, by show World.ownsRow _ _ _ _ _ (wcL k k).length (clsCs (wcL k k)); rw [wcL_len]; exact HO.out, World.ownsRow_nil _ _ _ _, fun g h h' => by cases h'⟩
        exact bodyPost_ret (v := .tuple #[(.agg #[.string ⟨#[100, 101, 101, 112]⟩, .slice ad k cO, .slice none 0 0, .int .i64 (k : Int)]), .bool true]) (by simp [results, Try.results27, go_sem, r0, r1, r2, r3]) rfl ⟨_, rfl, (OC.out.set4 (by omega) _ _ _ _).base (by omega), set4 HB.out _ (Nat.le_refl _) _ _ _ _⟩
end Go.Proofs.Ytfijhgggljaomaa
