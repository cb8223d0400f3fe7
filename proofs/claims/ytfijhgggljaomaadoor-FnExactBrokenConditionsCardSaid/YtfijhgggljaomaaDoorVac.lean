/- Chapter 8, the program: classes found by a closure, ways up with marks. -/
import Derived.Test.YtfijhgggljaomaaDoorVas
import Derived.Deep.CutRange
namespace Go.Proofs.YtfijhgggljaomaaDoor
set_option maxRecDepth 100000
open Go.RowKit
set_option linter.unusedVariables false

def IxRel (w : World) (n : Nat) (cs : List Cls) (id : Int) (i : Value) (wr : World) : Prop := ∃ k : Nat, k ≤ n ∧ i = .int .i64 k ∧ Below w.heap.size w wr ∧ ∀ j, j < k → (cs.getD j cls0).i ≠ id
/-- classes with their Parents for their Ids -/
def swp (cs : List Cls) : List Cls := cs.map (fun x => { x with i := x.p })
theorem swp_len (cs : List Cls) : (swp cs).length = cs.length := by unfold swp; simp
theorem swp_get (cs : List Cls) (k : Nat) (h : k < cs.length) : ((swp cs).getD k cls0).i = (cs.getD k cls0).p := by
  unfold swp; simp [List.getD_eq_getElem?_getD, h]
theorem swp_has : ∀ (cs : List Cls) (id : Int), (fnd (swp cs) id).isSome = hasK cs id
  | [], _ => rfl
  | x :: r, id => by
    have h1 : hasK (x :: r) id = ((x.p == id) || hasK r id) := by unfold hasK; rw [List.any_cons]
    rw [h1]
    show (if x.p = id then Option.some 0 else (fnd (swp r) id).map (· + 1)).isSome = _
    by_cases h : x.p = id
    · rw [if_pos h]; simp [h]
    · rw [if_neg h, Option.isSome_map, swp_has r id, beq_eq_false_iff_ne.2 h, Bool.false_or]
theorem fndI_nat {cs : List Cls} {id : Int} : decide (0 ≤ fndI cs id) = (fnd cs id).isSome := by
  unfold fndI
  cases fnd cs id with
  | none => rfl
  | some k => simp
theorem fndI_not {cs : List Cls} {id : Int} : (fndI cs id != -1) = (fnd cs id).isSome := by
  unfold fndI
  cases fnd cs id with
  | none => rfl
  | some k => simp
set_option maxHeartbeats 1600000 in
theorem cw_cl (x : Cls) (b : Nat) (id : Int) (w : World) (Hb : Hid (w.cell? ⟨b, 0, none⟩ = some (.int .i64 id))) (hb : b < w.heap.size) :
    Calls Tryd.prog 92 #[clsV x, .pointer (some ⟨b, 0, none⟩)] w (SaysB w (x.i == id)) := by
  obtain ⟨r, hr⟩ : ∃ r, (x.i == id) = r := ⟨_, rfl⟩
  have HB := Lib.hid (fun o => ((bcell (one_new2 w o)).1 _ 0 hb).trans Hb.out)
  have HB2 := HB.out
  rw [hr]
  obtain ⟨xi, xp, xr, xe, xb, xu, xo, xl⟩ := x
  unfold clsV
  simp only at hr ⊢
  go_enter Tryd.func92, Tryd.ntmps92
  go_wp2_with fail
  go_ret
  exact ⟨rfl, one_new2 _ _⟩
set_option maxHeartbeats 3200000 in
theorem cw_ix (ac : Option Addr) (n cc : Nat) (cs : List Cls) (b : Nat) (id : Int) (w : World) (HI : Hid (InX w ac n (clsCs cs))) (hn : Hid (cs.length = n)) (hm : n ≤ 1048576) (Hb : Hid (w.cell? ⟨b, 0, none⟩ = some (.int .i64 id))) (hb : b < w.heap.size) :
    Calls Tryd.prog 91 #[(.slice ac n cc), .func (Fn.func 92) #[] #[.pointer (some ⟨b, 0, none⟩)]] w (SaysI w (fndI (cs) id)) := by
  go_enter Tryd.func91, Tryd.ntmps91
  go_wp2_with fail
  go_loopw [8] (fun i wr => IxRel w n (cs) id i wr) (fun i _ => n - (intOf i).toNat)
  case atStart => exact ⟨0, Nat.zero_le _, rfl, Below.refl _ _, fun j hj => absurd hj (Nat.not_lt_zero j)⟩
  case round =>
    obtain ⟨k, hk, rfl, hbl, hno⟩ := hrel
    have HB := Lib.hid hbl
    have HN := Lib.hid hno
    clear hno
    by_cases hlt : k < n
    · have HGI := HI.out
      obtain ⟨g, rfl, ht, hg⟩ := HGI (by omega)
      obtain ⟨x, hx⟩ : ∃ x, cs.getD k cls0 = x := ⟨_, rfl⟩
      have hl1 : k < cs.length := by rw [hn.out]; exact hlt
      obtain ⟨a0, a1, a2, a3, a4, a5, a6, a7⟩ := (ht.below hbl hg).cls k hl1 x hx
      have HC := Lib.hid (fun w' Hb hb => cw_cl x b id w' Hb hb)
      have Hb2 : Hid (wr.cell? ⟨b, 0, none⟩ = some (.int .i64 id)) := Lib.hid (((bcell HB.out).1 b 0 hb).trans Hb.out)
      have hb2 : b < wr.heap.size := Nat.lt_of_lt_of_le hb HB.out.size
      have hprj : ((cs).getD k cls0).i = x.i := by rw [← hx]
      have hpl : (cs).length = n := by exact hn.out
      by_cases he : x.i = id
      · have HX : Hid (fndI (cs) id = k) := Lib.hid (fndI_some (fnd_some _ id k (by omega) (by rw [hprj]; exact he) HN.out))
        rw [show (x.i == id) = true by simpa using he] at HC
        obtain ⟨xi, xp, xr, xe, xb, xu, xo, xl⟩ := x
        unfold clsV at HC
        simp only at a0 a1 a2 a3 a4 a5 a6 a7 HC
        clear hbl hx hl1 ht he hprj
        go_wp2_with (go_at_call 92; refine (HC.out _ Hb2 hb2).mono ?_; rintro e w1 ⟨rfl, b1⟩; have B1 := Lib.hid (HB.out.trans (b1.mono HB.out.size)); clear b1)
        go_ret
        exact ⟨ret_int HX.out.symm, B1.out⟩
      · have HX : Hid (∀ j, j < k + 1 → ((cs).getD j cls0).i ≠ id) := Lib.hid (fun j hj => by
          rcases Nat.lt_succ_iff_lt_or_eq.1 hj with h | h
          · exact HN.out j h
          · rw [h, hprj]; exact he)
        rw [show (x.i == id) = false by simpa using he] at HC
        obtain ⟨xi, xp, xr, xe, xb, xu, xo, xl⟩ := x
        unfold clsV at HC
        simp only at a0 a1 a2 a3 a4 a5 a6 a7 HC
        clear hbl hx hl1 ht he hprj
        go_wp2_with (go_at_call 92; refine (HC.out _ Hb2 hb2).mono ?_; rintro e w1 ⟨rfl, b1⟩; have B1 := Lib.hid (HB.out.trans (b1.mono HB.out.size)); clear b1)
        go_roundw
        case rel => exact ⟨k + 1, by omega, by go_num, B1.out, HX.out⟩
        case measure => simp [intOf]; omega
    · have hpl : (cs).length = n := by exact hn.out
      have HX : Hid (fndI (cs) id = -1) := Lib.hid (fndI_none (fnd_none _ id (fun j hj => HN.out j (by omega))))
      clear hbl
      go_wp2_with fail
      go_ret
      exact ⟨ret_int HX.out.symm, HB.out⟩
set_option maxHeartbeats 1600000 in
theorem hc_cl (x : Cls) (b : Nat) (id : Int) (w : World) (Hb : Hid (w.cell? ⟨b, 0, none⟩ = some (.int .i64 id))) (hb : b < w.heap.size) :
    Calls Tryd.prog 94 #[clsV x, .pointer (some ⟨b, 0, none⟩)] w (SaysB w (x.p == id)) := by
  obtain ⟨r, hr⟩ : ∃ r, (x.p == id) = r := ⟨_, rfl⟩
  have HB := Lib.hid (fun o => ((bcell (one_new2 w o)).1 _ 0 hb).trans Hb.out)
  have HB2 := HB.out
  rw [hr]
  obtain ⟨xi, xp, xr, xe, xb, xu, xo, xl⟩ := x
  unfold clsV
  simp only at hr ⊢
  go_enter Tryd.func94, Tryd.ntmps94
  go_wp2_with fail
  go_ret
  exact ⟨rfl, one_new2 _ _⟩
set_option maxHeartbeats 3200000 in
theorem hc_ix (ac : Option Addr) (n cc : Nat) (cs : List Cls) (b : Nat) (id : Int) (w : World) (HI : Hid (InX w ac n (clsCs cs))) (hn : Hid (cs.length = n)) (hm : n ≤ 1048576) (Hb : Hid (w.cell? ⟨b, 0, none⟩ = some (.int .i64 id))) (hb : b < w.heap.size) :
    Calls Tryd.prog 91 #[(.slice ac n cc), .func (Fn.func 94) #[] #[.pointer (some ⟨b, 0, none⟩)]] w (SaysI w (fndI (swp cs) id)) := by
  go_enter Tryd.func91, Tryd.ntmps91
  go_wp2_with fail
  go_loopw [8] (fun i wr => IxRel w n (swp cs) id i wr) (fun i _ => n - (intOf i).toNat)
  case atStart => exact ⟨0, Nat.zero_le _, rfl, Below.refl _ _, fun j hj => absurd hj (Nat.not_lt_zero j)⟩
  case round =>
    obtain ⟨k, hk, rfl, hbl, hno⟩ := hrel
    have HB := Lib.hid hbl
    have HN := Lib.hid hno
    clear hno
    by_cases hlt : k < n
    · have HGI := HI.out
      obtain ⟨g, rfl, ht, hg⟩ := HGI (by omega)
      obtain ⟨x, hx⟩ : ∃ x, cs.getD k cls0 = x := ⟨_, rfl⟩
      have hl1 : k < cs.length := by rw [hn.out]; exact hlt
      obtain ⟨a0, a1, a2, a3, a4, a5, a6, a7⟩ := (ht.below hbl hg).cls k hl1 x hx
      have HC := Lib.hid (fun w' Hb hb => hc_cl x b id w' Hb hb)
      have Hb2 : Hid (wr.cell? ⟨b, 0, none⟩ = some (.int .i64 id)) := Lib.hid (((bcell HB.out).1 b 0 hb).trans Hb.out)
      have hb2 : b < wr.heap.size := Nat.lt_of_lt_of_le hb HB.out.size
      have hprj : ((swp cs).getD k cls0).i = x.p := by rw [← hx]; exact swp_get cs k hl1
      have hpl : (swp cs).length = n := by rw [swp_len]; exact hn.out
      by_cases he : x.p = id
      · have HX : Hid (fndI (swp cs) id = k) := Lib.hid (fndI_some (fnd_some _ id k (by omega) (by rw [hprj]; exact he) HN.out))
        rw [show (x.p == id) = true by simpa using he] at HC
        obtain ⟨xi, xp, xr, xe, xb, xu, xo, xl⟩ := x
        unfold clsV at HC
        simp only at a0 a1 a2 a3 a4 a5 a6 a7 HC
        clear hbl hx hl1 ht he hprj
        go_wp2_with (go_at_call 94; refine (HC.out _ Hb2 hb2).mono ?_; rintro e w1 ⟨rfl, b1⟩; have B1 := Lib.hid (HB.out.trans (b1.mono HB.out.size)); clear b1)
        go_ret
        exact ⟨ret_int HX.out.symm, B1.out⟩
      · have HX : Hid (∀ j, j < k + 1 → ((swp cs).getD j cls0).i ≠ id) := Lib.hid (fun j hj => by
          rcases Nat.lt_succ_iff_lt_or_eq.1 hj with h | h
          · exact HN.out j h
          · rw [h, hprj]; exact he)
        rw [show (x.p == id) = false by simpa using he] at HC
        obtain ⟨xi, xp, xr, xe, xb, xu, xo, xl⟩ := x
        unfold clsV at HC
        simp only at a0 a1 a2 a3 a4 a5 a6 a7 HC
        clear hbl hx hl1 ht he hprj
        go_wp2_with (go_at_call 94; refine (HC.out _ Hb2 hb2).mono ?_; rintro e w1 ⟨rfl, b1⟩; have B1 := Lib.hid (HB.out.trans (b1.mono HB.out.size)); clear b1)
        go_roundw
        case rel => exact ⟨k + 1, by omega, by go_num, B1.out, HX.out⟩
        case measure => simp [intOf]; omega
    · have hpl : (swp cs).length = n := by rw [swp_len]; exact hn.out
      have HX : Hid (fndI (swp cs) id = -1) := Lib.hid (fndI_none (fnd_none _ id (fun j hj => HN.out j (by omega))))
      clear hbl
      go_wp2_with fail
      go_ret
      exact ⟨ret_int HX.out.symm, HB.out⟩
set_option maxHeartbeats 1600000 in
theorem classWith_any (ac : Option Addr) (n cc : Nat) (cs : List Cls) (id : Int) (w : World) (HI : Hid (InX w ac n (clsCs cs))) (hn : Hid (cs.length = n)) (hm : n ≤ 1048576) :
    Calls Tryd.prog 77 #[(.slice ac n cc), .int .i64 id] w (SaysI w (fndI cs id)) := by
  have HX := Lib.hid (fun b w HI Hb hb => cw_ix ac n cc cs b id w HI hn hm Hb hb)
  generalize fndI cs id = r at HX ⊢
  go_enter Tryd.func77, Tryd.ntmps77
  go_wp2_with (go_at_call 91; refine (HX.out w.heap.size _ (Lib.hid (HI.out.below (one_new2 _ _))) (Lib.hid (by simp [go_sem])) (by simp)).mono ?_; rintro e w1 ⟨rfl, b1⟩; have B1 := Lib.hid ((one_new2 _ _).trans (b1.mono (by simp))); clear b1)
  go_ret
  exact ⟨rfl, B1.out⟩
set_option maxHeartbeats 1600000 in
theorem hasCF_any (ac : Option Addr) (n cc : Nat) (cs : List Cls) (b : Nat) (id : Int) (w : World) (HI : Hid (InX w ac n (clsCs cs))) (hn : Hid (cs.length = n)) (hm : n ≤ 1048576) (Hb : Hid (w.cell? ⟨b, 0, none⟩ = some (.int .i64 id))) (hb : b < w.heap.size) :
    Calls Tryd.prog 93 #[(.slice ac n cc), .func (Fn.func 94) #[] #[.pointer (some ⟨b, 0, none⟩)]] w (SaysB w (hasK cs id)) := by
  have HX := Lib.hid (hc_ix ac n cc cs b id w HI hn hm Hb hb)
  have HE : Hid (decide (0 ≤ fndI (swp cs) id) = hasK cs id) := Lib.hid (fndI_nat.trans (swp_has cs id))
  generalize fndI (swp cs) id = r at HX HE
  obtain ⟨q, hq⟩ : ∃ q, hasK cs id = q := ⟨_, rfl⟩
  rw [hq] at HE ⊢
  have dr := HE.out
  clear hq
  go_enter Tryd.func93, Tryd.ntmps93
  go_wp2_with (go_at_call 91; refine HX.out.mono ?_; rintro e w1 ⟨rfl, b1⟩; have B1 := Lib.hid b1; clear b1)
  go_ret
  exact ⟨rfl, B1.out⟩
set_option maxHeartbeats 1600000 in
theorem hasChildren_any (ac : Option Addr) (n cc : Nat) (cs : List Cls) (id : Int) (w : World) (HI : Hid (InX w ac n (clsCs cs))) (hn : Hid (cs.length = n)) (hm : n ≤ 1048576) :
    Calls Tryd.prog 84 #[(.slice ac n cc), .int .i64 id] w (SaysB w (hasK cs id)) := by
  have HX := Lib.hid (fun b w HI Hb hb => hasCF_any ac n cc cs b id w HI hn hm Hb hb)
  generalize hasK cs id = r at HX ⊢
  go_enter Tryd.func84, Tryd.ntmps84
  go_wp2_with (go_at_call 93; refine (HX.out w.heap.size _ (Lib.hid (HI.out.below (one_new2 _ _))) (Lib.hid (by simp [go_sem])) (by simp)).mono ?_; rintro e w1 ⟨rfl, b1⟩; have B1 := Lib.hid ((one_new2 _ _).trans (b1.mono (by simp))); clear b1)
  go_ret
  exact ⟨rfl, B1.out⟩
set_option maxHeartbeats 1600000 in
theorem isLeafId_any (ac : Option Addr) (n cc : Nat) (cs : List Cls) (id : Int) (w : World) (HI : Hid (InX w ac n (clsCs cs))) (hn : Hid (cs.length = n)) (hm : n ≤ 1048576) :
    Calls Tryd.prog 61 #[(.slice ac n cc), .int .i64 id] w (SaysB w (leafB cs id)) := by
  have HX := Lib.hid (fun w HI => classWith_any ac n cc cs id w HI hn hm)
  have HY := Lib.hid (fun w HI => hasChildren_any ac n cc cs id w HI hn hm)
  have HL : Hid (leafB cs id = ((fndI cs id != -1) && !hasK cs id)) := Lib.hid (by unfold leafB; rw [fndI_not])
  generalize fndI cs id = r at HX HL
  generalize hasK cs id = q at HY HL
  generalize leafB cs id = B at HL ⊢
  obtain ⟨b, hb⟩ : ∃ b, (r != -1) = b := ⟨_, rfl⟩
  rw [hb] at HL
  go_enter Tryd.func61, Tryd.ntmps61
  cases b
  · go_wp2_with (go_at_call 77; refine (HX.out _ HI).mono ?_; rintro e w1 ⟨rfl, b1⟩; have B1 := Lib.hid b1; clear b1)
    go_ret
    exact ⟨ret_bool (by rw [HL.out]; rfl), B1.out⟩
  · go_wp2_with (go_at_call 77; refine (HX.out _ HI).mono ?_; rintro e w1 ⟨rfl, b1⟩; have B1 := Lib.hid b1; clear b1)
    go_wp2_with (go_at_call 84; refine (HY.out _ (Lib.hid (HI.out.below B1.out))).mono ?_; rintro e w2 ⟨rfl, b2⟩; have B2 := Lib.hid (B1.out.trans (b2.mono B1.out.size)); clear b2)
    go_ret
    exact ⟨ret_bool (by rw [HL.out]; simp), B2.out⟩
/-! Ways up, with marks. -/
def cI : Option Nat → Int
  | .none => -1
  | .some k => k
/-- forty marks in memory: which classes are passed -/
def pasX (W : List Nat) : List Value := (List.range 40).map (fun j => Value.bool (decide (j ∈ W)))
theorem pasX_get (W : List Nat) (j : Nat) (h : j < 40) : (pasX W)[j]? = some (Value.bool (decide (j ∈ W))) := by simp [pasX, h]
theorem pasX_zero : pasX [] = List.replicate 40 (Value.bool false) := by
  unfold pasX; simp [List.range, List.range.loop]
theorem pasX_set (W : List Nat) (j : Nat) : (pasX W).set j (.bool true) = pasX (W ++ [j]) := by
  apply List.ext_getElem?
  intro i
  have hl : ∀ W, (pasX W).length = 40 := fun W => by simp [pasX]
  by_cases hi : i < 40
  · rw [pasX_get _ _ hi]
    by_cases e : j = i
    · subst e
      rw [List.getElem?_set_self (by rw [hl]; exact hi)]; simp
    · rw [List.getElem?_set_ne e, pasX_get _ _ hi]
      have : i ≠ j := fun q => e q.symm
      simp [this]
  · rw [List.getElem?_eq_none (by rw [List.length_set, hl]; omega), List.getElem?_eq_none (by rw [hl]; omega)]
def Pas (w : World) (B g : Nat) (W : List Nat) : Prop := w.ownsRow B 92 1 (.slice (some ⟨g, 0, none⟩) 40 40) 40 (pasX W)
theorem Pas.at {w : World} {B g : Nat} {W : List Nat} (h : Pas w B g W) (j : Nat) (hj : j < 40) : w.cell? ⟨g, j, none⟩ = some (.bool (decide (j ∈ W))) := by
  obtain ⟨a, c, hv, hi⟩ := own_in h
  cases hv
  obtain ⟨g', e, ht, _⟩ := hi (by omega)
  cases e
  exact ht.at _ (pasX_get W j hj)
theorem Pas.put {w : World} {B g : Nat} {W : List Nat} (h : Pas w B g W) (j : Nat) : Pas (w.setCell ⟨g, j, none⟩ (.bool true)) B g (W ++ [j]) := by
  have := own_store h j (.bool true)
  rw [pasX_set] at this
  exact this
theorem Pas.low {w w' : World} {B B' g : Nat} {W : List Nat} (h : Pas w B g W) (hb : Below B' w w') (hB : g < B') : Pas w' B g W := own_below h hb (fun k hk => by cases hk; exact hB)
theorem pas_new (w : World) (Z : Array Value) (hZ : Z.toList = List.replicate 40 (Value.bool false)) : Pas (w.alloc (.cells Z 92)) w.heap.size w.heap.size [] := by
  unfold Pas
  rw [pasX_zero, ← hZ]
  exact World.ownsRow_lit w Z 40 (Nat.le_refl _) (by unfold maxLen; omega) (by have := congrArg List.length hZ; simpa using this)
def WkRel (w : World) (n : Nat) (cs : List Cls) (R : Nat × Int) (iv cv : Value) (wr : World) : Prop :=
  ∃ (W : List Nat) (cur : Option Nat), iv = .int .i64 (cI cur) ∧ cv = .int .i64 (W.length : Int) ∧ W.Nodup ∧ (∀ x ∈ W, x < n) ∧ (∀ j, cur = Option.some j → j < n) ∧ Below w.heap.size w wr ∧ w.heap.size < wr.heap.size ∧ Pas wr w.heap.size w.heap.size W ∧ Hid (wk cs (41 - W.length) W cur = R)
def SaysNI (w : World) (a : Nat) (b : Int) (e : Ending) (w' : World) : Prop := e = .returned (.tuple #[.int .i64 (a : Int), .int .i64 b]) ∧ Below w.heap.size w w'
theorem ret_ni {a a' b b' : Int} (h : a = a') (h' : b = b') : Ending.returned (.tuple #[.int .i64 a, .int .i64 b]) = .returned (.tuple #[.int .i64 a', .int .i64 b']) := by rw [h, h']
set_option maxHeartbeats 6400000 in
theorem walkUp_any (ac : Option Addr) (n cc : Nat) (cs : List Cls) (q : Nat) (w : World) (HI : Hid (InX w ac n (clsCs cs))) (hn : Hid (cs.length = n)) (hm : n ≤ 1048576) (h40 : n ≤ 40) (hq : q < n) :
    Calls Tryd.prog 79 #[(.slice ac n cc), .int .i64 (q : Int)] w (SaysNI w (wkN cs q) (wkA cs q)) := by
  obtain ⟨R1, h1⟩ : ∃ R, wkN cs q = R := ⟨_, rfl⟩
  obtain ⟨R2, h2⟩ : ∃ R, wkA cs q = R := ⟨_, rfl⟩
  have H0 : Hid (wk cs (41 - ([] : List Nat).length) [] (Option.some q) = (R1, R2)) := Lib.hid (by rw [← h1, ← h2]; rfl)
  rw [h1, h2]
  have HF := Lib.hid (fun id w HI => classWith_any ac n cc cs id w HI hn hm)
  clear h1 h2
  go_enter Tryd.func79, Tryd.ntmps79
  go_wp2_with fail
  go_loopw [1, 7] (fun i c wr => WkRel w n cs (R1, R2) i c wr) (fun _ c _ => 41 - (intOf c).toNat)
  case atStart => exact ⟨[], Option.some q, rfl, rfl, List.nodup_nil, by simp, fun j hj => by cases hj; exact hq, one_new2 _ _, by simp, pas_new _ _ rfl, H0⟩
  case round =>
    obtain ⟨W, cur, rfl, rfl, hd, hlW, hcu, hbl, hsz, hps, HP⟩ := hrel
    have HB := Lib.hid hbl
    have HD := Lib.hid hd
    have HLW := Lib.hid hlW
    have HPS := Lib.hid hps
    have hWn := nodup_len n W hd hlW
    clear hd hlW
    cases cur with
    | none =>
      have HY : Hid ((W.length : Int) = R1 ∧ (-1 : Int) = R2) := Lib.hid (by
        have := HP.out
        rw [wk_end] at this
        exact ⟨congrArg (fun p : Nat × Int => (p.1 : Int)) this, congrArg Prod.snd this⟩)
      clear hbl hps hcu
      unfold cI
      simp only
      go_wp2_with fail
      go_ret2
      exact ⟨ret_ni HY.out.1 HY.out.2, HB.out⟩
    | some j =>
      have hjn := hcu j rfl
      have hj40 : (j : Int) < 40 := by omega
      have hpj := hps.at j (by omega)
      have hfz := World.ownsRow.frozenAt hps j
      have dj0 : (((j : Int)) != -1) = true := by simp
      unfold cI
      simp only
      by_cases hjW : j ∈ W
      · have HY : Hid ((W.length : Int) = R1 ∧ (j : Int) = R2) := Lib.hid (by
          have := HP.out
          rw [show 41 - W.length = (40 - W.length) + 1 by omega, wk_in hjW] at this
          exact ⟨congrArg (fun p : Nat × Int => (p.1 : Int)) this, congrArg Prod.snd this⟩)
        rw [decide_eq_true hjW] at hpj
        clear hbl hps hcu hjW
        go_wp2_with fail
        go_ret2
        exact ⟨ret_ni HY.out.1 HY.out.2, HB.out⟩
      · have HY : Hid (wk cs (41 - (W ++ [j]).length) (W ++ [j]) (nx cs j) = (R1, R2)) := Lib.hid (by
          have := HP.out
          rw [show 41 - W.length = (40 - W.length) + 1 by omega, wk_on hjW] at this
          rw [List.length_append, List.length_singleton, show 41 - (W.length + 1) = 40 - W.length by omega]
          exact this)
        rw [decide_eq_false hjW] at hpj
        have HD' := Lib.hid (nodup_snoc HD.out hjW)
        have HL' := Lib.hid (all_snoc HLW.out hjn)
        have hl' : (W ++ [j]).length = W.length + 1 := by simp
        have hW' : W.length + 1 ≤ n := by have := nodup_len n _ HD'.out HL'.out; omega
        have HGI := HI.out
        obtain ⟨g, rfl, ht, hg⟩ := HGI (by omega)
        obtain ⟨x, hx⟩ : ∃ x, cs.getD j cls0 = x := ⟨_, rfl⟩
        have hl1 : j < cs.length := by rw [hn.out]; exact hjn
        have HBS := Lib.hid (HB.out.setCell (Nat.le_refl _) (.bool true) (p := ⟨w.heap.size, j, none⟩))
        obtain ⟨a0, a1, a2, a3, a4, a5, a6, a7⟩ := (ht.below HBS.out hg).cls j hl1 x hx
        have HPP := Lib.hid (HPS.out.put j)
        have HNX : Hid (fndI cs x.p = cI (nx cs j)) := Lib.hid (by unfold nx; rw [hx]; rfl)
        have HNL : Hid (∀ i, nx cs j = Option.some i → i < n) := Lib.hid (fun i hi => by have := nx_lt hi; rw [hn.out] at this; exact this)
        have HFx := Lib.hid (HF.out x.p)
        rw [HNX.out] at HFx
        generalize nx cs j = nj at HY HFx HNL
        obtain ⟨xi, xp, xr, xe, xb, xu, xo, xl⟩ := x
        simp only at a0 a1 a2 a3 a4 a5 a6 a7 HFx
        clear hbl hps hcu hjW ht hx HNX
        go_wp2_with (go_at_call 77; refine (HFx.out _ (Lib.hid (HI.out.below HBS.out))).mono ?_; rintro e w1 ⟨rfl, b1⟩; have B1 := Lib.hid (HBS.out.trans (b1.mono HBS.out.size)); have P1 := Lib.hid (HPP.out.low b1 (by simpa using hsz)); have S1 : w.heap.size < w1.heap.size := Nat.lt_of_lt_of_le hsz (by simpa using b1.size); clear b1)
        go_roundw
        case rel => exact ⟨W ++ [j], nj, rfl, by rw [hl']; go_num, HD'.out, HL'.out, HNL.out, B1.out, S1, P1.out, HY⟩
        case measure => simp [intOf]; omega
end Go.Proofs.YtfijhgggljaomaaDoor
