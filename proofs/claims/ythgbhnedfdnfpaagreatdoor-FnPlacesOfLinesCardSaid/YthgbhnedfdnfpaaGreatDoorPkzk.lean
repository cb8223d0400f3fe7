import Derived.Test.YthgbhnedfdnfpaaGreatDoorPkzi
import Derived.Test.YthgbhnedfdnfpaaGreatDoorPky
import Derived.Test.YthgbhnedfdnfpaaGreatDoorPkzj
import Derived.Test.YthgbhnedfdnfpaaGreatDoorPkm
/- Canonical texts, the model's functions over configurations. -/
namespace Go.Proofs.YthgbhnedfdnfpaaGreatDoor
set_option maxRecDepth 100000
open Go.RowKit
set_option linter.unusedVariables false
set_option linter.unusedSimpArgs false

def SaysT3p (w : World) (r1 r2 r3 : Value) (e : Ending) (w' : World) : Prop := e = .returned (.tuple #[r1, r2, r3]) ∧ Below w.heap.size w w'
theorem ret_iibp {a b c d : Int} {p q : Bool} (h : a = b) (h' : c = d) (h'' : p = q) : Ending.returned (.tuple #[.int .i64 a, .int .i64 c, .bool p]) = .returned (.tuple #[.int .i64 b, .int .i64 d, .bool q]) := by rw [h, h', h'']
def resPrintConfig1 (c : Cfg) : ByteArray := if goodC c then textP c else ⟨#[]⟩
def resWalkClasses1 (c : Cfg) : List Nat := if goodC c then walkP c.cs 8 (topF c.cs) else []
def resWalkClasses2 (c : Cfg) : Bool := goodC c
def resLineOfClass1 (c : Cfg) (a : Int) : Int := if hasI c a then (lineP c.cs 9 a.toNat : Int) else 0
def resLineOfClass2 (c : Cfg) (a : Int) : Bool := hasI c a
def resLinesOfPart1 (c : Cfg) (a : Int) : Int := if hasI c a then (lineP c.cs 9 a.toNat : Int) else 0
def resLinesOfPart2 (c : Cfg) (a : Int) : Int := if hasI c a then (lineP c.cs 9 a.toNat : Int) + (sizeP c.cs 9 a.toNat : Int) - 1 else 0
def resLinesOfPart3 (c : Cfg) (a : Int) : Bool := hasI c a
theorem pc_bad {c : Cfg} (h : goodC c = false) : resPrintConfig1 c = ⟨#[]⟩ := by unfold resPrintConfig1; rw [h]; rfl
theorem pc_good {c : Cfg} (h : goodC c = true) : resPrintConfig1 c = textP c := by unfold resPrintConfig1; rw [h]; rfl
theorem wc_bad {c : Cfg} (h : goodC c = false) : resWalkClasses1 c = [] ∧ resWalkClasses2 c = false := by unfold resWalkClasses1 resWalkClasses2; rw [h]; exact ⟨rfl, rfl⟩
theorem wc_good {c : Cfg} (h : goodC c = true) : resWalkClasses1 c = walkP c.cs 8 (topF c.cs) ∧ resWalkClasses2 c = true := by unfold resWalkClasses1 resWalkClasses2; rw [h]; exact ⟨rfl, rfl⟩
theorem lc_bad {c : Cfg} {a : Int} (h : hasI c a = false) : resLineOfClass1 c a = 0 ∧ resLineOfClass2 c a = false := by unfold resLineOfClass1 resLineOfClass2; rw [h]; exact ⟨rfl, rfl⟩
theorem lc_good {c : Cfg} {q : Nat} (h : hasI c (q : Int) = true) : resLineOfClass1 c q = (lineP c.cs 9 q : Int) ∧ resLineOfClass2 c q = true := by unfold resLineOfClass1 resLineOfClass2; rw [h]; exact ⟨rfl, rfl⟩
theorem lp_bad {c : Cfg} {a : Int} (h : hasI c a = false) : resLinesOfPart1 c a = 0 ∧ resLinesOfPart2 c a = 0 ∧ resLinesOfPart3 c a = false := by unfold resLinesOfPart1 resLinesOfPart2 resLinesOfPart3; rw [h]; exact ⟨rfl, rfl, rfl⟩
theorem lp_good {c : Cfg} {q : Nat} (h : hasI c (q : Int) = true) : resLinesOfPart1 c q = (lineP c.cs 9 q : Int) ∧ resLinesOfPart2 c q = (lineP c.cs 9 q : Int) + (sizeP c.cs 9 q : Int) - 1 ∧ resLinesOfPart3 c q = true := by unfold resLinesOfPart1 resLinesOfPart2 resLinesOfPart3; rw [h]; exact ⟨rfl, rfl, rfl⟩
theorem dep8 {cs : List Cls} (T : TreeF cs) {q : Nat} (hq : q < cs.length) : depP cs q ≤ 9 := by have := (way_len T hq).2; omega
set_option maxHeartbeats 3200000 in
theorem specPrintConfig_any (v : Value) (c : Cfg) (w : World) (HV : Hid (CfgV w v c)) (HM : Hid (CfgM c)) :
    Calls Tryz.prog 15 #[v] w (SaysStrB w (resPrintConfig1 c) (goodC c)) := by
  obtain ⟨ac, cc, af, cf, rfl, ic, if_⟩ := HV.out
  obtain ⟨s, cs, fs, d⟩ := c
  have hM := HM.out
  unfold CfgM at hM
  simp only at ic if_ hM HV ⊢
  obtain ⟨q0, q1, q2⟩ := hM
  have HI := Lib.hid ic
  have HJ := Lib.hid if_
  have HVB := Lib.hid (fun w' (b : Below w.heap.size w w') => Lib.hid (HV.out.below b))
  have A0 := Lib.hid (Aft.refl w (Obj.cells #[.string s, .slice ac cs.length cc, .slice af fs.length cf, .int .i64 d] 26))
  clear ic if_
  have HGD := Lib.hid (fun w' (b : Below w.heap.size w w') => cfGood_any (.agg #[.string s, .slice ac cs.length cc, .slice af fs.length cf, .int .i64 d]) ⟨s, cs, fs, d⟩ w' (HVB.out w' b) HM)
  cases hg : goodC ⟨s, cs, fs, d⟩
  · rw [pc_bad hg]
    rw [hg] at HGD
    clear hg
    go_enter Tryz.func15, Tryz.ntmps15
    go_wp2_with (go_at_call 24; refine (HGD.out _ A0.out.all.2).mono ?_; rintro e w1 ⟨rfl, b1⟩; have A1 := Lib.hid (A0.out.on b1); clear b1)
    go_ret2
    exact ⟨rfl, A1.out.all.2⟩
  · have HPT := Lib.hid (fun w' HI HJ => prText_any s ac af cs.length cc fs.length cf d cs fs w' HI (Lib.hid rfl) q1 HJ (Lib.hid rfl) q2 (goodP hg))
    rw [pc_good hg]
    rw [hg] at HGD
    generalize textP ⟨s, cs, fs, d⟩ = R at HPT ⊢
    clear hg
    go_enter Tryz.func15, Tryz.ntmps15
    go_wp2_with (go_at_call 24; refine (HGD.out _ A0.out.all.2).mono ?_; rintro e w1 ⟨rfl, b1⟩; have A1 := Lib.hid (A0.out.on b1); obtain ⟨c0, c1, c2, c3, _⟩ := A1.out.all.1; clear b1)
    go_wp2_with (go_at_call 34; refine (HPT.out _ (Lib.hid (HI.out.below A1.out.all.2)) (Lib.hid (HJ.out.below A1.out.all.2))).mono ?_; rintro e w2 ⟨rfl, b2⟩; have A2 := Lib.hid (A1.out.on b2); clear b2)
    go_ret2
    exact ⟨rfl, A2.out.all.2⟩
set_option maxHeartbeats 3200000 in
theorem specLineOfClass_any (v : Value) (c : Cfg) (a : Int) (w : World) (HV : Hid (CfgV w v c)) (HM : Hid (CfgM c)) :
    Calls Tryz.prog 8 #[v, .int .i64 a] w (SaysT2 w (.int .i64 (resLineOfClass1 c a)) (.bool (resLineOfClass2 c a))) := by
  obtain ⟨ac, cc, af, cf, rfl, ic, if_⟩ := HV.out
  obtain ⟨s, cs, fs, d⟩ := c
  have hM := HM.out
  unfold CfgM at hM
  simp only at ic if_ hM HV ⊢
  obtain ⟨q0, q1, q2⟩ := hM
  have HI := Lib.hid ic
  have HJ := Lib.hid if_
  have HVB := Lib.hid (fun w' (b : Below w.heap.size w w') => Lib.hid (HV.out.below b))
  have A0 := Lib.hid (Aft.refl w (Obj.cells #[.string s, .slice ac cs.length cc, .slice af fs.length cf, .int .i64 d] 26))
  clear ic if_
  have HH := Lib.hid (fun w' (b : Below w.heap.size w w') => cfHas_any (.agg #[.string s, .slice ac cs.length cc, .slice af fs.length cf, .int .i64 d]) ⟨s, cs, fs, d⟩ a w' (HVB.out w' b) HM)
  cases hh : hasI ⟨s, cs, fs, d⟩ a
  · obtain ⟨x1, x2⟩ := lc_bad hh
    rw [x1, x2]
    rw [hh] at HH
    clear x1 x2 hh
    go_enter Tryz.func8, Tryz.ntmps8
    go_wp2_with (go_at_call 21; refine (HH.out _ A0.out.all.2).mono ?_; rintro e w1 ⟨rfl, b1⟩; have A1 := Lib.hid (A0.out.on b1); clear b1)
    go_ret2
    exact ⟨rfl, A1.out.all.2⟩
  · rw [hh] at HH
    obtain ⟨hg, q, rfl, hq⟩ := has_iff hh
    obtain ⟨x1, x2⟩ := lc_good hh
    have GP := goodP hg
    have HKD := Lib.hid (fun w' HI => prLine_any s ac af cs.length cc fs.length cf d cs GP.T 9 q w' HI (Lib.hid rfl) hq (Nat.le_refl _) (dep8 GP.T hq))
    rw [x1, x2]
    simp only at hq ⊢
    generalize lineP cs 9 q = K at HKD ⊢
    clear x1 x2 hh hg GP
    go_enter Tryz.func8, Tryz.ntmps8
    go_wp2_with (go_at_call 21; refine (HH.out _ A0.out.all.2).mono ?_; rintro e w1 ⟨rfl, b1⟩; have A1 := Lib.hid (A0.out.on b1); obtain ⟨c0, c1, c2, c3, _⟩ := A1.out.all.1; clear b1)
    go_wp2_with (go_at_call 22; refine (HKD.out _ (Lib.hid (HI.out.below A1.out.all.2))).mono ?_; rintro e w2 ⟨rfl, b2⟩; have A2 := Lib.hid (A1.out.on b2); clear b2)
    go_ret2
    exact ⟨rfl, A2.out.all.2⟩
set_option maxHeartbeats 6400000 in
theorem specLinesOfPart_any (v : Value) (c : Cfg) (a : Int) (w : World) (HV : Hid (CfgV w v c)) (HM : Hid (CfgM c)) :
    Calls Tryz.prog 6 #[v, .int .i64 a] w (SaysT3p w (.int .i64 (resLinesOfPart1 c a)) (.int .i64 (resLinesOfPart2 c a)) (.bool (resLinesOfPart3 c a))) := by
  obtain ⟨ac, cc, af, cf, rfl, ic, if_⟩ := HV.out
  obtain ⟨s, cs, fs, d⟩ := c
  have hM := HM.out
  unfold CfgM at hM
  simp only at ic if_ hM HV ⊢
  obtain ⟨q0, q1, q2⟩ := hM
  have HI := Lib.hid ic
  have HJ := Lib.hid if_
  have HVB := Lib.hid (fun w' (b : Below w.heap.size w w') => Lib.hid (HV.out.below b))
  have A0 := Lib.hid (Aft.refl w (Obj.cells #[.string s, .slice ac cs.length cc, .slice af fs.length cf, .int .i64 d] 26))
  clear ic if_
  have HH := Lib.hid (fun w' (b : Below w.heap.size w w') => cfHas_any (.agg #[.string s, .slice ac cs.length cc, .slice af fs.length cf, .int .i64 d]) ⟨s, cs, fs, d⟩ a w' (HVB.out w' b) HM)
  cases hh : hasI ⟨s, cs, fs, d⟩ a
  · obtain ⟨x1, x2, x3⟩ := lp_bad hh
    rw [x1, x2, x3]
    rw [hh] at HH
    clear x1 x2 x3 hh
    go_enter Tryz.func6, Tryz.ntmps6
    go_wp2_with (go_at_call 21; refine (HH.out _ A0.out.all.2).mono ?_; rintro e w1 ⟨rfl, b1⟩; have A1 := Lib.hid (A0.out.on b1); clear b1)
    go_ret3
    exact ⟨rfl, A1.out.all.2⟩
  · rw [hh] at HH
    obtain ⟨hg, q, rfl, hq⟩ := has_iff hh
    obtain ⟨x1, x2, x3⟩ := lp_good hh
    have GP := goodP hg
    have HLI := Lib.hid (fun w' HI => prLine_any s ac af cs.length cc fs.length cf d cs GP.T 9 q w' HI (Lib.hid rfl) hq (Nat.le_refl _) (dep8 GP.T hq))
    have HSI := Lib.hid (fun w' HI => prSize_any s ac af cs.length cc fs.length cf d cs GP.T 9 q w' HI (Lib.hid rfl) hq (Nat.le_refl _) (by omega))
    have hl1 := lineP_le GP.T 9 q hq
    have hl2 := sizeP_le GP.T 9 q (Nat.le_refl _) hq
    rw [x1, x2, x3]
    simp only at hq hl1 hl2 ⊢
    generalize lineP cs 9 q = K at HLI hl1 ⊢
    generalize sizeP cs 9 q = Z at HSI hl2 ⊢
    have HIB : Hid (∀ w', BX (w.alloc (Obj.cells #[.string s, .slice ac cs.length cc, .slice af fs.length cf, .int .i64 d] 26)) w' → Hid (InX w' ac cs.length (clsCs cs))) := Lib.hid (fun w' h => Lib.hid (HI.out.below (show Aft w (Obj.cells #[.string s, .slice ac cs.length cc, .slice af fs.length cf, .int .i64 d] 26) w' from h).all.2))
    have HQ : Hid (∀ w', BX (w.alloc (Obj.cells #[.string s, .slice ac cs.length cc, .slice af fs.length cf, .int .i64 d] 26)) w' → w'.cell? ⟨w.heap.size, 0, none⟩ = some (.string s) ∧ w'.cell? ⟨w.heap.size, 1, none⟩ = some (.slice ac cs.length cc) ∧ w'.cell? ⟨w.heap.size, 2, none⟩ = some (.slice af fs.length cf) ∧ w'.cell? ⟨w.heap.size, 3, none⟩ = some (.int .i64 d) ∧ BX (w.alloc (Obj.cells #[.string s, .slice ac cs.length cc, .slice af fs.length cf, .int .i64 d] 26)) w') := Lib.hid (fun w' h => by
      obtain ⟨e0, e1, e2, e3, _⟩ := (show Aft w (Obj.cells #[.string s, .slice ac cs.length cc, .slice af fs.length cf, .int .i64 d] 26) w' from h).all.1
      exact ⟨e0, e1, e2, e3, h⟩)
    have HE : Hid (∀ w', BX (w.alloc (Obj.cells #[.string s, .slice ac cs.length cc, .slice af fs.length cf, .int .i64 d] 26)) w' → Below w.heap.size w w') := Lib.hid (fun w' h => (show Aft w (Obj.cells #[.string s, .slice ac cs.length cc, .slice af fs.length cf, .int .i64 d] 26) w' from h).all.2)
    have X0 := Lib.hid (BX.refl (w.alloc (Obj.cells #[.string s, .slice ac cs.length cc, .slice af fs.length cf, .int .i64 d] 26)))
    clear x1 x2 x3 hh hg GP
    go_enter Tryz.func6, Tryz.ntmps6
    go_wp2_with (go_at_call 21; refine (HH.out _ A0.out.all.2).mono ?_; rintro e w1 ⟨rfl, b1⟩; have A1 : Hid (BX (w.alloc (Obj.cells #[.string s, .slice ac cs.length cc, .slice af fs.length cf, .int .i64 d] 26)) w1) := Lib.hid (X0.out.call b1); clear b1)
    refine wp_region_held_drew (S := fun w' => w'.cell? ⟨w.heap.size, 0, none⟩ = some (.string s) ∧ w'.cell? ⟨w.heap.size, 1, none⟩ = some (.slice ac cs.length cc) ∧ w'.cell? ⟨w.heap.size, 2, none⟩ = some (.slice af fs.length cf) ∧ w'.cell? ⟨w.heap.size, 3, none⟩ = some (.int .i64 d) ∧ BX (w.alloc (Obj.cells #[.string s, .slice ac cs.length cc, .slice af fs.length cf, .int .i64 d] 26)) w') (by kernel_rfl) ?_ (fun hHeld => ?_)
    · (try dsimp only)
      exact HQ.out _ A1.out.drew
    have B0 := Lib.hid A1.out.drew
    refine held_take (i := 0) (d := 11) (v := ?_) rfl rfl (by kernel_rfl) (by kernel_rfl) (by kernel_rfl) (fun _ _ _ h => h) (by rfl) ?_ (by assumption) ?_
    rotate_left
    · intro w hSw
      (try dsimp only at hSw)
      go_simp
      try with_reducible rfl
    try simp only [Act.put, List.setIfInBounds_toArray, List.set_cons_zero, List.set_cons_succ]
    refine held_take (i := 1) (d := 12) (v := ?_) rfl rfl (by kernel_rfl) (by kernel_rfl) (by kernel_rfl) (fun _ _ _ h => h) (by rfl) ?_ (by assumption) ?_
    rotate_left
    · intro w hSw
      (try dsimp only at hSw)
      go_simp
      try with_reducible rfl
    try simp only [Act.put, List.setIfInBounds_toArray, List.set_cons_zero, List.set_cons_succ]
    refine held_take (i := 3) (d := 14) (v := ?_) rfl rfl (by kernel_rfl) (by kernel_rfl) (by kernel_rfl) (fun _ _ _ h => h) (by rfl) ?_ (by assumption) ?_
    rotate_left
    · intro w hSw
      (try dsimp only at hSw)
      go_simp
      try with_reducible rfl
    try simp only [Act.put, List.setIfInBounds_toArray, List.set_cons_zero, List.set_cons_succ]
    refine held_take (i := 4) (d := 15) (v := ?_) rfl rfl (by kernel_rfl) (by kernel_rfl) (by kernel_rfl) (fun _ _ _ h => h) (by rfl) ?_ (by assumption) ?_
    rotate_left
    · intro w hSw
      (try dsimp only at hSw)
      go_simp
      try with_reducible rfl
    try simp only [Act.put, List.setIfInBounds_toArray, List.set_cons_zero, List.set_cons_succ]
    refine held_take (i := 6) (d := 17) (v := ?_) rfl rfl (by kernel_rfl) (by kernel_rfl) (by kernel_rfl) (fun _ _ _ h => h) (by rfl) ?_ (by assumption) ?_
    rotate_left
    · intro w hSw
      (try dsimp only at hSw)
      go_simp
      try with_reducible rfl
    try simp only [Act.put, List.setIfInBounds_toArray, List.set_cons_zero, List.set_cons_succ]
    refine held_take (i := 7) (d := 18) (v := ?_) rfl rfl (by kernel_rfl) (by kernel_rfl) (by kernel_rfl) (fun _ _ _ h => h) (by rfl) ?_ (by assumption) ?_
    rotate_left
    · intro w hSw
      (try dsimp only at hSw)
      go_simp
      try with_reducible rfl
    try simp only [Act.put, List.setIfInBounds_toArray, List.set_cons_zero, List.set_cons_succ]
    refine wpAnyH_ready (rs := [2]) (by kernel_rfl) (by simp) ?_
    refine ((AllReadyH.cons rfl (fun K' hK => ?_) AllReadyH.nil))
    go_simp
    go_at_call 22
    refine (HLI.out _ (HIB.out _ B0.out)).mono ?_
    rintro e u1 ⟨rfl, b⟩
    have B1 := Lib.hid (B0.out.call b)
    clear b
    refine hK.out _ _ ?_ (fun hHeld => ?_)
    · (try dsimp only)
      exact HQ.out _ B1.out
    clear hK K'
    try simp only [Act.put, List.setIfInBounds_toArray, List.set_cons_zero, List.set_cons_succ]
    refine wpAnyH_ready (rs := [5]) (by kernel_rfl) (by simp) ?_
    refine ((AllReadyH.cons rfl (fun K' hK => ?_) AllReadyH.nil))
    go_simp
    go_at_call 22
    refine (HLI.out _ (HIB.out _ B1.out)).mono ?_
    rintro e u2 ⟨rfl, b⟩
    have B2 := Lib.hid (B1.out.call b)
    clear b
    refine hK.out _ _ ?_ (fun hHeld => ?_)
    · (try dsimp only)
      exact HQ.out _ B2.out
    clear hK K'
    try simp only [Act.put, List.setIfInBounds_toArray, List.set_cons_zero, List.set_cons_succ]
    refine wpAnyH_ready (rs := [8]) (by kernel_rfl) (by simp) ?_
    refine ((AllReadyH.cons rfl (fun K' hK => ?_) AllReadyH.nil))
    go_simp
    go_at_call 23
    refine (HSI.out _ (HIB.out _ B2.out)).mono ?_
    rintro e u3 ⟨rfl, b⟩
    have B3 := Lib.hid (B2.out.call b)
    clear b
    refine hK.out _ _ ?_ (fun hHeld => ?_)
    · (try dsimp only)
      exact HQ.out _ B3.out
    clear hK K'
    try simp only [Act.put, List.setIfInBounds_toArray, List.set_cons_zero, List.set_cons_succ]
    refine held_take (i := 9) (d := 20) (v := ?_) rfl rfl (by kernel_rfl) (by kernel_rfl) (by kernel_rfl) (fun _ _ _ h => h) (by rfl) ?_ (by assumption) ?_
    rotate_left
    · intro w hSw
      (try dsimp only at hSw)
      go_simp
      try with_reducible rfl
    try simp only [Act.put, List.setIfInBounds_toArray, List.set_cons_zero, List.set_cons_succ]
    refine held_take (i := 10) (d := 21) (v := ?_) rfl rfl (by kernel_rfl) (by kernel_rfl) (by kernel_rfl) (fun _ _ _ h => h) (by rfl) ?_ (by assumption) ?_
    rotate_left
    · intro w hSw
      (try dsimp only at hSw)
      go_simp
      try with_reducible rfl
    try simp only [Act.put, List.setIfInBounds_toArray, List.set_cons_zero, List.set_cons_succ]
    refine held_take (i := 11) (d := 4) (v := ?_) rfl rfl (by kernel_rfl) (by kernel_rfl) (by kernel_rfl) (fun _ _ _ h => h) (by rfl) ?_ (by assumption) ?_
    rotate_left
    · intro w hSw
      (try dsimp only at hSw)
      go_simp
      try with_reducible rfl
    try simp only [Act.put, List.setIfInBounds_toArray, List.set_cons_zero, List.set_cons_succ]
    refine held_take (i := 12) (d := 5) (v := ?_) rfl rfl (by kernel_rfl) (by kernel_rfl) (by kernel_rfl) (fun _ _ _ h => h) (by rfl) ?_ (by assumption) ?_
    rotate_left
    · intro w hSw
      (try dsimp only at hSw)
      go_simp
      try with_reducible rfl
    try simp only [Act.put, List.setIfInBounds_toArray, List.set_cons_zero, List.set_cons_succ]
    refine held_take (i := 13) (d := 6) (v := ?_) rfl rfl (by kernel_rfl) (by kernel_rfl) (by kernel_rfl) (fun _ _ _ h => h) (by rfl) ?_ (by assumption) ?_
    rotate_left
    · intro w hSw
      (try dsimp only at hSw)
      go_simp
      try with_reducible rfl
    try simp only [Act.put, List.setIfInBounds_toArray, List.set_cons_zero, List.set_cons_succ]
    refine wpAnyH_done (by kernel_rfl) ?_ _
    go_wp2_with fail
    go_ret3
    exact ⟨ret_iibp rfl (by rw [IntWalk.i64_in ((K : Int) + Z) (by omega), IntWalk.i64_in ((K : Int) + Z - 1) (by omega)]) rfl, HE.out _ B3.out⟩
set_option maxHeartbeats 6400000 in
theorem specWalkClasses_any (v : Value) (c : Cfg) (w : World) (HV : Hid (CfgV w v c)) (HM : Hid (CfgM c)) :
    Calls Tryz.prog 10 #[v] w (SaysTS w (resWalkClasses1 c) (resWalkClasses2 c)) := by
  obtain ⟨ac, cc, af, cf, rfl, ic, if_⟩ := HV.out
  obtain ⟨s, cs, fs, d⟩ := c
  have hM := HM.out
  unfold CfgM at hM
  simp only at ic if_ hM HV ⊢
  obtain ⟨q0, q1, q2⟩ := hM
  have HI := Lib.hid ic
  have HJ := Lib.hid if_
  have HVB := Lib.hid (fun w' (b : Below w.heap.size w w') => Lib.hid (HV.out.below b))
  have A0 := Lib.hid (Aft.refl w (Obj.cells #[.string s, .slice ac cs.length cc, .slice af fs.length cf, .int .i64 d] 26))
  clear ic if_
  have HGD := Lib.hid (fun w' (b : Below w.heap.size w w') => cfGood_any (.agg #[.string s, .slice ac cs.length cc, .slice af fs.length cf, .int .i64 d]) ⟨s, cs, fs, d⟩ w' (HVB.out w' b) HM)
  cases hg : goodC ⟨s, cs, fs, d⟩
  · obtain ⟨x1, x2⟩ := wc_bad hg
    rw [x1, x2]
    rw [hg] at HGD
    clear x1 x2 hg
    go_enter Tryz.func10, Tryz.ntmps10
    go_wp2_with (go_at_call 24; refine (HGD.out _ A0.out.all.2).mono ?_; rintro e w1 ⟨rfl, b1⟩; have A1 := Lib.hid (A0.out.on b1); clear b1)
    go_ret2
    exact ⟨_, rfl, World.ownsRow_nil _ _ _ _, A1.out.all.2⟩
  · obtain ⟨x1, x2⟩ := wc_good hg
    have GP := goodP hg
    have hcT : cT cs = 1 := GP.top
    have htf := top_facts GP.T hcT
    have HTP := Lib.hid (fun w' HI => cfTop_any s ac af cs.length cc fs.length cf d cs w' HI (Lib.hid rfl) q1 (by omega))
    have HWK := Lib.hid (fun w' HI => prWalk_any s ac af cs.length cc fs.length cf d cs GP.T 8 (topF cs) w' HI (Lib.hid rfl) htf.1 (by decide) (by have := htf.2.2; simp only at this; omega))
    rw [x1, x2]
    rw [hg] at HGD
    simp only
    generalize topF cs = tp at HTP HWK
    generalize walkP cs 8 tp = K at HWK ⊢
    have HIB : Hid (∀ w', BX (w.alloc (Obj.cells #[.string s, .slice ac cs.length cc, .slice af fs.length cf, .int .i64 d] 26)) w' → Hid (InX w' ac cs.length (clsCs cs))) := Lib.hid (fun w' h => Lib.hid (HI.out.below (show Aft w (Obj.cells #[.string s, .slice ac cs.length cc, .slice af fs.length cf, .int .i64 d] 26) w' from h).all.2))
    have HQ : Hid (∀ w', BX (w.alloc (Obj.cells #[.string s, .slice ac cs.length cc, .slice af fs.length cf, .int .i64 d] 26)) w' → w'.cell? ⟨w.heap.size, 0, none⟩ = some (.string s) ∧ w'.cell? ⟨w.heap.size, 1, none⟩ = some (.slice ac cs.length cc) ∧ w'.cell? ⟨w.heap.size, 2, none⟩ = some (.slice af fs.length cf) ∧ w'.cell? ⟨w.heap.size, 3, none⟩ = some (.int .i64 d) ∧ BX (w.alloc (Obj.cells #[.string s, .slice ac cs.length cc, .slice af fs.length cf, .int .i64 d] 26)) w') := Lib.hid (fun w' h => by
      obtain ⟨e0, e1, e2, e3, _⟩ := (show Aft w (Obj.cells #[.string s, .slice ac cs.length cc, .slice af fs.length cf, .int .i64 d] 26) w' from h).all.1
      exact ⟨e0, e1, e2, e3, h⟩)
    have HE : Hid (∀ w', BX (w.alloc (Obj.cells #[.string s, .slice ac cs.length cc, .slice af fs.length cf, .int .i64 d] 26)) w' → Below w.heap.size w w') := Lib.hid (fun w' h => (show Aft w (Obj.cells #[.string s, .slice ac cs.length cc, .slice af fs.length cf, .int .i64 d] 26) w' from h).all.2)
    have X0 := Lib.hid (BX.refl (w.alloc (Obj.cells #[.string s, .slice ac cs.length cc, .slice af fs.length cf, .int .i64 d] 26)))
    clear x1 x2 hg GP htf hcT
    go_enter Tryz.func10, Tryz.ntmps10
    go_wp2_with (go_at_call 24; refine (HGD.out _ A0.out.all.2).mono ?_; rintro e w1 ⟨rfl, b1⟩; have A1 : Hid (BX (w.alloc (Obj.cells #[.string s, .slice ac cs.length cc, .slice af fs.length cf, .int .i64 d] 26)) w1) := Lib.hid (X0.out.call b1); clear b1)
    refine wp_region_held_drew (S := fun w' => w'.cell? ⟨w.heap.size, 0, none⟩ = some (.string s) ∧ w'.cell? ⟨w.heap.size, 1, none⟩ = some (.slice ac cs.length cc) ∧ w'.cell? ⟨w.heap.size, 2, none⟩ = some (.slice af fs.length cf) ∧ w'.cell? ⟨w.heap.size, 3, none⟩ = some (.int .i64 d) ∧ BX (w.alloc (Obj.cells #[.string s, .slice ac cs.length cc, .slice af fs.length cf, .int .i64 d] 26)) w') (by kernel_rfl) ?_ (fun hHeld => ?_)
    · (try dsimp only)
      exact HQ.out _ A1.out.drew
    have B0 := Lib.hid A1.out.drew
    refine held_take (i := 0) (d := 7) (v := ?_) rfl rfl (by kernel_rfl) (by kernel_rfl) (by kernel_rfl) (fun _ _ _ h => h) (by rfl) ?_ (by assumption) ?_
    rotate_left
    · intro w hSw
      (try dsimp only at hSw)
      go_simp
      try with_reducible rfl
    try simp only [Act.put, List.setIfInBounds_toArray, List.set_cons_zero, List.set_cons_succ]
    refine held_take (i := 1) (d := 8) (v := ?_) rfl rfl (by kernel_rfl) (by kernel_rfl) (by kernel_rfl) (fun _ _ _ h => h) (by rfl) ?_ (by assumption) ?_
    rotate_left
    · intro w hSw
      (try dsimp only at hSw)
      go_simp
      try with_reducible rfl
    try simp only [Act.put, List.setIfInBounds_toArray, List.set_cons_zero, List.set_cons_succ]
    refine wpAnyH_ready (rs := [2]) (by kernel_rfl) (by simp) ?_
    refine ((AllReadyH.cons rfl (fun K' hK => ?_) AllReadyH.nil))
    go_simp
    go_at_call 26
    refine (HTP.out _ (HIB.out _ B0.out)).mono ?_
    rintro e u1 ⟨rfl, b⟩
    have B1 := Lib.hid (B0.out.call b)
    clear b
    refine hK.out _ _ ?_ (fun hHeld => ?_)
    · (try dsimp only)
      exact HQ.out _ B1.out
    clear hK K'
    try simp only [Act.put, List.setIfInBounds_toArray, List.set_cons_zero, List.set_cons_succ]
    refine wpAnyH_ready (rs := [3]) (by kernel_rfl) (by simp) ?_
    refine ((AllReadyH.cons rfl (fun K' hK => ?_) AllReadyH.nil))
    go_simp
    go_at_call 25
    refine (HWK.out _ (HIB.out _ B1.out)).mono ?_
    rintro e u2 ⟨v2, rfl, o2, b⟩
    have B2 := Lib.hid (B1.out.call b)
    have O2 := Lib.hid (own_base o2 (HE.out _ B1.out).size)
    clear b o2
    refine hK.out _ _ ?_ (fun hHeld => ?_)
    · (try dsimp only)
      exact HQ.out _ B2.out
    clear hK K'
    try simp only [Act.put, List.setIfInBounds_toArray, List.set_cons_zero, List.set_cons_succ]
    refine held_take (i := 4) (d := 2) (v := ?_) rfl rfl (by kernel_rfl) (by kernel_rfl) (by kernel_rfl) (fun _ _ _ h => h) (by rfl) ?_ (by assumption) ?_
    rotate_left
    · intro w hSw
      (try dsimp only at hSw)
      go_simp
      try with_reducible rfl
    try simp only [Act.put, List.setIfInBounds_toArray, List.set_cons_zero, List.set_cons_succ]
    refine held_take (i := 5) (d := 3) (v := ?_) rfl rfl (by kernel_rfl) (by kernel_rfl) (by kernel_rfl) (fun _ _ _ h => h) (by rfl) ?_ (by assumption) ?_
    rotate_left
    · intro w hSw
      (try dsimp only at hSw)
      go_simp
      try with_reducible rfl
    try simp only [Act.put, List.setIfInBounds_toArray, List.set_cons_zero, List.set_cons_succ]
    refine wpAnyH_done (by kernel_rfl) ?_ _
    go_wp2_with fail
    go_ret2
    exact ⟨_, rfl, O2.out, HE.out _ B2.out⟩
end Go.Proofs.YthgbhnedfdnfpaaGreatDoor

/- What the law of printed lines looks at: facts. -/
namespace Go.Proofs.YthgbhnedfdnfpaaGreatDoor
set_option maxRecDepth 100000
set_option linter.unusedVariables false
set_option linter.unusedSimpArgs false

def byT (s : ByteArray) (k : Nat) : Nat := if h : k < s.size then s[k].toNat else 0
theorem byT_eq {s : ByteArray} {k : Nat} (h : k < s.size) : byT s k = s[k].toNat := dif_pos h
theorem byT_of {s : ByteArray} {k : Nat} {b : UInt8} (h : s.data.toList[k]? = some b) : k < s.size ∧ byT s k = b.toNat := by
  obtain ⟨hk, he⟩ := List.getElem?_eq_some_iff.1 h
  have hs : k < s.size := hk
  refine ⟨hs, ?_⟩
  rw [byT_eq hs, ← he]
  rfl
theorem line_scan (L : List ByteArray) (k : Nat) (t : ByteArray) (h : L[k]? = some t) (hq : LineQ t) : 1 ≤ t.size ∧ offT L (k + 1) = offT L k + t.size ∧ offT L k + t.size ≤ (catS L).size ∧ byT (catS L) (offT L k + (t.size - 1)) = 10 ∧ ∀ m, m < t.size - 1 → byT (catS L) (offT L k + m) ≠ 10 := by
  obtain ⟨h1, h2, h3⟩ := line_bytes hq
  refine ⟨h1, offT_succ L k t h, text_size_at L k t h, ?_, fun m hm => ?_⟩
  · have := byte_line L k t h (t.size - 1) (by omega)
    rw [h2] at this
    exact (byT_of this).2
  · obtain ⟨b, hb, hne⟩ := h3 m hm
    have := byte_line L k t h m (by omega)
    rw [hb] at this
    rw [(byT_of this).2]
    intro e
    exact hne (UInt8.toNat_inj.1 e)
theorem ext_cut (A b C : ByteArray) : (A ++ (b ++ C)).extract A.size (A.size + b.size) = b := by
  have e : (A ++ (b ++ C)).extract A.size (A.size + b.size) = b := by
    apply ByteArray.ext
    apply Array.toList_inj.1
    rw [Lib.extract_data, ByteArray.data_append, ByteArray.data_append, Array.toList_append, Array.toList_append]
    have hA : A.data.toList.length = A.size := rfl
    have hb : b.data.toList.length = b.size := rfl
    rw [List.drop_append_of_le_length (by omega), List.drop_eq_nil_of_le (by omega), List.nil_append, show A.size + b.size - A.size = b.size by omega, List.take_append_of_le_length (by omega), List.take_of_length_le (by omega)]
  exact e
theorem class_line {c : Cfg} (G : GoodP c) (hn : nmG c.s = true) {q : Nat} (hq : q < c.cs.length) :
    ∃ (l' f0 : Nat), (∀ k, k + 1 < lineP c.cs 9 q → ∃ t, (allT c)[k]? = some t ∧ LineQ t) ∧ 2 ≤ lineP c.cs 9 q ∧ f0 = offT (allT c) (lineP c.cs 9 q - 1) ∧
      (∀ m, m < 2 * l' → f0 + m < (textP c).size ∧ byT (textP c) (f0 + m) = 32) ∧ byT (textP c) (f0 + 2 * l') ≠ 32 ∧ f0 + 2 * l' + (headT (c.cs.getD q cls0)).size ≤ (textP c).size ∧
      (textP c).extract (f0 + 2 * l') (f0 + 2 * l' + (headT (c.cs.getD q cls0)).size) = headT (c.cs.getD q cls0) ∧ 1 ≤ (headT (c.cs.getD q cls0)).size := by
  obtain ⟨l', R, hl, h2, h3⟩ := line_all G hq
  have hhd : 0 < (headT (c.cs.getD q cls0)).size := by
    have := head_first (c.cs.getD q cls0).i.toNat (c.cs.getD q cls0).r.toNat (c.cs.getD q cls0).e.toNat (c.cs.getD q cls0).b.toNat (c.cs.getD q cls0).u.toNat (c.cs.getD q cls0).o.toNat ⟨#[]⟩
    rw [show headN (c.cs.getD q cls0).i.toNat (c.cs.getD q cls0).r.toNat (c.cs.getD q cls0).e.toNat (c.cs.getD q cls0).b.toNat (c.cs.getD q cls0).u.toNat (c.cs.getD q cls0).o.toNat = headT (c.cs.getD q cls0) from rfl, show headT (c.cs.getD q cls0) ++ (⟨#[]⟩ : ByteArray) = headT (c.cs.getD q cls0) from ByteArray.append_empty] at this
    exact (byT_of this).1
  have hsz := text_size_at _ _ _ hl
  rw [allT_text] at hsz
  have hi : (indS l').size = 2 * l' := indS_size l'
  have hz : (indS l' ++ headT (c.cs.getD q cls0) ++ R).size = 2 * l' + (headT (c.cs.getD q cls0)).size + R.size := by
    rw [ByteArray.size_append, ByteArray.size_append, hi]
  refine ⟨l', _, fun k hk => ?_, h2, rfl, fun m hm => ?_, ?_, by omega, ?_, hhd⟩
  · have hlen : k < (allT c).length := by
      have := (List.getElem?_eq_some_iff.1 hl).1
      omega
    exact ⟨_, List.getElem?_eq_getElem hlen, all_q hn k (by omega) _ (List.getElem?_eq_getElem hlen)⟩
  · have hb := byte_line _ _ _ hl m (by omega)
    rw [allT_text, ByteArray.append_assoc, ind_bytes l' _ m hm] at hb
    exact byT_of hb
  · have hb := byte_line _ _ _ hl (2 * l') (by omega)
    have he : (indS l' ++ headT (c.cs.getD q cls0) ++ R).data.toList[2 * l']? = some 99 := by
      rw [ByteArray.append_assoc, ByteArray.data_append, Array.toList_append]
      have hs : (indS l').data.toList.length = 2 * l' := hi
      rw [List.getElem?_append_right (by omega), hs, Nat.sub_self]
      exact head_first _ _ _ _ _ _ R
    rw [allT_text, he] at hb
    rw [(byT_of hb).2]
    decide
  · have hc := text_cut _ _ _ hl
    rw [allT_text] at hc
    have e : textP c = (catS ((allT c).take (lineP c.cs 9 q - 1)) ++ indS l') ++ (headT (c.cs.getD q cls0) ++ (R ++ catS ((allT c).drop (lineP c.cs 9 q - 1 + 1)))) := by
      rw [hc]
      simp only [ByteArray.append_assoc]
    have hA : (catS ((allT c).take (lineP c.cs 9 q - 1)) ++ indS l').size = offT (allT c) (lineP c.cs 9 q - 1) + 2 * l' := by rw [ByteArray.size_append, hi]; rfl
    rw [← hA]
    conv => lhs; rw [e]
    exact ext_cut _ _ _
theorem part_facts {c : Cfg} {k : Nat} (h : hasI c (k : Int) = true) (hf : resFindClass2 c (c.cs.getD k cls0).p = true) :
    ∃ p : Nat, resFindClass1 c (c.cs.getD k cls0).p = (p : Int) ∧ hasI c (p : Int) = true ∧ lineP c.cs 9 p < lineP c.cs 9 k ∧ lineP c.cs 9 k + sizeP c.cs 9 k < lineP c.cs 9 p + sizeP c.cs 9 p := by
  obtain ⟨k', hq, hk, hg, T, ht, _⟩ := has_tree h
  have e : k = k' := by omega
  subst e
  unfold resFindClass2 at hf
  unfold resFindClass1
  rw [hg] at hf ⊢
  cases hd : fnd c.cs (c.cs.getD k cls0).p with
  | none => rw [hd] at hf; simp at hf
  | some p =>
    have hp := part_in T hk hd
    exact ⟨p, rfl, has_of hg (fnd_get c.cs _ p hd).1, hp.1, hp.2⟩
theorem cls_own {c : Cfg} {k : Nat} (h : hasI c (k : Int) = true) : ClsSelf (c.cs.getD k cls0) = true := by
  obtain ⟨k', hq, hk, hg, T, ht, _⟩ := has_tree h
  have e : k = k' := by omega
  subst e
  have := okL_ids c.cs 0 T.ok k hk
  unfold ClsSelf
  rw [this.2.2, Bool.and_true]
  exact inBR_iff.2 ⟨by omega, this.2.1⟩
end Go.Proofs.YthgbhnedfdnfpaaGreatDoor
