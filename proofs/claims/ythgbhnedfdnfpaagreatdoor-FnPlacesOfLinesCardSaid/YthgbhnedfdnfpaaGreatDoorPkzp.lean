import Derived.Test.YthgbhnedfdnfpaaGreatDoorPkzo
/- Canonical texts, the program's functions over configurations (written by tools/gen_prj.py). -/
namespace Go.Proofs.YthgbhnedfdnfpaaGreatDoor
set_option maxRecDepth 100000
open Go.RowKit
set_option linter.unusedVariables false
set_option linter.unusedSimpArgs false

theorem text_size (c : Cfg) : (catS (linL c)).size ≤ 100000000000000 := by
  rw [linL_text]
  cases hg : goodC c
  · rw [pc_bad hg]; decide
  · rw [pc_good hg]
    have G := goodP hg
    have h1 := partT_size G.T 8 1 (topF c.cs) (by decide) (top_facts G.T G.top).1 (by decide)
    have h2 := filtL_size c.fs G.fg
    have h3 := G.fl
    have h4 := G.nm
    have z1 : (⟨#[113, 100, 105, 115, 99, 32]⟩ : ByteArray).size = 6 := rfl
    have z2 : (⟨#[32, 100, 101, 102, 97, 117, 108, 116, 32]⟩ : ByteArray).size = 9 := rfl
    have z3 : (⟨#[32, 123, 10]⟩ : ByteArray).size = 3 := rfl
    have z4 : (⟨#[125, 10]⟩ : ByteArray).size = 2 := rfl
    have h5 := numS_size c.d.toNat
    have hd := G.df
    unfold textP begS
    split <;> simp only [ByteArray.size_append] <;> omega
set_option maxHeartbeats 12800000 in
theorem implPrintConfig_any (v : Value) (c : Cfg) (w : World) (HK : Hid (Kwt w)) (HV : Hid (CfgV w v c)) (HM : Hid (CfgM c)) (hU : Hid (Units w)) (hP : Hid (Pow w)) (hW : Hid (FwW w)) (hD : Hid (Dig w)) : Calls Tryz.prog 14 #[v] w (SaysStrB w (resPrintConfig1 c) (goodC c)) := by
  have HTX := Lib.hid (linL_text c)
  have htz := text_size c
  have hll := linL_len (c := c)
  obtain ⟨ac, cc, af, cf, rfl, ic, if_⟩ := HV.out
  obtain ⟨s, cs, fs, d⟩ := c
  have hM := HM.out
  unfold CfgM at hM
  simp only at ic if_ hM HV ⊢
  obtain ⟨q0, q1, q2⟩ := hM
  have HI := Lib.hid ic
  have HJ := Lib.hid if_
  have HVB := Lib.hid (fun w' (b : Below w.heap.size w w') => Lib.hid (HV.out.below b))
  have A0 := Lib.hid (Aft.refl w (Obj.cells #[.string s, .slice ac cs.length cc, .slice af fs.length cf, .int .i64 d] 26))
  clear ic if_
  have HPD := Lib.hid (fun w' (b : Below w.heap.size w w') => printed_any (.agg #[.string s, .slice ac cs.length cc, .slice af fs.length cf, .int .i64 d]) ⟨s, cs, fs, d⟩ w' (Lib.hid (HK.out.below b)) (HVB.out w' b) HM (Lib.hid (hU.out.below b)) (Lib.hid (hP.out.below b)) (Lib.hid (hW.out.below b)) (Lib.hid (hD.out.below b)))
  unfold SaysPd at HPD
  generalize linL ⟨s, cs, fs, d⟩ = LL at HTX htz hll HPD
  generalize resWalkClasses1 ⟨s, cs, fs, d⟩ = WW at HPD
  generalize resPrintConfig1 ⟨s, cs, fs, d⟩ = R at HTX ⊢
  generalize goodC ⟨s, cs, fs, d⟩ = bb at HPD ⊢
  have HA0 := Lib.hid A0.out.all.2
  go_enter Tryz.func14, Tryz.ntmps14
  go_wp2_with (go_at_call 20; refine (HPD.out _ HA0.out).mono ?_; rintro e w1 ⟨v0, v1, v2, v3, lv, wv, Sp, rfl, hon, hol, how, _, b⟩; have HON := Lib.hid hon; have HOL := Lib.hid hol; have HOW := Lib.hid how; have HB1 := Lib.hid (HA0.out.trans (b.mono HA0.out.size)); clear hon hol how b; refine Hid.out ?_)
  refine Lib.hid ?_
  have PN : Hid (PrV (w1.alloc (Obj.cells #[.string ⟨#[]⟩, .slice none 0 0, .slice none 0 0, .int .i64 0, .slice none 0 0, .slice none 0 0, .int .i64 0, .int .i64 0, .int .i64 0, .int .i64 0, .int .i64 0, .int .i64 0, .int .i64 0, .int .i64 0, .int .i64 0, .int .i64 0, .int .i64 0, .int .i64 0, .int .i64 0, .int .i64 0, .int .i64 0, .int .i64 0, .int .i64 0, .int .i64 0, .int .i64 0, .int .i64 0, .int .i64 0, .int .i64 0, .int .i64 0, .int .i64 0, .int .i64 0, .int .i64 0, .int .i64 0, .int .i64 0, .int .i64 0, .int .i64 0, .int .i64 0, .int .i64 0, .int .i64 0, .int .i64 0, .int .i64 0, .int .i64 0, .int .i64 0, .int .i64 0, .int .i64 0, .int .i64 0, .int .i64 0, .int .i64 0, .int .i64 0, .int .i64 0, .int .i64 0, .int .i64 0, .int .i64 0, .int .i64 0] 49)) w1.heap.size (.string ⟨#[]⟩) (.slice none 0 0) (.slice none 0 0) (.int .i64 0) (.slice none 0 0) (.slice none 0 0) sp0) := Lib.hid (by
    unfold PrV
    rw [pX_zero]
    exact Array.getElem?_push_size)
  have HTH : Hid ((w1.alloc (Obj.cells #[.string ⟨#[]⟩, .slice none 0 0, .slice none 0 0, .int .i64 0, .slice none 0 0, .slice none 0 0, .int .i64 0, .int .i64 0, .int .i64 0, .int .i64 0, .int .i64 0, .int .i64 0, .int .i64 0, .int .i64 0, .int .i64 0, .int .i64 0, .int .i64 0, .int .i64 0, .int .i64 0, .int .i64 0, .int .i64 0, .int .i64 0, .int .i64 0, .int .i64 0, .int .i64 0, .int .i64 0, .int .i64 0, .int .i64 0, .int .i64 0, .int .i64 0, .int .i64 0, .int .i64 0, .int .i64 0, .int .i64 0, .int .i64 0, .int .i64 0, .int .i64 0, .int .i64 0, .int .i64 0, .int .i64 0, .int .i64 0, .int .i64 0, .int .i64 0, .int .i64 0, .int .i64 0, .int .i64 0, .int .i64 0, .int .i64 0, .int .i64 0, .int .i64 0, .int .i64 0, .int .i64 0, .int .i64 0, .int .i64 0] 49)).there w1.heap.size 0 (pX v0 v1 v2 v3 lv wv Sp).toArray.size) := Lib.hid (by rw [pX_asize]; exact PN.out.there)
  have HI2 : Hid ((Tryz.prog.info? 49).map (·.size) = some (pX v0 v1 v2 v3 lv wv Sp).toArray.size) := Lib.hid (by rw [pX_asize]; exact infoP)
  have HRW := Lib.hid ((PN.out.row (B := w1.heap.size) (Nat.le_refl _)).put (ys := (pX v0 v1 v2 v3 lv wv Sp)) (pX_length _ _ _ _ _ _ _))
  have HRB := Lib.hid (setN_below (B := w1.heap.size) (g := w1.heap.size) (Nat.le_refl _) (pX v0 v1 v2 v3 lv wv Sp) 0 (w1.alloc (Obj.cells #[.string ⟨#[]⟩, .slice none 0 0, .slice none 0 0, .int .i64 0, .slice none 0 0, .slice none 0 0, .int .i64 0, .int .i64 0, .int .i64 0, .int .i64 0, .int .i64 0, .int .i64 0, .int .i64 0, .int .i64 0, .int .i64 0, .int .i64 0, .int .i64 0, .int .i64 0, .int .i64 0, .int .i64 0, .int .i64 0, .int .i64 0, .int .i64 0, .int .i64 0, .int .i64 0, .int .i64 0, .int .i64 0, .int .i64 0, .int .i64 0, .int .i64 0, .int .i64 0, .int .i64 0, .int .i64 0, .int .i64 0, .int .i64 0, .int .i64 0, .int .i64 0, .int .i64 0, .int .i64 0, .int .i64 0, .int .i64 0, .int .i64 0, .int .i64 0, .int .i64 0, .int .i64 0, .int .i64 0, .int .i64 0, .int .i64 0, .int .i64 0, .int .i64 0, .int .i64 0, .int .i64 0, .int .i64 0, .int .i64 0] 49)) (one_new2 w1 (Obj.cells #[.string ⟨#[]⟩, .slice none 0 0, .slice none 0 0, .int .i64 0, .slice none 0 0, .slice none 0 0, .int .i64 0, .int .i64 0, .int .i64 0, .int .i64 0, .int .i64 0, .int .i64 0, .int .i64 0, .int .i64 0, .int .i64 0, .int .i64 0, .int .i64 0, .int .i64 0, .int .i64 0, .int .i64 0, .int .i64 0, .int .i64 0, .int .i64 0, .int .i64 0, .int .i64 0, .int .i64 0, .int .i64 0, .int .i64 0, .int .i64 0, .int .i64 0, .int .i64 0, .int .i64 0, .int .i64 0, .int .i64 0, .int .i64 0, .int .i64 0, .int .i64 0, .int .i64 0, .int .i64 0, .int .i64 0, .int .i64 0, .int .i64 0, .int .i64 0, .int .i64 0, .int .i64 0, .int .i64 0, .int .i64 0, .int .i64 0, .int .i64 0, .int .i64 0, .int .i64 0, .int .i64 0, .int .i64 0, .int .i64 0] 49)))
  go_wp2_with ((with_reducible refine (?_ : wpList _ _ _ ({ dst := none, op := Op.store _ _ _, type := _, pos := _, after := _, guard := none } :: _) _ _)); refine wpList_store_mid rfl 49 _ _ rfl w1.heap.size 0 (pX v0 v1 v2 v3 lv wv Sp).toArray rfl rfl HTH.out HI2.out (all_oneCell_toArray HON.out) ?_; refine Hid.out ?_)
  refine Lib.hid ?_
  obtain ⟨W2, hW2⟩ : ∃ W2, (w1.alloc (Obj.cells #[.string ⟨#[]⟩, .slice none 0 0, .slice none 0 0, .int .i64 0, .slice none 0 0, .slice none 0 0, .int .i64 0, .int .i64 0, .int .i64 0, .int .i64 0, .int .i64 0, .int .i64 0, .int .i64 0, .int .i64 0, .int .i64 0, .int .i64 0, .int .i64 0, .int .i64 0, .int .i64 0, .int .i64 0, .int .i64 0, .int .i64 0, .int .i64 0, .int .i64 0, .int .i64 0, .int .i64 0, .int .i64 0, .int .i64 0, .int .i64 0, .int .i64 0, .int .i64 0, .int .i64 0, .int .i64 0, .int .i64 0, .int .i64 0, .int .i64 0, .int .i64 0, .int .i64 0, .int .i64 0, .int .i64 0, .int .i64 0, .int .i64 0, .int .i64 0, .int .i64 0, .int .i64 0, .int .i64 0, .int .i64 0, .int .i64 0, .int .i64 0, .int .i64 0, .int .i64 0, .int .i64 0, .int .i64 0, .int .i64 0] 49)).setCells w1.heap.size 0 (pX v0 v1 v2 v3 lv wv Sp) = W2 := ⟨_, rfl⟩
  (try rw [show ((pX v0 v1 v2 v3 lv wv Sp).toArray).toList = (pX v0 v1 v2 v3 lv wv Sp) from rfl])
  rw [hW2]
  rw [hW2] at HRW HRB
  have PV2 : Hid (PrV W2 w1.heap.size v0 v1 v2 v3 lv wv Sp) := Lib.hid HRW.out.heap
  have HB2 := Lib.hid (HB1.out.trans (HRB.out.mono HB1.out.size))
  have OL2 := Lib.hid (own_low HOL.out HRB.out (Nat.le_refl _))
  have OW2 := Lib.hid (own_low HOW.out HRB.out (Nat.le_refl _))
  clear hW2 HRW HTH PN
  have HTY := Lib.hid (text_any w1.heap.size _ lv LL W2 PV2.out.cells.2.2.2.2.1 OL2 hll htz)
  rw [HTX.out] at HTY
  go_wp2_with (go_at_call 30; refine (HTY.out).mono ?_; rintro e w3 ⟨rfl, b⟩; have HB3 := Lib.hid (HB2.out.trans (b.mono HB2.out.size)); clear b)
  go_ret2
  exact ⟨rfl, HB3.out⟩
set_option maxHeartbeats 12800000 in
theorem implWalkClasses_any (v : Value) (c : Cfg) (w : World) (HK : Hid (Kwt w)) (HV : Hid (CfgV w v c)) (HM : Hid (CfgM c)) (hU : Hid (Units w)) (hP : Hid (Pow w)) (hW : Hid (FwW w)) (hD : Hid (Dig w)) : Calls Tryz.prog 9 #[v] w (SaysTS w (resWalkClasses1 c) (resWalkClasses2 c)) := by
  obtain ⟨ac, cc, af, cf, rfl, ic, if_⟩ := HV.out
  obtain ⟨s, cs, fs, d⟩ := c
  have hM := HM.out
  unfold CfgM at hM
  simp only at ic if_ hM HV ⊢
  obtain ⟨q0, q1, q2⟩ := hM
  have HI := Lib.hid ic
  have HJ := Lib.hid if_
  have HVB := Lib.hid (fun w' (b : Below w.heap.size w w') => Lib.hid (HV.out.below b))
  have A0 := Lib.hid (Aft.refl w (Obj.cells #[.string s, .slice ac cs.length cc, .slice af fs.length cf, .int .i64 d] 26))
  clear ic if_
  have HPD := Lib.hid (fun w' (b : Below w.heap.size w w') => printed_any (.agg #[.string s, .slice ac cs.length cc, .slice af fs.length cf, .int .i64 d]) ⟨s, cs, fs, d⟩ w' (Lib.hid (HK.out.below b)) (HVB.out w' b) HM (Lib.hid (hU.out.below b)) (Lib.hid (hP.out.below b)) (Lib.hid (hW.out.below b)) (Lib.hid (hD.out.below b)))
  unfold SaysPd at HPD
  generalize linL ⟨s, cs, fs, d⟩ = LL at HPD
  generalize resWalkClasses1 ⟨s, cs, fs, d⟩ = WW at HPD ⊢
  rw [show resWalkClasses2 ⟨s, cs, fs, d⟩ = goodC ⟨s, cs, fs, d⟩ from rfl]
  generalize goodC ⟨s, cs, fs, d⟩ = bb at HPD ⊢
  have HA0 := Lib.hid A0.out.all.2
  go_enter Tryz.func9, Tryz.ntmps9
  go_wp2_with (go_at_call 20; refine (HPD.out _ HA0.out).mono ?_; rintro e w1 ⟨v0, v1, v2, v3, lv, wv, Sp, rfl, hon, hol, how, _, b⟩; have HON := Lib.hid hon; have HOL := Lib.hid hol; have HOW := Lib.hid how; have HB1 := Lib.hid (HA0.out.trans (b.mono HA0.out.size)); clear hon hol how b; refine Hid.out ?_)
  refine Lib.hid ?_
  have PN : Hid (PrV (w1.alloc (Obj.cells #[.string ⟨#[]⟩, .slice none 0 0, .slice none 0 0, .int .i64 0, .slice none 0 0, .slice none 0 0, .int .i64 0, .int .i64 0, .int .i64 0, .int .i64 0, .int .i64 0, .int .i64 0, .int .i64 0, .int .i64 0, .int .i64 0, .int .i64 0, .int .i64 0, .int .i64 0, .int .i64 0, .int .i64 0, .int .i64 0, .int .i64 0, .int .i64 0, .int .i64 0, .int .i64 0, .int .i64 0, .int .i64 0, .int .i64 0, .int .i64 0, .int .i64 0, .int .i64 0, .int .i64 0, .int .i64 0, .int .i64 0, .int .i64 0, .int .i64 0, .int .i64 0, .int .i64 0, .int .i64 0, .int .i64 0, .int .i64 0, .int .i64 0, .int .i64 0, .int .i64 0, .int .i64 0, .int .i64 0, .int .i64 0, .int .i64 0, .int .i64 0, .int .i64 0, .int .i64 0, .int .i64 0, .int .i64 0, .int .i64 0] 49)) w1.heap.size (.string ⟨#[]⟩) (.slice none 0 0) (.slice none 0 0) (.int .i64 0) (.slice none 0 0) (.slice none 0 0) sp0) := Lib.hid (by
    unfold PrV
    rw [pX_zero]
    exact Array.getElem?_push_size)
  have HTH : Hid ((w1.alloc (Obj.cells #[.string ⟨#[]⟩, .slice none 0 0, .slice none 0 0, .int .i64 0, .slice none 0 0, .slice none 0 0, .int .i64 0, .int .i64 0, .int .i64 0, .int .i64 0, .int .i64 0, .int .i64 0, .int .i64 0, .int .i64 0, .int .i64 0, .int .i64 0, .int .i64 0, .int .i64 0, .int .i64 0, .int .i64 0, .int .i64 0, .int .i64 0, .int .i64 0, .int .i64 0, .int .i64 0, .int .i64 0, .int .i64 0, .int .i64 0, .int .i64 0, .int .i64 0, .int .i64 0, .int .i64 0, .int .i64 0, .int .i64 0, .int .i64 0, .int .i64 0, .int .i64 0, .int .i64 0, .int .i64 0, .int .i64 0, .int .i64 0, .int .i64 0, .int .i64 0, .int .i64 0, .int .i64 0, .int .i64 0, .int .i64 0, .int .i64 0, .int .i64 0, .int .i64 0, .int .i64 0, .int .i64 0, .int .i64 0, .int .i64 0] 49)).there w1.heap.size 0 (pX v0 v1 v2 v3 lv wv Sp).toArray.size) := Lib.hid (by rw [pX_asize]; exact PN.out.there)
  have HI2 : Hid ((Tryz.prog.info? 49).map (·.size) = some (pX v0 v1 v2 v3 lv wv Sp).toArray.size) := Lib.hid (by rw [pX_asize]; exact infoP)
  have HRW := Lib.hid ((PN.out.row (B := w1.heap.size) (Nat.le_refl _)).put (ys := (pX v0 v1 v2 v3 lv wv Sp)) (pX_length _ _ _ _ _ _ _))
  have HRB := Lib.hid (setN_below (B := w1.heap.size) (g := w1.heap.size) (Nat.le_refl _) (pX v0 v1 v2 v3 lv wv Sp) 0 (w1.alloc (Obj.cells #[.string ⟨#[]⟩, .slice none 0 0, .slice none 0 0, .int .i64 0, .slice none 0 0, .slice none 0 0, .int .i64 0, .int .i64 0, .int .i64 0, .int .i64 0, .int .i64 0, .int .i64 0, .int .i64 0, .int .i64 0, .int .i64 0, .int .i64 0, .int .i64 0, .int .i64 0, .int .i64 0, .int .i64 0, .int .i64 0, .int .i64 0, .int .i64 0, .int .i64 0, .int .i64 0, .int .i64 0, .int .i64 0, .int .i64 0, .int .i64 0, .int .i64 0, .int .i64 0, .int .i64 0, .int .i64 0, .int .i64 0, .int .i64 0, .int .i64 0, .int .i64 0, .int .i64 0, .int .i64 0, .int .i64 0, .int .i64 0, .int .i64 0, .int .i64 0, .int .i64 0, .int .i64 0, .int .i64 0, .int .i64 0, .int .i64 0, .int .i64 0, .int .i64 0, .int .i64 0, .int .i64 0, .int .i64 0, .int .i64 0] 49)) (one_new2 w1 (Obj.cells #[.string ⟨#[]⟩, .slice none 0 0, .slice none 0 0, .int .i64 0, .slice none 0 0, .slice none 0 0, .int .i64 0, .int .i64 0, .int .i64 0, .int .i64 0, .int .i64 0, .int .i64 0, .int .i64 0, .int .i64 0, .int .i64 0, .int .i64 0, .int .i64 0, .int .i64 0, .int .i64 0, .int .i64 0, .int .i64 0, .int .i64 0, .int .i64 0, .int .i64 0, .int .i64 0, .int .i64 0, .int .i64 0, .int .i64 0, .int .i64 0, .int .i64 0, .int .i64 0, .int .i64 0, .int .i64 0, .int .i64 0, .int .i64 0, .int .i64 0, .int .i64 0, .int .i64 0, .int .i64 0, .int .i64 0, .int .i64 0, .int .i64 0, .int .i64 0, .int .i64 0, .int .i64 0, .int .i64 0, .int .i64 0, .int .i64 0, .int .i64 0, .int .i64 0, .int .i64 0, .int .i64 0, .int .i64 0, .int .i64 0] 49)))
  go_wp2_with ((with_reducible refine (?_ : wpList _ _ _ ({ dst := none, op := Op.store _ _ _, type := _, pos := _, after := _, guard := none } :: _) _ _)); refine wpList_store_mid rfl 49 _ _ rfl w1.heap.size 0 (pX v0 v1 v2 v3 lv wv Sp).toArray rfl rfl HTH.out HI2.out (all_oneCell_toArray HON.out) ?_; refine Hid.out ?_)
  refine Lib.hid ?_
  obtain ⟨W2, hW2⟩ : ∃ W2, (w1.alloc (Obj.cells #[.string ⟨#[]⟩, .slice none 0 0, .slice none 0 0, .int .i64 0, .slice none 0 0, .slice none 0 0, .int .i64 0, .int .i64 0, .int .i64 0, .int .i64 0, .int .i64 0, .int .i64 0, .int .i64 0, .int .i64 0, .int .i64 0, .int .i64 0, .int .i64 0, .int .i64 0, .int .i64 0, .int .i64 0, .int .i64 0, .int .i64 0, .int .i64 0, .int .i64 0, .int .i64 0, .int .i64 0, .int .i64 0, .int .i64 0, .int .i64 0, .int .i64 0, .int .i64 0, .int .i64 0, .int .i64 0, .int .i64 0, .int .i64 0, .int .i64 0, .int .i64 0, .int .i64 0, .int .i64 0, .int .i64 0, .int .i64 0, .int .i64 0, .int .i64 0, .int .i64 0, .int .i64 0, .int .i64 0, .int .i64 0, .int .i64 0, .int .i64 0, .int .i64 0, .int .i64 0, .int .i64 0, .int .i64 0, .int .i64 0] 49)).setCells w1.heap.size 0 (pX v0 v1 v2 v3 lv wv Sp) = W2 := ⟨_, rfl⟩
  (try rw [show ((pX v0 v1 v2 v3 lv wv Sp).toArray).toList = (pX v0 v1 v2 v3 lv wv Sp) from rfl])
  rw [hW2]
  rw [hW2] at HRW HRB
  have PV2 : Hid (PrV W2 w1.heap.size v0 v1 v2 v3 lv wv Sp) := Lib.hid HRW.out.heap
  have HB2 := Lib.hid (HB1.out.trans (HRB.out.mono HB1.out.size))
  have OL2 := Lib.hid (own_low HOL.out HRB.out (Nat.le_refl _))
  have OW2 := Lib.hid (own_low HOW.out HRB.out (Nat.le_refl _))
  clear hW2 HRW HTH PN
  obtain ⟨aw, cw, rfl, _⟩ := own_in OW2.out
  obtain ⟨j0, j1, j2, j3, j4, j5, fz⟩ := PV2.out.cells
  have OW3 := Lib.hid (own_base (B' := w.heap.size) OW2.out HA0.out.size)
  go_wp2_with fail
  go_ret2
  exact ⟨_, rfl, OW3.out, HB2.out⟩
set_option maxHeartbeats 12800000 in
theorem implLinesOfPart_any (v : Value) (c : Cfg) (a : Int) (w : World) (HK : Hid (Kwt w)) (HV : Hid (CfgV w v c)) (HM : Hid (CfgM c)) (hU : Hid (Units w)) (hP : Hid (Pow w)) (hW : Hid (FwW w)) (hD : Hid (Dig w)) : Calls Tryz.prog 5 #[v, .int .i64 a] w (SaysT3p w (.int .i64 (resLinesOfPart1 c a)) (.int .i64 (resLinesOfPart2 c a)) (.bool (resLinesOfPart3 c a))) := by
  obtain ⟨ac, cc, af, cf, rfl, ic, if_⟩ := HV.out
  obtain ⟨s, cs, fs, d⟩ := c
  have hM := HM.out
  unfold CfgM at hM
  simp only at ic if_ hM HV ⊢
  obtain ⟨q0, q1, q2⟩ := hM
  have HI := Lib.hid ic
  have HJ := Lib.hid if_
  have HVB := Lib.hid (fun w' (b : Below w.heap.size w w') => Lib.hid (HV.out.below b))
  have A0 := Lib.hid (Aft.refl w (Obj.cells #[.string s, .slice ac cs.length cc, .slice af fs.length cf, .int .i64 d] 26))
  clear ic if_
  have HH := Lib.hid (fun w' (b : Below w.heap.size w w') => hasIndex_any (.agg #[.string s, .slice ac cs.length cc, .slice af fs.length cf, .int .i64 d]) ⟨s, cs, fs, d⟩ a w' (Lib.hid (HK.out.below b)) (HVB.out w' b) HM)
  cases hh : hasI ⟨s, cs, fs, d⟩ a
  · obtain ⟨x1, x2, x3⟩ := lp_bad hh
    rw [x1, x2, x3]
    rw [hh] at HH
    clear x1 x2 x3 hh
    go_enter Tryz.func5, Tryz.ntmps5
    go_wp2_with (go_at_call 19; refine (HH.out _ A0.out.all.2).mono ?_; rintro e w1 ⟨rfl, b1⟩; have A1 := Lib.hid (A0.out.on b1); clear b1)
    go_ret3
    exact ⟨rfl, A1.out.all.2⟩
  · rw [hh] at HH
    obtain ⟨hg, q, rfl, hq⟩ := has_iff hh
    obtain ⟨x1, x2, x3⟩ := lp_good hh
    have GP := goodP hg
    have hq24 : q < 24 := by
      have h1 : cs.length ≤ 24 := GP.T.n24
      have h2 : q < cs.length := hq
      omega
    have HPD := Lib.hid (fun w' (b : Below w.heap.size w w') => printed_any (.agg #[.string s, .slice ac cs.length cc, .slice af fs.length cf, .int .i64 d]) ⟨s, cs, fs, d⟩ w' (Lib.hid (HK.out.below b)) (HVB.out w' b) HM (Lib.hid (hU.out.below b)) (Lib.hid (hP.out.below b)) (Lib.hid (hW.out.below b)) (Lib.hid (hD.out.below b)))
    unfold SaysPd at HPD
    have hz1 : 1 ≤ sizeP cs 9 q := by
      simp only at hq
      show 1 ≤ (if hasK cs (cs.getD q cls0).i then 2 + ((kids cs (cs.getD q cls0).i).map (sizeP cs 8)).sum else 1)
      split <;> omega
    have HFN : Hid (∀ Sp : Nat → Nat × Nat, (∀ q : Nat, hasI ⟨s, cs, fs, d⟩ (q : Int) = true → Sp q = finP cs q) → ((Sp q).1 : Int) = (lineP cs 9 q : Int) ∧ ((Sp q).2 : Int) = (lineP cs 9 q : Int) + (sizeP cs 9 q : Int) - 1) := Lib.hid (fun Sp h => by
      rw [h q hh]
      refine ⟨rfl, ?_⟩
      show ((lineP cs 9 q + sizeP cs 9 q - 1 : Nat) : Int) = _
      omega)
    rw [x1, x2, x3]
    simp only at HPD
    generalize (lineP cs 9 q : Int) = r1 at HFN ⊢
    generalize r1 + (sizeP cs 9 q : Int) - 1 = r2 at HFN ⊢
    generalize linL ⟨s, cs, fs, d⟩ = LL at HPD
    generalize resWalkClasses1 ⟨s, cs, fs, d⟩ = WW at HPD
    generalize goodC ⟨s, cs, fs, d⟩ = bb at HPD
    clear x1 x2 x3 hh hg GP hz1
    have hqi : (q : Int) < 24 := by omega
    have hqi0 : (0 : Int) ≤ q := by omega
    have hqi1 : (q : Int) ≤ 24 := by omega
    go_enter Tryz.func5, Tryz.ntmps5
    go_wp2_with (go_at_call 19; refine (HH.out _ A0.out.all.2).mono ?_; rintro e w0 ⟨rfl, b1⟩; have A1 := Lib.hid (A0.out.on b1); obtain ⟨c0, c1, c2, c3, _⟩ := A1.out.all.1; clear b1; refine Hid.out ?_)
    refine Lib.hid ?_
    have HA0 := Lib.hid A1.out.all.2
    go_wp2_with (go_at_call 20; refine (HPD.out _ HA0.out).mono ?_; rintro e w1 ⟨v0, v1, v2, v3, lv, wv, Sp, rfl, hon, hol, how, hsp, b⟩; have HSP := Lib.hid (HFN.out Sp hsp); have HON := Lib.hid hon; have HOL := Lib.hid hol; have HOW := Lib.hid how; have HB1 := Lib.hid (HA0.out.trans (b.mono HA0.out.size)); clear hon hol how b hsp; refine Hid.out ?_)
    refine Lib.hid ?_
    have PN : Hid (PrV (w1.alloc (Obj.cells #[.string ⟨#[]⟩, .slice none 0 0, .slice none 0 0, .int .i64 0, .slice none 0 0, .slice none 0 0, .int .i64 0, .int .i64 0, .int .i64 0, .int .i64 0, .int .i64 0, .int .i64 0, .int .i64 0, .int .i64 0, .int .i64 0, .int .i64 0, .int .i64 0, .int .i64 0, .int .i64 0, .int .i64 0, .int .i64 0, .int .i64 0, .int .i64 0, .int .i64 0, .int .i64 0, .int .i64 0, .int .i64 0, .int .i64 0, .int .i64 0, .int .i64 0, .int .i64 0, .int .i64 0, .int .i64 0, .int .i64 0, .int .i64 0, .int .i64 0, .int .i64 0, .int .i64 0, .int .i64 0, .int .i64 0, .int .i64 0, .int .i64 0, .int .i64 0, .int .i64 0, .int .i64 0, .int .i64 0, .int .i64 0, .int .i64 0, .int .i64 0, .int .i64 0, .int .i64 0, .int .i64 0, .int .i64 0, .int .i64 0] 49)) w1.heap.size (.string ⟨#[]⟩) (.slice none 0 0) (.slice none 0 0) (.int .i64 0) (.slice none 0 0) (.slice none 0 0) sp0) := Lib.hid (by
      unfold PrV
      rw [pX_zero]
      exact Array.getElem?_push_size)
    have HTH : Hid ((w1.alloc (Obj.cells #[.string ⟨#[]⟩, .slice none 0 0, .slice none 0 0, .int .i64 0, .slice none 0 0, .slice none 0 0, .int .i64 0, .int .i64 0, .int .i64 0, .int .i64 0, .int .i64 0, .int .i64 0, .int .i64 0, .int .i64 0, .int .i64 0, .int .i64 0, .int .i64 0, .int .i64 0, .int .i64 0, .int .i64 0, .int .i64 0, .int .i64 0, .int .i64 0, .int .i64 0, .int .i64 0, .int .i64 0, .int .i64 0, .int .i64 0, .int .i64 0, .int .i64 0, .int .i64 0, .int .i64 0, .int .i64 0, .int .i64 0, .int .i64 0, .int .i64 0, .int .i64 0, .int .i64 0, .int .i64 0, .int .i64 0, .int .i64 0, .int .i64 0, .int .i64 0, .int .i64 0, .int .i64 0, .int .i64 0, .int .i64 0, .int .i64 0, .int .i64 0, .int .i64 0, .int .i64 0, .int .i64 0, .int .i64 0, .int .i64 0] 49)).there w1.heap.size 0 (pX v0 v1 v2 v3 lv wv Sp).toArray.size) := Lib.hid (by rw [pX_asize]; exact PN.out.there)
    have HI2 : Hid ((Tryz.prog.info? 49).map (·.size) = some (pX v0 v1 v2 v3 lv wv Sp).toArray.size) := Lib.hid (by rw [pX_asize]; exact infoP)
    have HRW := Lib.hid ((PN.out.row (B := w1.heap.size) (Nat.le_refl _)).put (ys := (pX v0 v1 v2 v3 lv wv Sp)) (pX_length _ _ _ _ _ _ _))
    have HRB := Lib.hid (setN_below (B := w1.heap.size) (g := w1.heap.size) (Nat.le_refl _) (pX v0 v1 v2 v3 lv wv Sp) 0 (w1.alloc (Obj.cells #[.string ⟨#[]⟩, .slice none 0 0, .slice none 0 0, .int .i64 0, .slice none 0 0, .slice none 0 0, .int .i64 0, .int .i64 0, .int .i64 0, .int .i64 0, .int .i64 0, .int .i64 0, .int .i64 0, .int .i64 0, .int .i64 0, .int .i64 0, .int .i64 0, .int .i64 0, .int .i64 0, .int .i64 0, .int .i64 0, .int .i64 0, .int .i64 0, .int .i64 0, .int .i64 0, .int .i64 0, .int .i64 0, .int .i64 0, .int .i64 0, .int .i64 0, .int .i64 0, .int .i64 0, .int .i64 0, .int .i64 0, .int .i64 0, .int .i64 0, .int .i64 0, .int .i64 0, .int .i64 0, .int .i64 0, .int .i64 0, .int .i64 0, .int .i64 0, .int .i64 0, .int .i64 0, .int .i64 0, .int .i64 0, .int .i64 0, .int .i64 0, .int .i64 0, .int .i64 0, .int .i64 0, .int .i64 0, .int .i64 0] 49)) (one_new2 w1 (Obj.cells #[.string ⟨#[]⟩, .slice none 0 0, .slice none 0 0, .int .i64 0, .slice none 0 0, .slice none 0 0, .int .i64 0, .int .i64 0, .int .i64 0, .int .i64 0, .int .i64 0, .int .i64 0, .int .i64 0, .int .i64 0, .int .i64 0, .int .i64 0, .int .i64 0, .int .i64 0, .int .i64 0, .int .i64 0, .int .i64 0, .int .i64 0, .int .i64 0, .int .i64 0, .int .i64 0, .int .i64 0, .int .i64 0, .int .i64 0, .int .i64 0, .int .i64 0, .int .i64 0, .int .i64 0, .int .i64 0, .int .i64 0, .int .i64 0, .int .i64 0, .int .i64 0, .int .i64 0, .int .i64 0, .int .i64 0, .int .i64 0, .int .i64 0, .int .i64 0, .int .i64 0, .int .i64 0, .int .i64 0, .int .i64 0, .int .i64 0, .int .i64 0, .int .i64 0, .int .i64 0, .int .i64 0, .int .i64 0, .int .i64 0] 49)))
    go_wp2_with ((with_reducible refine (?_ : wpList _ _ _ ({ dst := none, op := Op.store _ _ _, type := _, pos := _, after := _, guard := none } :: _) _ _)); refine wpList_store_mid rfl 49 _ _ rfl w1.heap.size 0 (pX v0 v1 v2 v3 lv wv Sp).toArray rfl rfl HTH.out HI2.out (all_oneCell_toArray HON.out) ?_; refine Hid.out ?_)
    refine Lib.hid ?_
    obtain ⟨W2, hW2⟩ : ∃ W2, (w1.alloc (Obj.cells #[.string ⟨#[]⟩, .slice none 0 0, .slice none 0 0, .int .i64 0, .slice none 0 0, .slice none 0 0, .int .i64 0, .int .i64 0, .int .i64 0, .int .i64 0, .int .i64 0, .int .i64 0, .int .i64 0, .int .i64 0, .int .i64 0, .int .i64 0, .int .i64 0, .int .i64 0, .int .i64 0, .int .i64 0, .int .i64 0, .int .i64 0, .int .i64 0, .int .i64 0, .int .i64 0, .int .i64 0, .int .i64 0, .int .i64 0, .int .i64 0, .int .i64 0, .int .i64 0, .int .i64 0, .int .i64 0, .int .i64 0, .int .i64 0, .int .i64 0, .int .i64 0, .int .i64 0, .int .i64 0, .int .i64 0, .int .i64 0, .int .i64 0, .int .i64 0, .int .i64 0, .int .i64 0, .int .i64 0, .int .i64 0, .int .i64 0, .int .i64 0, .int .i64 0, .int .i64 0, .int .i64 0, .int .i64 0, .int .i64 0] 49)).setCells w1.heap.size 0 (pX v0 v1 v2 v3 lv wv Sp) = W2 := ⟨_, rfl⟩
    (try rw [show ((pX v0 v1 v2 v3 lv wv Sp).toArray).toList = (pX v0 v1 v2 v3 lv wv Sp) from rfl])
    rw [hW2]
    rw [hW2] at HRW HRB
    have PV2 : Hid (PrV W2 w1.heap.size v0 v1 v2 v3 lv wv Sp) := Lib.hid HRW.out.heap
    have HB2 := Lib.hid (HB1.out.trans (HRB.out.mono HB1.out.size))
    have OL2 := Lib.hid (own_low HOL.out HRB.out (Nat.le_refl _))
    have OW2 := Lib.hid (own_low HOW.out HRB.out (Nat.le_refl _))
    clear hW2 HRW HTH PN
    obtain ⟨s0, s1⟩ := PV2.out.span q hq24
    rw [HSP.out.1] at s0
    rw [HSP.out.2] at s1
    go_wp2_with fail
    go_quiet (fail)
    go_wp2_with fail
    go_ret3
    exact ⟨rfl, below_drewN HB2.out _⟩
set_option maxHeartbeats 3200000 in
theorem implLineOfClass_any (v : Value) (c : Cfg) (a : Int) (w : World) (HK : Hid (Kwt w)) (HV : Hid (CfgV w v c)) (HM : Hid (CfgM c)) (hU : Hid (Units w)) (hP : Hid (Pow w)) (hW : Hid (FwW w)) (hD : Hid (Dig w)) : Calls Tryz.prog 7 #[v, .int .i64 a] w (SaysT2 w (.int .i64 (resLineOfClass1 c a)) (.bool (resLineOfClass2 c a))) := by
  obtain ⟨ac, cc, af, cf, rfl, ic, if_⟩ := HV.out
  obtain ⟨s, cs, fs, d⟩ := c
  have hM := HM.out
  unfold CfgM at hM
  simp only at ic if_ hM HV ⊢
  obtain ⟨q0, q1, q2⟩ := hM
  have HI := Lib.hid ic
  have HJ := Lib.hid if_
  have HVB := Lib.hid (fun w' (b : Below w.heap.size w w') => Lib.hid (HV.out.below b))
  have A0 := Lib.hid (Aft.refl w (Obj.cells #[.string s, .slice ac cs.length cc, .slice af fs.length cf, .int .i64 d] 26))
  clear ic if_
  have HLP := Lib.hid (fun w' (b : Below w.heap.size w w') => implLinesOfPart_any (.agg #[.string s, .slice ac cs.length cc, .slice af fs.length cf, .int .i64 d]) ⟨s, cs, fs, d⟩ a w' (Lib.hid (HK.out.below b)) (HVB.out w' b) HM (Lib.hid (hU.out.below b)) (Lib.hid (hP.out.below b)) (Lib.hid (hW.out.below b)) (Lib.hid (hD.out.below b)))
  rw [show resLineOfClass1 ⟨s, cs, fs, d⟩ a = resLinesOfPart1 ⟨s, cs, fs, d⟩ a from rfl, show resLineOfClass2 ⟨s, cs, fs, d⟩ a = resLinesOfPart3 ⟨s, cs, fs, d⟩ a from rfl]
  generalize resLinesOfPart1 ⟨s, cs, fs, d⟩ a = r1 at HLP ⊢
  generalize resLinesOfPart2 ⟨s, cs, fs, d⟩ a = r2 at HLP
  generalize resLinesOfPart3 ⟨s, cs, fs, d⟩ a = r3 at HLP ⊢
  go_enter Tryz.func7, Tryz.ntmps7
  go_wp2_with (go_at_call 5; refine (HLP.out _ A0.out.all.2).mono ?_; rintro e w1 ⟨rfl, b1⟩; have A1 := Lib.hid (A0.out.on b1); clear b1)
  go_ret2
  exact ⟨rfl, A1.out.all.2⟩
end Go.Proofs.YthgbhnedfdnfpaaGreatDoor
