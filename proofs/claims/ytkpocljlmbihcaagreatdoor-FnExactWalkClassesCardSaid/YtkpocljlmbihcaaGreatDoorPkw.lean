import Derived.Test.YtkpocljlmbihcaaGreatDoorPkv
import Derived.Test.YtkpocljlmbihcaaGreatDoorRows
import Derived.WalkKit
import Derived.OpenVars
import Derived.Test.YtkpocljlmbihcaaGreatDoorPkc
import Derived.Test.YtkpocljlmbihcaaGreatDoorPkk
import Derived.ProofKit
import Derived.OpenShut
import Derived.ChangeVars
import Derived.Test.YtkpocljlmbihcaaGreatDoorPkm
import Derived.WalkSmall
import Derived.Deep.RegionWith
import Derived.Deep.QuietTactic
import Derived.BigQuiet
import Derived.Test.YtkpocljlmbihcaaGreatDoorPkg
/- Canonical texts, the program's functions over configurations (written by tools/gen_prj.py). -/
namespace Go.Proofs.YtkpocljlmbihcaaGreatDoor
set_option maxRecDepth 100000
open Go.RowKit
set_option linter.unusedVariables false
set_option linter.unusedSimpArgs false

theorem text_size (c : Cfg) : (catS (linL c)).size ≤ 100000000000000 := by
  rw [linL_text]
  cases hg : goodC c
  · rw [pc_bad hg]; decide
  · rw [pc_good hg]
    have G := goodP hg
    have h1 := partT_size G.T 8 1 (topF c.cs) (by decide) (top_facts G.T G.top).1 (by decide)
    have h2 := filtL_size c.fs G.fg
    have h3 := G.fl
    have h4 := G.nm
    have z1 : (⟨#[113, 100, 105, 115, 99, 32]⟩ : ByteArray).size = 6 := rfl
    have z2 : (⟨#[32, 100, 101, 102, 97, 117, 108, 116, 32]⟩ : ByteArray).size = 9 := rfl
    have z3 : (⟨#[32, 123, 10]⟩ : ByteArray).size = 3 := rfl
    have z4 : (⟨#[125, 10]⟩ : ByteArray).size = 2 := rfl
    have h5 := numS_size c.d.toNat
    have hd := G.df
    unfold textP begS
    split <;> simp only [ByteArray.size_append] <;> omega
set_option maxHeartbeats 12800000 in
theorem implPrintConfig_any (v : Value) (c : Cfg) (w : World) (HK : Hid (Kwt w)) (HV : Hid (CfgV w v c)) (HM : Hid (CfgM c)) (hU : Hid (Units w)) (hP : Hid (Pow w)) (hW : Hid (FwW w)) (hD : Hid (Dig w)) : Calls Tryz.prog 10 #[v] w (SaysStrB w (resPrintConfig1 c) (goodC c)) := by
  have HTX := Lib.hid (linL_text c)
  have htz := text_size c
  have hll := linL_len (c := c)
  obtain ⟨ac, cc, af, cf, rfl, ic, if_⟩ := HV.out
  obtain ⟨s, cs, fs, d⟩ := c
  have hM := HM.out
  unfold CfgM at hM
  simp only at ic if_ hM HV ⊢
  obtain ⟨q0, q1, q2⟩ := hM
  have HI := Lib.hid ic
  have HJ := Lib.hid if_
  have HVB := Lib.hid (fun w' (b : Below w.heap.size w w') => Lib.hid (HV.out.below b))
  have A0 := Lib.hid (Aft.refl w (Obj.cells #[.string s, .slice ac cs.length cc, .slice af fs.length cf, .int .i64 d] 32))
  clear ic if_
  have HPD := Lib.hid (fun w' (b : Below w.heap.size w w') => printed_any (.agg #[.string s, .slice ac cs.length cc, .slice af fs.length cf, .int .i64 d]) ⟨s, cs, fs, d⟩ w' (Lib.hid (HK.out.below b)) (HVB.out w' b) HM (Lib.hid (hU.out.below b)) (Lib.hid (hP.out.below b)) (Lib.hid (hW.out.below b)) (Lib.hid (hD.out.below b)))
  unfold SaysPd at HPD
  generalize linL ⟨s, cs, fs, d⟩ = LL at HTX htz hll HPD
  generalize resWalkClasses1 ⟨s, cs, fs, d⟩ = WW at HPD
  generalize resPrintConfig1 ⟨s, cs, fs, d⟩ = R at HTX ⊢
  generalize goodC ⟨s, cs, fs, d⟩ = bb at HPD ⊢
  have HA0 := Lib.hid A0.out.all.2
  go_enter Tryz.func10, Tryz.ntmps10
  go_wp2_with (go_at_call 28; refine (HPD.out _ HA0.out).mono ?_; rintro e w1 ⟨v0, v1, v2, v3, lv, wv, Sp, rfl, hon, hol, how, _, b⟩; have HON := Lib.hid hon; have HOL := Lib.hid hol; have HOW := Lib.hid how; have HB1 := Lib.hid (HA0.out.trans (b.mono HA0.out.size)); clear hon hol how b; refine Hid.out ?_)
  refine Lib.hid ?_
  have PN : Hid (PrV (w1.alloc (Obj.cells #[.string ⟨#[]⟩, .slice none 0 0, .slice none 0 0, .int .i64 0, .slice none 0 0, .slice none 0 0, .int .i64 0, .int .i64 0, .int .i64 0, .int .i64 0, .int .i64 0, .int .i64 0, .int .i64 0, .int .i64 0, .int .i64 0, .int .i64 0, .int .i64 0, .int .i64 0, .int .i64 0, .int .i64 0, .int .i64 0, .int .i64 0, .int .i64 0, .int .i64 0, .int .i64 0, .int .i64 0, .int .i64 0, .int .i64 0, .int .i64 0, .int .i64 0, .int .i64 0, .int .i64 0, .int .i64 0, .int .i64 0, .int .i64 0, .int .i64 0, .int .i64 0, .int .i64 0, .int .i64 0, .int .i64 0, .int .i64 0, .int .i64 0, .int .i64 0, .int .i64 0, .int .i64 0, .int .i64 0, .int .i64 0, .int .i64 0, .int .i64 0, .int .i64 0, .int .i64 0, .int .i64 0, .int .i64 0, .int .i64 0] 58)) w1.heap.size (.string ⟨#[]⟩) (.slice none 0 0) (.slice none 0 0) (.int .i64 0) (.slice none 0 0) (.slice none 0 0) sp0) := Lib.hid (by
    unfold PrV
    rw [pX_zero]
    exact Array.getElem?_push_size)
  have HTH : Hid ((w1.alloc (Obj.cells #[.string ⟨#[]⟩, .slice none 0 0, .slice none 0 0, .int .i64 0, .slice none 0 0, .slice none 0 0, .int .i64 0, .int .i64 0, .int .i64 0, .int .i64 0, .int .i64 0, .int .i64 0, .int .i64 0, .int .i64 0, .int .i64 0, .int .i64 0, .int .i64 0, .int .i64 0, .int .i64 0, .int .i64 0, .int .i64 0, .int .i64 0, .int .i64 0, .int .i64 0, .int .i64 0, .int .i64 0, .int .i64 0, .int .i64 0, .int .i64 0, .int .i64 0, .int .i64 0, .int .i64 0, .int .i64 0, .int .i64 0, .int .i64 0, .int .i64 0, .int .i64 0, .int .i64 0, .int .i64 0, .int .i64 0, .int .i64 0, .int .i64 0, .int .i64 0, .int .i64 0, .int .i64 0, .int .i64 0, .int .i64 0, .int .i64 0, .int .i64 0, .int .i64 0, .int .i64 0, .int .i64 0, .int .i64 0, .int .i64 0] 58)).there w1.heap.size 0 (pX v0 v1 v2 v3 lv wv Sp).toArray.size) := Lib.hid (by rw [pX_asize]; exact PN.out.there)
  have HI2 : Hid ((Tryz.prog.info? 58).map (·.size) = some (pX v0 v1 v2 v3 lv wv Sp).toArray.size) := Lib.hid (by rw [pX_asize]; exact infoP)
  have HRW := Lib.hid ((PN.out.row (B := w1.heap.size) (Nat.le_refl _)).put (ys := (pX v0 v1 v2 v3 lv wv Sp)) (pX_length _ _ _ _ _ _ _))
  have HRB := Lib.hid (setN_below (B := w1.heap.size) (g := w1.heap.size) (Nat.le_refl _) (pX v0 v1 v2 v3 lv wv Sp) 0 (w1.alloc (Obj.cells #[.string ⟨#[]⟩, .slice none 0 0, .slice none 0 0, .int .i64 0, .slice none 0 0, .slice none 0 0, .int .i64 0, .int .i64 0, .int .i64 0, .int .i64 0, .int .i64 0, .int .i64 0, .int .i64 0, .int .i64 0, .int .i64 0, .int .i64 0, .int .i64 0, .int .i64 0, .int .i64 0, .int .i64 0, .int .i64 0, .int .i64 0, .int .i64 0, .int .i64 0, .int .i64 0, .int .i64 0, .int .i64 0, .int .i64 0, .int .i64 0, .int .i64 0, .int .i64 0, .int .i64 0, .int .i64 0, .int .i64 0, .int .i64 0, .int .i64 0, .int .i64 0, .int .i64 0, .int .i64 0, .int .i64 0, .int .i64 0, .int .i64 0, .int .i64 0, .int .i64 0, .int .i64 0, .int .i64 0, .int .i64 0, .int .i64 0, .int .i64 0, .int .i64 0, .int .i64 0, .int .i64 0, .int .i64 0, .int .i64 0] 58)) (one_new2 w1 (Obj.cells #[.string ⟨#[]⟩, .slice none 0 0, .slice none 0 0, .int .i64 0, .slice none 0 0, .slice none 0 0, .int .i64 0, .int .i64 0, .int .i64 0, .int .i64 0, .int .i64 0, .int .i64 0, .int .i64 0, .int .i64 0, .int .i64 0, .int .i64 0, .int .i64 0, .int .i64 0, .int .i64 0, .int .i64 0, .int .i64 0, .int .i64 0, .int .i64 0, .int .i64 0, .int .i64 0, .int .i64 0, .int .i64 0, .int .i64 0, .int .i64 0, .int .i64 0, .int .i64 0, .int .i64 0, .int .i64 0, .int .i64 0, .int .i64 0, .int .i64 0, .int .i64 0, .int .i64 0, .int .i64 0, .int .i64 0, .int .i64 0, .int .i64 0, .int .i64 0, .int .i64 0, .int .i64 0, .int .i64 0, .int .i64 0, .int .i64 0, .int .i64 0, .int .i64 0, .int .i64 0, .int .i64 0, .int .i64 0, .int .i64 0] 58)))
  go_wp2_with ((with_reducible refine (?_ : wpList _ _ _ ({ dst := none, op := Op.store _ _ _, type := _, pos := _, after := _, guard := none } :: _) _ _)); refine wpList_store_mid rfl 58 _ _ rfl w1.heap.size 0 (pX v0 v1 v2 v3 lv wv Sp).toArray rfl rfl HTH.out HI2.out (all_oneCell_toArray HON.out) ?_; refine Hid.out ?_)
  refine Lib.hid ?_
  obtain ⟨W2, hW2⟩ : ∃ W2, (w1.alloc (Obj.cells #[.string ⟨#[]⟩, .slice none 0 0, .slice none 0 0, .int .i64 0, .slice none 0 0, .slice none 0 0, .int .i64 0, .int .i64 0, .int .i64 0, .int .i64 0, .int .i64 0, .int .i64 0, .int .i64 0, .int .i64 0, .int .i64 0, .int .i64 0, .int .i64 0, .int .i64 0, .int .i64 0, .int .i64 0, .int .i64 0, .int .i64 0, .int .i64 0, .int .i64 0, .int .i64 0, .int .i64 0, .int .i64 0, .int .i64 0, .int .i64 0, .int .i64 0, .int .i64 0, .int .i64 0, .int .i64 0, .int .i64 0, .int .i64 0, .int .i64 0, .int .i64 0, .int .i64 0, .int .i64 0, .int .i64 0, .int .i64 0, .int .i64 0, .int .i64 0, .int .i64 0, .int .i64 0, .int .i64 0, .int .i64 0, .int .i64 0, .int .i64 0, .int .i64 0, .int .i64 0, .int .i64 0, .int .i64 0, .int .i64 0] 58)).setCells w1.heap.size 0 (pX v0 v1 v2 v3 lv wv Sp) = W2 := ⟨_, rfl⟩
  (try rw [show ((pX v0 v1 v2 v3 lv wv Sp).toArray).toList = (pX v0 v1 v2 v3 lv wv Sp) from rfl])
  rw [hW2]
  rw [hW2] at HRW HRB
  have PV2 : Hid (PrV W2 w1.heap.size v0 v1 v2 v3 lv wv Sp) := Lib.hid HRW.out.heap
  have HB2 := Lib.hid (HB1.out.trans (HRB.out.mono HB1.out.size))
  have OL2 := Lib.hid (own_low HOL.out HRB.out (Nat.le_refl _))
  have OW2 := Lib.hid (own_low HOW.out HRB.out (Nat.le_refl _))
  clear hW2 HRW HTH PN
  have HTY := Lib.hid (text_any w1.heap.size _ lv LL W2 PV2.out.cells.2.2.2.2.1 OL2 hll htz)
  rw [HTX.out] at HTY
  go_wp2_with (go_at_call 29; refine (HTY.out).mono ?_; rintro e w3 ⟨rfl, b⟩; have HB3 := Lib.hid (HB2.out.trans (b.mono HB2.out.size)); clear b)
  go_ret2
  exact ⟨rfl, HB3.out⟩
set_option maxHeartbeats 12800000 in
theorem implWalkClasses_any (v : Value) (c : Cfg) (w : World) (HK : Hid (Kwt w)) (HV : Hid (CfgV w v c)) (HM : Hid (CfgM c)) (hU : Hid (Units w)) (hP : Hid (Pow w)) (hW : Hid (FwW w)) (hD : Hid (Dig w)) : Calls Tryz.prog 17 #[v] w (SaysTS w (resWalkClasses1 c) (resWalkClasses2 c)) := by
  obtain ⟨ac, cc, af, cf, rfl, ic, if_⟩ := HV.out
  obtain ⟨s, cs, fs, d⟩ := c
  have hM := HM.out
  unfold CfgM at hM
  simp only at ic if_ hM HV ⊢
  obtain ⟨q0, q1, q2⟩ := hM
  have HI := Lib.hid ic
  have HJ := Lib.hid if_
  have HVB := Lib.hid (fun w' (b : Below w.heap.size w w') => Lib.hid (HV.out.below b))
  have A0 := Lib.hid (Aft.refl w (Obj.cells #[.string s, .slice ac cs.length cc, .slice af fs.length cf, .int .i64 d] 32))
  clear ic if_
  have HPD := Lib.hid (fun w' (b : Below w.heap.size w w') => printed_any (.agg #[.string s, .slice ac cs.length cc, .slice af fs.length cf, .int .i64 d]) ⟨s, cs, fs, d⟩ w' (Lib.hid (HK.out.below b)) (HVB.out w' b) HM (Lib.hid (hU.out.below b)) (Lib.hid (hP.out.below b)) (Lib.hid (hW.out.below b)) (Lib.hid (hD.out.below b)))
  unfold SaysPd at HPD
  generalize linL ⟨s, cs, fs, d⟩ = LL at HPD
  generalize resWalkClasses1 ⟨s, cs, fs, d⟩ = WW at HPD ⊢
  rw [show resWalkClasses2 ⟨s, cs, fs, d⟩ = goodC ⟨s, cs, fs, d⟩ from rfl]
  generalize goodC ⟨s, cs, fs, d⟩ = bb at HPD ⊢
  have HA0 := Lib.hid A0.out.all.2
  go_enter Tryz.func17, Tryz.ntmps17
  go_wp2_with (go_at_call 28; refine (HPD.out _ HA0.out).mono ?_; rintro e w1 ⟨v0, v1, v2, v3, lv, wv, Sp, rfl, hon, hol, how, _, b⟩; have HON := Lib.hid hon; have HOL := Lib.hid hol; have HOW := Lib.hid how; have HB1 := Lib.hid (HA0.out.trans (b.mono HA0.out.size)); clear hon hol how b; refine Hid.out ?_)
  refine Lib.hid ?_
  have PN : Hid (PrV (w1.alloc (Obj.cells #[.string ⟨#[]⟩, .slice none 0 0, .slice none 0 0, .int .i64 0, .slice none 0 0, .slice none 0 0, .int .i64 0, .int .i64 0, .int .i64 0, .int .i64 0, .int .i64 0, .int .i64 0, .int .i64 0, .int .i64 0, .int .i64 0, .int .i64 0, .int .i64 0, .int .i64 0, .int .i64 0, .int .i64 0, .int .i64 0, .int .i64 0, .int .i64 0, .int .i64 0, .int .i64 0, .int .i64 0, .int .i64 0, .int .i64 0, .int .i64 0, .int .i64 0, .int .i64 0, .int .i64 0, .int .i64 0, .int .i64 0, .int .i64 0, .int .i64 0, .int .i64 0, .int .i64 0, .int .i64 0, .int .i64 0, .int .i64 0, .int .i64 0, .int .i64 0, .int .i64 0, .int .i64 0, .int .i64 0, .int .i64 0, .int .i64 0, .int .i64 0, .int .i64 0, .int .i64 0, .int .i64 0, .int .i64 0, .int .i64 0] 58)) w1.heap.size (.string ⟨#[]⟩) (.slice none 0 0) (.slice none 0 0) (.int .i64 0) (.slice none 0 0) (.slice none 0 0) sp0) := Lib.hid (by
    unfold PrV
    rw [pX_zero]
    exact Array.getElem?_push_size)
  have HTH : Hid ((w1.alloc (Obj.cells #[.string ⟨#[]⟩, .slice none 0 0, .slice none 0 0, .int .i64 0, .slice none 0 0, .slice none 0 0, .int .i64 0, .int .i64 0, .int .i64 0, .int .i64 0, .int .i64 0, .int .i64 0, .int .i64 0, .int .i64 0, .int .i64 0, .int .i64 0, .int .i64 0, .int .i64 0, .int .i64 0, .int .i64 0, .int .i64 0, .int .i64 0, .int .i64 0, .int .i64 0, .int .i64 0, .int .i64 0, .int .i64 0, .int .i64 0, .int .i64 0, .int .i64 0, .int .i64 0, .int .i64 0, .int .i64 0, .int .i64 0, .int .i64 0, .int .i64 0, .int .i64 0, .int .i64 0, .int .i64 0, .int .i64 0, .int .i64 0, .int .i64 0, .int .i64 0, .int .i64 0, .int .i64 0, .int .i64 0, .int .i64 0, .int .i64 0, .int .i64 0, .int .i64 0, .int .i64 0, .int .i64 0, .int .i64 0, .int .i64 0] 58)).there w1.heap.size 0 (pX v0 v1 v2 v3 lv wv Sp).toArray.size) := Lib.hid (by rw [pX_asize]; exact PN.out.there)
  have HI2 : Hid ((Tryz.prog.info? 58).map (·.size) = some (pX v0 v1 v2 v3 lv wv Sp).toArray.size) := Lib.hid (by rw [pX_asize]; exact infoP)
  have HRW := Lib.hid ((PN.out.row (B := w1.heap.size) (Nat.le_refl _)).put (ys := (pX v0 v1 v2 v3 lv wv Sp)) (pX_length _ _ _ _ _ _ _))
  have HRB := Lib.hid (setN_below (B := w1.heap.size) (g := w1.heap.size) (Nat.le_refl _) (pX v0 v1 v2 v3 lv wv Sp) 0 (w1.alloc (Obj.cells #[.string ⟨#[]⟩, .slice none 0 0, .slice none 0 0, .int .i64 0, .slice none 0 0, .slice none 0 0, .int .i64 0, .int .i64 0, .int .i64 0, .int .i64 0, .int .i64 0, .int .i64 0, .int .i64 0, .int .i64 0, .int .i64 0, .int .i64 0, .int .i64 0, .int .i64 0, .int .i64 0, .int .i64 0, .int .i64 0, .int .i64 0, .int .i64 0, .int .i64 0, .int .i64 0, .int .i64 0, .int .i64 0, .int .i64 0, .int .i64 0, .int .i64 0, .int .i64 0, .int .i64 0, .int .i64 0, .int .i64 0, .int .i64 0, .int .i64 0, .int .i64 0, .int .i64 0, .int .i64 0, .int .i64 0, .int .i64 0, .int .i64 0, .int .i64 0, .int .i64 0, .int .i64 0, .int .i64 0, .int .i64 0, .int .i64 0, .int .i64 0, .int .i64 0, .int .i64 0, .int .i64 0, .int .i64 0, .int .i64 0] 58)) (one_new2 w1 (Obj.cells #[.string ⟨#[]⟩, .slice none 0 0, .slice none 0 0, .int .i64 0, .slice none 0 0, .slice none 0 0, .int .i64 0, .int .i64 0, .int .i64 0, .int .i64 0, .int .i64 0, .int .i64 0, .int .i64 0, .int .i64 0, .int .i64 0, .int .i64 0, .int .i64 0, .int .i64 0, .int .i64 0, .int .i64 0, .int .i64 0, .int .i64 0, .int .i64 0, .int .i64 0, .int .i64 0, .int .i64 0, .int .i64 0, .int .i64 0, .int .i64 0, .int .i64 0, .int .i64 0, .int .i64 0, .int .i64 0, .int .i64 0, .int .i64 0, .int .i64 0, .int .i64 0, .int .i64 0, .int .i64 0, .int .i64 0, .int .i64 0, .int .i64 0, .int .i64 0, .int .i64 0, .int .i64 0, .int .i64 0, .int .i64 0, .int .i64 0, .int .i64 0, .int .i64 0, .int .i64 0, .int .i64 0, .int .i64 0, .int .i64 0] 58)))
  go_wp2_with ((with_reducible refine (?_ : wpList _ _ _ ({ dst := none, op := Op.store _ _ _, type := _, pos := _, after := _, guard := none } :: _) _ _)); refine wpList_store_mid rfl 58 _ _ rfl w1.heap.size 0 (pX v0 v1 v2 v3 lv wv Sp).toArray rfl rfl HTH.out HI2.out (all_oneCell_toArray HON.out) ?_; refine Hid.out ?_)
  refine Lib.hid ?_
  obtain ⟨W2, hW2⟩ : ∃ W2, (w1.alloc (Obj.cells #[.string ⟨#[]⟩, .slice none 0 0, .slice none 0 0, .int .i64 0, .slice none 0 0, .slice none 0 0, .int .i64 0, .int .i64 0, .int .i64 0, .int .i64 0, .int .i64 0, .int .i64 0, .int .i64 0, .int .i64 0, .int .i64 0, .int .i64 0, .int .i64 0, .int .i64 0, .int .i64 0, .int .i64 0, .int .i64 0, .int .i64 0, .int .i64 0, .int .i64 0, .int .i64 0, .int .i64 0, .int .i64 0, .int .i64 0, .int .i64 0, .int .i64 0, .int .i64 0, .int .i64 0, .int .i64 0, .int .i64 0, .int .i64 0, .int .i64 0, .int .i64 0, .int .i64 0, .int .i64 0, .int .i64 0, .int .i64 0, .int .i64 0, .int .i64 0, .int .i64 0, .int .i64 0, .int .i64 0, .int .i64 0, .int .i64 0, .int .i64 0, .int .i64 0, .int .i64 0, .int .i64 0, .int .i64 0, .int .i64 0] 58)).setCells w1.heap.size 0 (pX v0 v1 v2 v3 lv wv Sp) = W2 := ⟨_, rfl⟩
  (try rw [show ((pX v0 v1 v2 v3 lv wv Sp).toArray).toList = (pX v0 v1 v2 v3 lv wv Sp) from rfl])
  rw [hW2]
  rw [hW2] at HRW HRB
  have PV2 : Hid (PrV W2 w1.heap.size v0 v1 v2 v3 lv wv Sp) := Lib.hid HRW.out.heap
  have HB2 := Lib.hid (HB1.out.trans (HRB.out.mono HB1.out.size))
  have OL2 := Lib.hid (own_low HOL.out HRB.out (Nat.le_refl _))
  have OW2 := Lib.hid (own_low HOW.out HRB.out (Nat.le_refl _))
  clear hW2 HRW HTH PN
  obtain ⟨aw, cw, rfl, _⟩ := own_in OW2.out
  obtain ⟨j0, j1, j2, j3, j4, j5, fz⟩ := PV2.out.cells
  have OW3 := Lib.hid (own_base (B' := w.heap.size) OW2.out HA0.out.size)
  go_wp2_with fail
  go_ret2
  exact ⟨_, rfl, OW3.out, HB2.out⟩
set_option maxHeartbeats 12800000 in
theorem implLinesOfPart_any (v : Value) (c : Cfg) (a : Int) (w : World) (HK : Hid (Kwt w)) (HV : Hid (CfgV w v c)) (HM : Hid (CfgM c)) (hU : Hid (Units w)) (hP : Hid (Pow w)) (hW : Hid (FwW w)) (hD : Hid (Dig w)) : Calls Tryz.prog 15 #[v, .int .i64 a] w (SaysT3p w (.int .i64 (resLinesOfPart1 c a)) (.int .i64 (resLinesOfPart2 c a)) (.bool (resLinesOfPart3 c a))) := by
  obtain ⟨ac, cc, af, cf, rfl, ic, if_⟩ := HV.out
  obtain ⟨s, cs, fs, d⟩ := c
  have hM := HM.out
  unfold CfgM at hM
  simp only at ic if_ hM HV ⊢
  obtain ⟨q0, q1, q2⟩ := hM
  have HI := Lib.hid ic
  have HJ := Lib.hid if_
  have HVB := Lib.hid (fun w' (b : Below w.heap.size w w') => Lib.hid (HV.out.below b))
  have A0 := Lib.hid (Aft.refl w (Obj.cells #[.string s, .slice ac cs.length cc, .slice af fs.length cf, .int .i64 d] 32))
  clear ic if_
  have HH := Lib.hid (fun w' (b : Below w.heap.size w w') => hasIndex_any (.agg #[.string s, .slice ac cs.length cc, .slice af fs.length cf, .int .i64 d]) ⟨s, cs, fs, d⟩ a w' (Lib.hid (HK.out.below b)) (HVB.out w' b) HM)
  cases hh : hasI ⟨s, cs, fs, d⟩ a
  · obtain ⟨x1, x2, x3⟩ := lp_bad hh
    rw [x1, x2, x3]
    rw [hh] at HH
    clear x1 x2 x3 hh
    go_enter Tryz.func15, Tryz.ntmps15
    go_wp2_with (go_at_call 35; refine (HH.out _ A0.out.all.2).mono ?_; rintro e w1 ⟨rfl, b1⟩; have A1 := Lib.hid (A0.out.on b1); clear b1)
    go_ret3
    exact ⟨rfl, A1.out.all.2⟩
  · rw [hh] at HH
    obtain ⟨hg, q, rfl, hq⟩ := has_iff hh
    obtain ⟨x1, x2, x3⟩ := lp_good hh
    have GP := goodP hg
    have hq24 : q < 24 := by
      have h1 : cs.length ≤ 24 := GP.T.n24
      have h2 : q < cs.length := hq
      omega
    have HPD := Lib.hid (fun w' (b : Below w.heap.size w w') => printed_any (.agg #[.string s, .slice ac cs.length cc, .slice af fs.length cf, .int .i64 d]) ⟨s, cs, fs, d⟩ w' (Lib.hid (HK.out.below b)) (HVB.out w' b) HM (Lib.hid (hU.out.below b)) (Lib.hid (hP.out.below b)) (Lib.hid (hW.out.below b)) (Lib.hid (hD.out.below b)))
    unfold SaysPd at HPD
    have hz1 : 1 ≤ sizeP cs 9 q := by
      simp only at hq
      show 1 ≤ (if hasK cs (cs.getD q cls0).i then 2 + ((kids cs (cs.getD q cls0).i).map (sizeP cs 8)).sum else 1)
      split <;> omega
    have HFN : Hid (∀ Sp : Nat → Nat × Nat, (∀ q : Nat, hasI ⟨s, cs, fs, d⟩ (q : Int) = true → Sp q = finP cs q) → ((Sp q).1 : Int) = (lineP cs 9 q : Int) ∧ ((Sp q).2 : Int) = (lineP cs 9 q : Int) + (sizeP cs 9 q : Int) - 1) := Lib.hid (fun Sp h => by
      rw [h q hh]
      refine ⟨rfl, ?_⟩
      show ((lineP cs 9 q + sizeP cs 9 q - 1 : Nat) : Int) = _
      omega)
    rw [x1, x2, x3]
    simp only at HPD
    generalize (lineP cs 9 q : Int) = r1 at HFN ⊢
    generalize r1 + (sizeP cs 9 q : Int) - 1 = r2 at HFN ⊢
    generalize linL ⟨s, cs, fs, d⟩ = LL at HPD
    generalize resWalkClasses1 ⟨s, cs, fs, d⟩ = WW at HPD
    generalize goodC ⟨s, cs, fs, d⟩ = bb at HPD
    clear x1 x2 x3 hh hg GP hz1
    have hqi : (q : Int) < 24 := by omega
    have hqi0 : (0 : Int) ≤ q := by omega
    have hqi1 : (q : Int) ≤ 24 := by omega
    go_enter Tryz.func15, Tryz.ntmps15
    go_wp2_with (go_at_call 35; refine (HH.out _ A0.out.all.2).mono ?_; rintro e w0 ⟨rfl, b1⟩; have A1 := Lib.hid (A0.out.on b1); obtain ⟨c0, c1, c2, c3, _⟩ := A1.out.all.1; clear b1; refine Hid.out ?_)
    refine Lib.hid ?_
    have HA0 := Lib.hid A1.out.all.2
    go_wp2_with (go_at_call 28; refine (HPD.out _ HA0.out).mono ?_; rintro e w1 ⟨v0, v1, v2, v3, lv, wv, Sp, rfl, hon, hol, how, hsp, b⟩; have HSP := Lib.hid (HFN.out Sp hsp); have HON := Lib.hid hon; have HOL := Lib.hid hol; have HOW := Lib.hid how; have HB1 := Lib.hid (HA0.out.trans (b.mono HA0.out.size)); clear hon hol how b hsp; refine Hid.out ?_)
    refine Lib.hid ?_
    have PN : Hid (PrV (w1.alloc (Obj.cells #[.string ⟨#[]⟩, .slice none 0 0, .slice none 0 0, .int .i64 0, .slice none 0 0, .slice none 0 0, .int .i64 0, .int .i64 0, .int .i64 0, .int .i64 0, .int .i64 0, .int .i64 0, .int .i64 0, .int .i64 0, .int .i64 0, .int .i64 0, .int .i64 0, .int .i64 0, .int .i64 0, .int .i64 0, .int .i64 0, .int .i64 0, .int .i64 0, .int .i64 0, .int .i64 0, .int .i64 0, .int .i64 0, .int .i64 0, .int .i64 0, .int .i64 0, .int .i64 0, .int .i64 0, .int .i64 0, .int .i64 0, .int .i64 0, .int .i64 0, .int .i64 0, .int .i64 0, .int .i64 0, .int .i64 0, .int .i64 0, .int .i64 0, .int .i64 0, .int .i64 0, .int .i64 0, .int .i64 0, .int .i64 0, .int .i64 0, .int .i64 0, .int .i64 0, .int .i64 0, .int .i64 0, .int .i64 0, .int .i64 0] 58)) w1.heap.size (.string ⟨#[]⟩) (.slice none 0 0) (.slice none 0 0) (.int .i64 0) (.slice none 0 0) (.slice none 0 0) sp0) := Lib.hid (by
      unfold PrV
      rw [pX_zero]
      exact Array.getElem?_push_size)
    have HTH : Hid ((w1.alloc (Obj.cells #[.string ⟨#[]⟩, .slice none 0 0, .slice none 0 0, .int .i64 0, .slice none 0 0, .slice none 0 0, .int .i64 0, .int .i64 0, .int .i64 0, .int .i64 0, .int .i64 0, .int .i64 0, .int .i64 0, .int .i64 0, .int .i64 0, .int .i64 0, .int .i64 0, .int .i64 0, .int .i64 0, .int .i64 0, .int .i64 0, .int .i64 0, .int .i64 0, .int .i64 0, .int .i64 0, .int .i64 0, .int .i64 0, .int .i64 0, .int .i64 0, .int .i64 0, .int .i64 0, .int .i64 0, .int .i64 0, .int .i64 0, .int .i64 0, .int .i64 0, .int .i64 0, .int .i64 0, .int .i64 0, .int .i64 0, .int .i64 0, .int .i64 0, .int .i64 0, .int .i64 0, .int .i64 0, .int .i64 0, .int .i64 0, .int .i64 0, .int .i64 0, .int .i64 0, .int .i64 0, .int .i64 0, .int .i64 0, .int .i64 0] 58)).there w1.heap.size 0 (pX v0 v1 v2 v3 lv wv Sp).toArray.size) := Lib.hid (by rw [pX_asize]; exact PN.out.there)
    have HI2 : Hid ((Tryz.prog.info? 58).map (·.size) = some (pX v0 v1 v2 v3 lv wv Sp).toArray.size) := Lib.hid (by rw [pX_asize]; exact infoP)
    have HRW := Lib.hid ((PN.out.row (B := w1.heap.size) (Nat.le_refl _)).put (ys := (pX v0 v1 v2 v3 lv wv Sp)) (pX_length _ _ _ _ _ _ _))
    have HRB := Lib.hid (setN_below (B := w1.heap.size) (g := w1.heap.size) (Nat.le_refl _) (pX v0 v1 v2 v3 lv wv Sp) 0 (w1.alloc (Obj.cells #[.string ⟨#[]⟩, .slice none 0 0, .slice none 0 0, .int .i64 0, .slice none 0 0, .slice none 0 0, .int .i64 0, .int .i64 0, .int .i64 0, .int .i64 0, .int .i64 0, .int .i64 0, .int .i64 0, .int .i64 0, .int .i64 0, .int .i64 0, .int .i64 0, .int .i64 0, .int .i64 0, .int .i64 0, .int .i64 0, .int .i64 0, .int .i64 0, .int .i64 0, .int .i64 0, .int .i64 0, .int .i64 0, .int .i64 0, .int .i64 0, .int .i64 0, .int .i64 0, .int .i64 0, .int .i64 0, .int .i64 0, .int .i64 0, .int .i64 0, .int .i64 0, .int .i64 0, .int .i64 0, .int .i64 0, .int .i64 0, .int .i64 0, .int .i64 0, .int .i64 0, .int .i64 0, .int .i64 0, .int .i64 0, .int .i64 0, .int .i64 0, .int .i64 0, .int .i64 0, .int .i64 0, .int .i64 0, .int .i64 0] 58)) (one_new2 w1 (Obj.cells #[.string ⟨#[]⟩, .slice none 0 0, .slice none 0 0, .int .i64 0, .slice none 0 0, .slice none 0 0, .int .i64 0, .int .i64 0, .int .i64 0, .int .i64 0, .int .i64 0, .int .i64 0, .int .i64 0, .int .i64 0, .int .i64 0, .int .i64 0, .int .i64 0, .int .i64 0, .int .i64 0, .int .i64 0, .int .i64 0, .int .i64 0, .int .i64 0, .int .i64 0, .int .i64 0, .int .i64 0, .int .i64 0, .int .i64 0, .int .i64 0, .int .i64 0, .int .i64 0, .int .i64 0, .int .i64 0, .int .i64 0, .int .i64 0, .int .i64 0, .int .i64 0, .int .i64 0, .int .i64 0, .int .i64 0, .int .i64 0, .int .i64 0, .int .i64 0, .int .i64 0, .int .i64 0, .int .i64 0, .int .i64 0, .int .i64 0, .int .i64 0, .int .i64 0, .int .i64 0, .int .i64 0, .int .i64 0, .int .i64 0] 58)))
    go_wp2_with ((with_reducible refine (?_ : wpList _ _ _ ({ dst := none, op := Op.store _ _ _, type := _, pos := _, after := _, guard := none } :: _) _ _)); refine wpList_store_mid rfl 58 _ _ rfl w1.heap.size 0 (pX v0 v1 v2 v3 lv wv Sp).toArray rfl rfl HTH.out HI2.out (all_oneCell_toArray HON.out) ?_; refine Hid.out ?_)
    refine Lib.hid ?_
    obtain ⟨W2, hW2⟩ : ∃ W2, (w1.alloc (Obj.cells #[.string ⟨#[]⟩, .slice none 0 0, .slice none 0 0, .int .i64 0, .slice none 0 0, .slice none 0 0, .int .i64 0, .int .i64 0, .int .i64 0, .int .i64 0, .int .i64 0, .int .i64 0, .int .i64 0, .int .i64 0, .int .i64 0, .int .i64 0, .int .i64 0, .int .i64 0, .int .i64 0, .int .i64 0, .int .i64 0, .int .i64 0, .int .i64 0, .int .i64 0, .int .i64 0, .int .i64 0, .int .i64 0, .int .i64 0, .int .i64 0, .int .i64 0, .int .i64 0, .int .i64 0, .int .i64 0, .int .i64 0, .int .i64 0, .int .i64 0, .int .i64 0, .int .i64 0, .int .i64 0, .int .i64 0, .int .i64 0, .int .i64 0, .int .i64 0, .int .i64 0, .int .i64 0, .int .i64 0, .int .i64 0, .int .i64 0, .int .i64 0, .int .i64 0, .int .i64 0, .int .i64 0, .int .i64 0, .int .i64 0] 58)).setCells w1.heap.size 0 (pX v0 v1 v2 v3 lv wv Sp) = W2 := ⟨_, rfl⟩
    (try rw [show ((pX v0 v1 v2 v3 lv wv Sp).toArray).toList = (pX v0 v1 v2 v3 lv wv Sp) from rfl])
    rw [hW2]
    rw [hW2] at HRW HRB
    have PV2 : Hid (PrV W2 w1.heap.size v0 v1 v2 v3 lv wv Sp) := Lib.hid HRW.out.heap
    have HB2 := Lib.hid (HB1.out.trans (HRB.out.mono HB1.out.size))
    have OL2 := Lib.hid (own_low HOL.out HRB.out (Nat.le_refl _))
    have OW2 := Lib.hid (own_low HOW.out HRB.out (Nat.le_refl _))
    clear hW2 HRW HTH PN
    obtain ⟨s0, s1⟩ := PV2.out.span q hq24
    rw [HSP.out.1] at s0
    rw [HSP.out.2] at s1
    go_wp2_with fail
    go_quiet (fail)
    go_wp2_with fail
    go_ret3
    exact ⟨rfl, below_drewN HB2.out _⟩
set_option maxHeartbeats 3200000 in
theorem implLineOfClass_any (v : Value) (c : Cfg) (a : Int) (w : World) (HK : Hid (Kwt w)) (HV : Hid (CfgV w v c)) (HM : Hid (CfgM c)) (hU : Hid (Units w)) (hP : Hid (Pow w)) (hW : Hid (FwW w)) (hD : Hid (Dig w)) : Calls Tryz.prog 13 #[v, .int .i64 a] w (SaysT2 w (.int .i64 (resLineOfClass1 c a)) (.bool (resLineOfClass2 c a))) := by
  obtain ⟨ac, cc, af, cf, rfl, ic, if_⟩ := HV.out
  obtain ⟨s, cs, fs, d⟩ := c
  have hM := HM.out
  unfold CfgM at hM
  simp only at ic if_ hM HV ⊢
  obtain ⟨q0, q1, q2⟩ := hM
  have HI := Lib.hid ic
  have HJ := Lib.hid if_
  have HVB := Lib.hid (fun w' (b : Below w.heap.size w w') => Lib.hid (HV.out.below b))
  have A0 := Lib.hid (Aft.refl w (Obj.cells #[.string s, .slice ac cs.length cc, .slice af fs.length cf, .int .i64 d] 32))
  clear ic if_
  have HLP := Lib.hid (fun w' (b : Below w.heap.size w w') => implLinesOfPart_any (.agg #[.string s, .slice ac cs.length cc, .slice af fs.length cf, .int .i64 d]) ⟨s, cs, fs, d⟩ a w' (Lib.hid (HK.out.below b)) (HVB.out w' b) HM (Lib.hid (hU.out.below b)) (Lib.hid (hP.out.below b)) (Lib.hid (hW.out.below b)) (Lib.hid (hD.out.below b)))
  rw [show resLineOfClass1 ⟨s, cs, fs, d⟩ a = resLinesOfPart1 ⟨s, cs, fs, d⟩ a from rfl, show resLineOfClass2 ⟨s, cs, fs, d⟩ a = resLinesOfPart3 ⟨s, cs, fs, d⟩ a from rfl]
  generalize resLinesOfPart1 ⟨s, cs, fs, d⟩ a = r1 at HLP ⊢
  generalize resLinesOfPart2 ⟨s, cs, fs, d⟩ a = r2 at HLP
  generalize resLinesOfPart3 ⟨s, cs, fs, d⟩ a = r3 at HLP ⊢
  go_enter Tryz.func13, Tryz.ntmps13
  go_wp2_with (go_at_call 15; refine (HLP.out _ A0.out.all.2).mono ?_; rintro e w1 ⟨rfl, b1⟩; have A1 := Lib.hid (A0.out.on b1); clear b1)
  go_ret2
  exact ⟨rfl, A1.out.all.2⟩
end Go.Proofs.YtkpocljlmbihcaaGreatDoor

/- A world for the witnesses of the laws: the tables that the rows list, in their places. -/
namespace Go.Proofs.YtkpocljlmbihcaaGreatDoor
set_option maxRecDepth 100000
open Go.RowKit

def setTab (h : Array Obj) (g : Nat) (a : Array Value) : Array Obj := h.modify g fun
  | .cells _ t frozen => .cells a t frozen
  | o => o
noncomputable def laidG (os : Os) : World := { World.holding Tryz.prog os ⟨#[], #[], []⟩ with heap := setTab (setTab (setTab (setTab (setTab (setTab (setTab ((World.holding Tryz.prog os ⟨#[], #[], []⟩).heap) 6 #[.int .u8 0, .int .u8 1, .int .u8 28, .int .u8 2, .int .u8 29, .int .u8 14, .int .u8 24, .int .u8 3, .int .u8 30, .int .u8 22, .int .u8 20, .int .u8 15, .int .u8 25, .int .u8 17, .int .u8 4, .int .u8 8, .int .u8 31, .int .u8 27, .int .u8 13, .int .u8 23, .int .u8 21, .int .u8 19, .int .u8 16, .int .u8 7, .int .u8 26, .int .u8 12, .int .u8 18, .int .u8 6, .int .u8 11, .int .u8 5, .int .u8 10, .int .u8 9]) 7 #[.int .u8 0, .int .u8 1, .int .u8 56, .int .u8 2, .int .u8 57, .int .u8 49, .int .u8 28, .int .u8 3, .int .u8 61, .int .u8 58, .int .u8 42, .int .u8 50, .int .u8 38, .int .u8 29, .int .u8 17, .int .u8 4, .int .u8 62, .int .u8 47, .int .u8 59, .int .u8 36, .int .u8 45, .int .u8 43, .int .u8 51, .int .u8 22, .int .u8 53, .int .u8 39, .int .u8 33, .int .u8 30, .int .u8 24, .int .u8 18, .int .u8 12, .int .u8 5, .int .u8 63, .int .u8 55, .int .u8 48, .int .u8 27, .int .u8 60, .int .u8 41, .int .u8 37, .int .u8 16, .int .u8 46, .int .u8 35, .int .u8 44, .int .u8 21, .int .u8 52, .int .u8 32, .int .u8 23, .int .u8 11, .int .u8 54, .int .u8 26, .int .u8 40, .int .u8 15, .int .u8 34, .int .u8 20, .int .u8 31, .int .u8 10, .int .u8 25, .int .u8 14, .int .u8 19, .int .u8 9, .int .u8 13, .int .u8 8, .int .u8 7, .int .u8 6]) 4 #[.int .u64 1, .int .u64 10, .int .u64 100, .int .u64 1000, .int .u64 10000, .int .u64 100000, .int .u64 1000000, .int .u64 10000000, .int .u64 100000000, .int .u64 1000000000, .int .u64 10000000000, .int .u64 100000000000, .int .u64 1000000000000, .int .u64 10000000000000, .int .u64 100000000000000, .int .u64 1000000000000000, .int .u64 10000000000000000, .int .u64 100000000000000000, .int .u64 1000000000000000000, .int .u64 10000000000000000000]) 5 #[.string ⟨#[48, 49, 50, 51, 52, 53, 54, 55, 56, 57]⟩, .string ⟨#[48, 49, 50, 51, 52, 53, 54, 55, 56, 57, 97, 98, 99, 100, 101, 102]⟩]) 2 #[.string ⟨#[109]⟩, .int .i64 1000000, .string ⟨#[107]⟩, .int .i64 1000]) 1 #[.string ⟨#[113, 100, 105, 115, 99]⟩, .string ⟨#[100, 101, 102, 97, 117, 108, 116]⟩, .string ⟨#[99, 108, 97, 115, 115]⟩, .string ⟨#[114, 97, 116, 101]⟩, .string ⟨#[99, 101, 105, 108]⟩, .string ⟨#[98, 117, 114, 115, 116]⟩, .string ⟨#[99, 98, 117, 114, 115, 116]⟩, .string ⟨#[112, 114, 105, 111]⟩, .string ⟨#[108, 105, 109, 105, 116]⟩, .string ⟨#[102, 105, 108, 116, 101, 114]⟩, .string ⟨#[115, 111, 117, 114, 99, 101]⟩, .string ⟨#[100, 101, 115, 116]⟩, .string ⟨#[112, 111, 114, 116]⟩, .string ⟨#[109, 97, 114, 107]⟩]) 0 #[.string ⟨#[115, 111, 117, 114, 99, 101]⟩, .string ⟨#[100, 101, 115, 116]⟩, .string ⟨#[112, 111, 114, 116]⟩, .string ⟨#[109, 97, 114, 107]⟩] }
end Go.Proofs.YtkpocljlmbihcaaGreatDoor

/- The table of the fields' names out of the rows' conditions. -/
namespace Go.Proofs.YtkpocljlmbihcaaGreatDoor
set_option maxRecDepth 100000
open Go.RowKit Go.ChangeShapes Go.WideShapes Go.ChangeAt
set_option linter.unusedVariables false

theorem gFww : Tryz.prog.globalNamed "loop.example/g00838/impl.fieldWords" = some 0 := by kernel_rfl
theorem tFww : (Tryz.prog.globals[0]?).map (·.type) = some 120 := by kernel_rfl
theorem fww_of_head {W : World} {r : List (String × DataW Unit)} (h : laidMet Tryz.prog (("loop.example/g00838/impl.fieldWords", Rows.laid_loop_example_g00838_impl_fieldWords) :: r) W) : FwW W := by
  obtain ⟨ps, ⟨g', t', cs, fuel, p, q, hg', ht', hvar, hd, _, _⟩, _⟩ := h
  obtain rfl := Option.some.inj (gFww.symm.trans hg')
  obtain rfl := Option.some.inj (tFww.symm.trans ht')
  have hcs := cells_of_texts (zs := fldA.map fun s => s.data.toList) Tryz.underlying120 Tryz.underlying9 (by kernel_rfl) (by kernel_rfl) (show DataW.trod _ Tryz.prog W _ _ _ fuel 120 cs.toList = some (.agg ((fldA.map fun s => s.data.toList).map fun z => .lit (.string z)), p) from hd)
  obtain ⟨t, fr, hb⟩ := block_of_var gFww hvar
  have hb2 : W.heap[0]? = some (.cells (fldA.map Value.string).toArray t fr) := by
    rw [hb, show cs = (fldA.map Value.string).toArray from Array.toList_inj.1 (by rw [hcs]; rfl)]
  intro f hf
  rcases (show f = 0 ∨ f = 1 ∨ f = 2 ∨ f = 3 by omega) with rfl | rfl | rfl | rfl <;> simp [World.cell?, hb2, fldA]
theorem trodVars_four {H : Type} {enc : TypeId × Value → H} {P : Program} {w : World} {spare : Nat → Bool} {n0 n1 n2 n3 : String} {gs : List (DataW H)} {ps : List MemPlace} (h : DataW.TrodVars enc P w spare [n0, n1, n2, n3] gs ps) :
    ∃ d0 d1 d2 d3, gs = [d0, d1, d2, d3] := by
  cases gs with
  | nil => simp [DataW.TrodVars] at h
  | cons d ds =>
    obtain ⟨g0, t0, cs0, f0, p0, q0, h1, h2, h3, h4, hs, e⟩ := h
    cases ds with
    | nil => simp [DataW.TrodVars] at hs
    | cons d1 ds =>
      obtain ⟨g1, t1, cs1, f1, p1, q1, _, _, _, _, hs, _⟩ := hs
      obtain ⟨g2, t2, cs2, f2, d2, p2, g3, t3, cs3, f3, d3, p3, rfl, _⟩ := trodVars_two hs
      exact ⟨d, d1, d2, d3, rfl⟩
end Go.Proofs.YtkpocljlmbihcaaGreatDoor

/- Configurations made of arguments; configurations compared. -/
namespace Go.Proofs.YtkpocljlmbihcaaGreatDoor
set_option maxRecDepth 100000
open Go.RowKit
set_option linter.unusedVariables false

theorem three_old (w : World) (o o' o'' : Obj) : Below w.heap.size w (((w.alloc o).alloc o').alloc o'') :=
  (((Below.refl _ _).alloc (Nat.le_refl _) _).alloc (by simp) _).alloc (by simp; omega) _
theorem three_new {w w1 : World} {o o' o'' : Obj} (b : Below (((w.alloc o).alloc o').alloc o'').heap.size (((w.alloc o).alloc o').alloc o'') w1) : Below w.heap.size w w1 ∧ w.heap.size < w1.heap.size ∧ w.heap.size + 1 < w1.heap.size ∧ w.heap.size + 1 + 1 < w1.heap.size := by
  have hs := b.size
  simp at hs
  exact ⟨(three_old w o o' o'').trans (b.mono (by simp; omega)), by omega, by omega, by omega⟩
set_option maxHeartbeats 3200000 in
theorem toConfig_any (v : Value) (c : Cfg) (w : World) (HA : Hid (ArgCfg w v c)) (HM : Hid (CfgM c)) :
    Calls Tryz.prog 9 #[v] w (SaysCfgN w c) := by
  obtain ⟨ac, cc, af, cf, rfl, m0, m1, m2, ic, if_⟩ := HA.out
  obtain ⟨s, cs, fs, d⟩ := c
  obtain ⟨n, hn⟩ : ∃ n, cs.length = n := ⟨_, rfl⟩
  obtain ⟨m, hm⟩ : ∃ m, fs.length = m := ⟨_, rfl⟩
  have HN := Lib.hid hn
  have HMM := Lib.hid hm
  have hM := HM.out
  unfold CfgM at hM
  simp only [hn, hm] at m1 m2 ic if_ hM ⊢
  obtain ⟨_, q1, q2⟩ := hM
  have IC := Lib.hid ic
  have IF := Lib.hid if_
  have HC : Hid (∀ w, ArgX w ac n (clsCs cs) → Calls Tryz.prog 26 #[.slice ac n cc] w (SaysClassS w cs)) := Lib.hid (fun w h => toClassS_any ac n cc cs w (Lib.hid h) (Lib.hid hn) q1)
  have HF : Hid (∀ w, ArgX w af m (fltCs fs) → Calls Tryz.prog 27 #[.slice af m cf] w (SaysFilterS w fs)) := Lib.hid (fun w h => toFilterS_any af m cf fs w (Lib.hid h) (Lib.hid hm) q2)
  unfold SaysClassS at HC
  unfold SaysFilterS at HF
  rw [hn] at HC
  rw [hm] at HF
  clear HA hn hm ic if_ m0 m1 m2 HM
  go_enter Tryz.func9, Tryz.ntmps9
  go_wp2_with (go_at_call 26; refine (HC.out _ (IC.out.below (three_old _ _ _ _))).mono ?_; rintro e w1 ⟨rfl, b1, o1⟩; have B1 := Lib.hid (three_new b1).1; obtain ⟨hz1, hz2, hz3⟩ := (three_new b1).2; obtain ⟨hc1, hf1⟩ := bcell b1; have O1 := Lib.hid o1; clear b1 o1)
  go_wp2_with (go_at_call 27; refine (HF.out _ (IF.out.below (B1.out.setCell (Nat.le_add_right _ (1 + 1)) _))).mono ?_; rintro e w2 ⟨rfl, b2, o2⟩; obtain ⟨hc2, hf2⟩ := bcell b2; have B2 := Lib.hid b2; have O2 := Lib.hid o2; clear b2 o2)
  have F2 : Four w2 (w.heap.size + 1) := by
    refine ⟨?_, ?_, ?_, ?_⟩ <;> rw [hc2 _ _ (by simpa using hz2)] <;> rw [World.cell?_setCell_other _ _ _ _ (by simp)] <;> rw [hc1 _ _ (by simp)] <;> simp [go_sem]
  obtain ⟨r0, r1, r2, r3⟩ := read4 (four_set (four_set F2 ⟨w.heap.size + 1 + 1, 2, none⟩ (.slice (some ⟨w1.heap.size, 0, none⟩) m m)) ⟨w.heap.size + 1 + 1, 3, none⟩ (.int .i64 d)) (.string s) (.slice (some ⟨w.heap.size + 1 + 1 + 1, 0, none⟩) n n) (.slice (some ⟨w1.heap.size, 0, none⟩) m m) (.int .i64 d) _ rfl
  have BF := (set4 (((B1.out.setCell (p := ⟨w.heap.size + 1 + 1, 1, none⟩) (Nat.le_add_right _ (1 + 1)) (.slice (some ⟨w.heap.size + 1 + 1 + 1, 0, none⟩) n n)).trans (B2.out.mono (by simpa using Nat.le_of_lt hz1)) |>.setCell (p := ⟨w.heap.size + 1 + 1, 2, none⟩) (Nat.le_add_right _ (1 + 1)) (.slice (some ⟨w1.heap.size, 0, none⟩) m m)).setCell (p := ⟨w.heap.size + 1 + 1, 3, none⟩) (Nat.le_add_right _ (1 + 1)) (.int .i64 d)) (w.heap.size + 1) (Nat.le_succ _) (.string s) (.slice (some ⟨w.heap.size + 1 + 1 + 1, 0, none⟩) n n) (.slice (some ⟨w1.heap.size, 0, none⟩) m m) (.int .i64 d))
  have o1 := O1.out
  have o2 := O2.out
  have e1 : (((w.alloc (Obj.cells #[Value.string s, Value.slice ac n cc, Value.slice af m cf, Value.int IntKind.i64 d] 25)).alloc (Obj.cells #[Value.string { data := #[] }, Value.slice none 0 0, Value.slice none 0 0, Value.int IntKind.i64 0] 32)).alloc (Obj.cells #[Value.string s, Value.slice none 0 0, Value.slice none 0 0, Value.int IntKind.i64 0] 32)).heap.size = w.heap.size + 1 + 1 + 1 := by simp
  rw [e1] at o1
  rw [Go.Deep.nblk_setCell] at o2
  have p1 := own_base (B' := w.heap.size) (own_set (own_set (own_set (own_set (own_set (own_set (own_low (own_set o1 (p := ⟨w.heap.size + 1 + 1, 1, none⟩) (by show w.heap.size + 1 + 1 < _; omega) (.slice (some ⟨w.heap.size + 1 + 1 + 1, 0, none⟩) n n)) B2.out (Nat.le_refl _)) (p := ⟨w.heap.size + 1 + 1, 2, none⟩) (by show w.heap.size + 1 + 1 < _; omega) (.slice (some ⟨w1.heap.size, 0, none⟩) m m)) (p := ⟨w.heap.size + 1 + 1, 3, none⟩) (by show w.heap.size + 1 + 1 < _; omega) (.int .i64 d)) (p := ⟨w.heap.size + 1, 0, none⟩) (by show w.heap.size + 1 < _; omega) (.string s)) (p := ⟨w.heap.size + 1, 1, none⟩) (by show w.heap.size + 1 < _; omega) (.slice (some ⟨w.heap.size + 1 + 1 + 1, 0, none⟩) n n)) (p := ⟨w.heap.size + 1, 2, none⟩) (by show w.heap.size + 1 < _; omega) (.slice (some ⟨w1.heap.size, 0, none⟩) m m)) (p := ⟨w.heap.size + 1, 3, none⟩) (by show w.heap.size + 1 < _; omega) (.int .i64 d)) (by omega)
  have p2 := own_base (B' := w.heap.size) (own_set (own_set (own_set (own_set (own_set (own_set o2 (p := ⟨w.heap.size + 1 + 1, 2, none⟩) (by show w.heap.size + 1 + 1 < _; omega) (.slice (some ⟨w1.heap.size, 0, none⟩) m m)) (p := ⟨w.heap.size + 1 + 1, 3, none⟩) (by show w.heap.size + 1 + 1 < _; omega) (.int .i64 d)) (p := ⟨w.heap.size + 1, 0, none⟩) (by show w.heap.size + 1 < _; omega) (.string s)) (p := ⟨w.heap.size + 1, 1, none⟩) (by show w.heap.size + 1 < _; omega) (.slice (some ⟨w.heap.size + 1 + 1 + 1, 0, none⟩) n n)) (p := ⟨w.heap.size + 1, 2, none⟩) (by show w.heap.size + 1 < _; omega) (.slice (some ⟨w1.heap.size, 0, none⟩) m m)) (p := ⟨w.heap.size + 1, 3, none⟩) (by show w.heap.size + 1 < _; omega) (.int .i64 d)) (Nat.le_of_lt hz1)
  exact bodyPost_ret (v := .agg #[.string s, .slice (some ⟨w.heap.size + 1 + 1 + 1, 0, none⟩) n n, .slice (some ⟨w1.heap.size, 0, none⟩) m m, .int .i64 d]) (by simp [results, Tryz.results9, go_sem, r0, r1, r2, r3]) rfl ⟨_, rfl, ⟨_, _, rfl, by rw [HN.out]; exact p1, by rw [HMM.out]; exact p2, fun g h h' => by have hlt : w.heap.size + 1 + 1 + 1 < w1.heap.size := (World.ownsRow.lt o1 _ rfl).2; simp [Value.ownBlock] at h h'; omega⟩, BF⟩
set_option maxHeartbeats 1600000 in
theorem eqClass_same (x : Cls) (w : World) :
    Calls Tryz.prog 57 #[clsV x, clsV x] w (SaysB w true) := by
  obtain ⟨xi, xp, xr, xe, xb, xu, xo, xl⟩ := x
  unfold clsV
  simp only
  go_enter Tryz.func57, Tryz.ntmps57
  go_wp2
  go_ret
  exact ⟨rfl, two_new _ _ _⟩
def EqClassRel (w : World) (n : Nat) (i : Value) (wr : World) : Prop := ∃ k : Nat, k ≤ n ∧ i = .int .i64 k ∧ Below w.heap.size w wr
theorem eqClassS_none (a b : Option Addr) (ca cb : Nat) (w : World) :
    Calls Tryz.prog 30 #[.slice a 0 ca, .slice b 0 cb] w (SaysB w true) := by
  go_enter Tryz.func30, Tryz.ntmps30
  go_wp2
  refine wp_loop_rounds 1 ?_
  rw [rounds_succ]
  go_wp2
  go_ret
  exact ⟨rfl, Below.refl _ _⟩
set_option maxHeartbeats 3200000 in
theorem eqClassS_go (ga gb n ca cb : Nat) (l : List Cls) (w : World) (HA : Hid (AtC w ga (clsCs l))) (HB : Hid (AtC w gb (clsCs l))) (hn : Hid (l.length = n)) (hga : ga < w.heap.size) (hgb : gb < w.heap.size) (hm : n ≤ 1048576) :
    Calls Tryz.prog 30 #[.slice (some ⟨ga, 0, none⟩) n ca, .slice (some ⟨gb, 0, none⟩) n cb] w (SaysB w true) := by
  go_enter Tryz.func30, Tryz.ntmps30
  go_wp2_with fail
  go_loopw [5] (fun i wr => EqClassRel w n i wr) (fun i _ => n - (intOf i).toNat)
  case atStart => exact ⟨0, Nat.zero_le _, rfl, Below.refl _ _⟩
  case round =>
    obtain ⟨k, hk, rfl, hb⟩ := hrel
    have HR := Lib.hid hb
    by_cases hlt : k < n
    · obtain ⟨x, hx⟩ : ∃ x, l.getD k cls0 = x := ⟨_, rfl⟩
      obtain ⟨a0, a1, a2, a3, a4, a5, a6, a7⟩ := (HA.out.below hb hga).cls k (by rw [hn.out]; exact hlt) x hx
      obtain ⟨b0, b1, b2, b3, b4, b5, b6, b7⟩ := (HB.out.below hb hgb).cls k (by rw [hn.out]; exact hlt) x hx
      have HS := Lib.hid (fun w => eqClass_same x w)
      obtain ⟨xi, xp, xr, xe, xb, xu, xo, xl⟩ := x
      unfold clsV at HS
      simp only at HS a0 a1 a2 a3 a4 a5 a6 a7 b0 b1 b2 b3 b4 b5 b6 b7
      clear hb hx
      go_wp2_with fail
      go_region_with (go_at_call 57; refine (HS.out _).mono ?_; rintro e w1 ⟨rfl, b1⟩; have B1 := Lib.hid b1; clear b1)
      all_goals
        go_wp2
        go_roundw
        case rel => exact ⟨k + 1, by omega, by go_num, (show Below w.heap.size w wr.drew from below_drewN HR.out 1).trans (B1.out.mono (show w.heap.size ≤ wr.heap.size from HR.out.size))⟩
        case measure => simp [intOf]; omega
    · go_wp2_with fail
      go_ret
      exact ⟨rfl, HR.out⟩
theorem eqClassS_any (a b : Option Addr) (n ca cb : Nat) (l : List Cls) (w : World) (HA : Hid (InX w a n (clsCs l))) (HB : Hid (InX w b n (clsCs l))) (hn : Hid (l.length = n)) (hm : n ≤ 1048576) :
    Calls Tryz.prog 30 #[.slice a n ca, .slice b n cb] w (SaysB w true) := by
  rcases Nat.eq_zero_or_pos n with h0 | h0
  · subst h0; exact eqClassS_none a b ca cb w
  · obtain ⟨ga, rfl, ha, hga⟩ := HA.out h0
    obtain ⟨gb, rfl, hb, hgb⟩ := HB.out h0
    exact eqClassS_go ga gb n ca cb l w ha hb hn hga hgb hm
set_option maxHeartbeats 1600000 in
theorem eqFilter_same (x : Flt) (w : World) :
    Calls Tryz.prog 58 #[fltV x, fltV x] w (SaysB w true) := by
  obtain ⟨xo, xf, xm, xv, xt⟩ := x
  unfold fltV
  simp only
  go_enter Tryz.func58, Tryz.ntmps58
  go_wp2
  go_ret
  exact ⟨rfl, two_new _ _ _⟩
def EqFilterRel (w : World) (n : Nat) (i : Value) (wr : World) : Prop := ∃ k : Nat, k ≤ n ∧ i = .int .i64 k ∧ Below w.heap.size w wr
theorem eqFilterS_none (a b : Option Addr) (ca cb : Nat) (w : World) :
    Calls Tryz.prog 31 #[.slice a 0 ca, .slice b 0 cb] w (SaysB w true) := by
  go_enter Tryz.func31, Tryz.ntmps31
  go_wp2
  refine wp_loop_rounds 1 ?_
  rw [rounds_succ]
  go_wp2
  go_ret
  exact ⟨rfl, Below.refl _ _⟩
set_option maxHeartbeats 3200000 in
theorem eqFilterS_go (ga gb n ca cb : Nat) (l : List Flt) (w : World) (HA : Hid (AtC w ga (fltCs l))) (HB : Hid (AtC w gb (fltCs l))) (hn : Hid (l.length = n)) (hga : ga < w.heap.size) (hgb : gb < w.heap.size) (hm : n ≤ 1048576) :
    Calls Tryz.prog 31 #[.slice (some ⟨ga, 0, none⟩) n ca, .slice (some ⟨gb, 0, none⟩) n cb] w (SaysB w true) := by
  go_enter Tryz.func31, Tryz.ntmps31
  go_wp2_with fail
  go_loopw [5] (fun i wr => EqFilterRel w n i wr) (fun i _ => n - (intOf i).toNat)
  case atStart => exact ⟨0, Nat.zero_le _, rfl, Below.refl _ _⟩
  case round =>
    obtain ⟨k, hk, rfl, hb⟩ := hrel
    have HR := Lib.hid hb
    by_cases hlt : k < n
    · obtain ⟨x, hx⟩ : ∃ x, l.getD k flt0 = x := ⟨_, rfl⟩
      obtain ⟨a0, a1, a2, a3, a4⟩ := (HA.out.below hb hga).flt k (by rw [hn.out]; exact hlt) x hx
      obtain ⟨b0, b1, b2, b3, b4⟩ := (HB.out.below hb hgb).flt k (by rw [hn.out]; exact hlt) x hx
      have HS := Lib.hid (fun w => eqFilter_same x w)
      obtain ⟨xo, xf, xm, xv, xt⟩ := x
      unfold fltV at HS
      simp only at HS a0 a1 a2 a3 a4 b0 b1 b2 b3 b4
      clear hb hx
      go_wp2_with fail
      go_region_with (go_at_call 58; refine (HS.out _).mono ?_; rintro e w1 ⟨rfl, b1⟩; have B1 := Lib.hid b1; clear b1)
      all_goals
        go_wp2
        go_roundw
        case rel => exact ⟨k + 1, by omega, by go_num, (show Below w.heap.size w wr.drew from below_drewN HR.out 1).trans (B1.out.mono (show w.heap.size ≤ wr.heap.size from HR.out.size))⟩
        case measure => simp [intOf]; omega
    · go_wp2_with fail
      go_ret
      exact ⟨rfl, HR.out⟩
theorem eqFilterS_any (a b : Option Addr) (n ca cb : Nat) (l : List Flt) (w : World) (HA : Hid (InX w a n (fltCs l))) (HB : Hid (InX w b n (fltCs l))) (hn : Hid (l.length = n)) (hm : n ≤ 1048576) :
    Calls Tryz.prog 31 #[.slice a n ca, .slice b n cb] w (SaysB w true) := by
  rcases Nat.eq_zero_or_pos n with h0 | h0
  · subst h0; exact eqFilterS_none a b ca cb w
  · obtain ⟨ga, rfl, ha, hga⟩ := HA.out h0
    obtain ⟨gb, rfl, hb, hgb⟩ := HB.out h0
    exact eqFilterS_go ga gb n ca cb l w ha hb hn hga hgb hm
set_option maxHeartbeats 3200000 in
theorem eqConfig_any (v v' : Value) (c : Cfg) (w : World) (h : Hid (CfgV w v c)) (h' : Hid (CfgV w v' c)) (HM : Hid (CfgM c)) :
    Calls Tryz.prog 11 #[v, v'] w (SaysB w true) := by
  obtain ⟨ac, cc, af, cf, rfl, ic, if_⟩ := h.out
  obtain ⟨ac', cc', af', cf', rfl, ic', if'⟩ := h'.out
  obtain ⟨s, cs, fs, d⟩ := c
  obtain ⟨n, hn⟩ : ∃ n, cs.length = n := ⟨_, rfl⟩
  obtain ⟨m, hm⟩ : ∃ m, fs.length = m := ⟨_, rfl⟩
  have hM := HM.out
  unfold CfgM at hM
  simp only [hn, hm] at ic if_ ic' if' hM ⊢
  obtain ⟨_, q1, q2⟩ := hM
  have IC := Lib.hid ic
  have IF := Lib.hid if_
  have IC' := Lib.hid ic'
  have IF' := Lib.hid if'
  have HC : Hid (∀ w, InX w ac n (clsCs cs) → InX w ac' n (clsCs cs) → Calls Tryz.prog 30 #[.slice ac n cc, .slice ac' n cc'] w (SaysB w true)) := Lib.hid (fun w h h' => eqClassS_any ac ac' n cc cc' cs w (Lib.hid h) (Lib.hid h') (Lib.hid hn) q1)
  have HF : Hid (∀ w, InX w af m (fltCs fs) → InX w af' m (fltCs fs) → Calls Tryz.prog 31 #[.slice af m cf, .slice af' m cf'] w (SaysB w true)) := Lib.hid (fun w h h' => eqFilterS_any af af' m cf cf' fs w (Lib.hid h) (Lib.hid h') (Lib.hid hm) q2)
  clear h h' hn hm ic if_ ic' if' HM
  go_enter Tryz.func11, Tryz.ntmps11
  go_wp2_with (go_at_call 30; refine (HC.out _ (IC.out.below (two_new _ _ _)) (IC'.out.below (two_new _ _ _))).mono ?_; rintro e w1 ⟨rfl, b1⟩; have B1 := Lib.hid (two_below b1); have hz2 := two_size b1; have hz1 := Nat.lt_of_succ_lt hz2; obtain ⟨hc1, hf1⟩ := bcell b1; clear b1)
  go_wp2_with (go_at_call 31; refine (HF.out _ (IF.out.below B1.out) (IF'.out.below B1.out)).mono ?_; rintro e w2 ⟨rfl, b2⟩; obtain ⟨hc2, hf2⟩ := bcell b2; have B2 := Lib.hid (B1.out.trans (b2.mono B1.out.size)); clear b2)
  go_ret
  exact ⟨rfl, B2.out⟩
end Go.Proofs.YtkpocljlmbihcaaGreatDoor

/- Marks in lists of classes, of filters, of integers; lists of integers compared. -/
namespace Go.Proofs.YtkpocljlmbihcaaGreatDoor
set_option maxRecDepth 100000
open Go.RowKit
set_option linter.unusedVariables false

theorem markClassS_none (ad : Option Addr) (c : Nat) (k : Int) (w : World) :
    Calls Tryz.prog 38 #[.slice ad 0 c, .int .i64 k] w (fun e w' => e = .returned (.int .i64 k) ∧ w = w') := by
  go_enter Tryz.func38, Tryz.ntmps38
  go_wp2
  refine wp_loop_rounds 1 ?_
  rw [rounds_succ]
  go_wp2
  go_ret
  exact ⟨rfl, rfl⟩
def markClassSRel (w : World) (B g n c : Nat) (k : Int) (a i : Value) (wr : World) : Prop :=
  ∃ (j : Nat) (z : Int) (xs : List Value), j ≤ n ∧ i = .int .i64 j ∧ a = .int .i64 z ∧ z = k + 8 * (j : Int) ∧ wr.ownsRow B 77 8 (.slice (some ⟨g, 0, none⟩) n c) n xs ∧ Below B w wr ∧ Onl w wr (some g)
set_option maxHeartbeats 6400000 in
theorem markClassS_any (v : Value) (B n : Nat) (xs : List Value) (k : Int) (w : World) (HO : Hid (w.ownsRow B 77 8 v n xs)) (hm : n ≤ 1048576) (hk : 0 ≤ k) (hk2 : k ≤ 10000000) :
    Calls Tryz.prog 38 #[v, .int .i64 k] w (SaysMk w B v (k + 8 * (n : Int))) := by
  have h0 := HO.out
  rcases h0.2 with ⟨rfl, rfl⟩ | ⟨g, c, cur, rfl, hgB, _⟩
  · refine (markClassS_none none 0 k w).mono ?_
    rintro e w' ⟨rfl, rfl⟩
    exact ⟨by simp, Below.refl _ _, fun _ _ => rfl⟩
  · clear h0
    go_enter Tryz.func38, Tryz.ntmps38
    go_wp2_with fail
    go_loopw [1, 5] (fun a i wr => markClassSRel w B g n c k a i wr) (fun _ i _ => n - (intOf i).toNat)
    case atStart => exact ⟨0, k, xs, Nat.zero_le _, rfl, rfl, by omega, HO.out, Below.refl _ _, fun _ _ => rfl⟩
    case round =>
      obtain ⟨i, z, xs', hi, rfl, rfl, hz, ho, hb, hnl⟩ := hrel
      have HO1 := Lib.hid ho
      have HB1 := Lib.hid hb
      have HN1 := Lib.hid hnl
      have HZ := Lib.hid hz
      have hz0 : 0 ≤ z := by omega
      have hz1 : z ≤ 20000000 := by omega
      clear ho hb hnl hz
      by_cases hlt : i < n
      · obtain ⟨u0, c0⟩ := own_cell HO1.out (i * 8) (by omega)
        have f0 := World.ownsRow.frozenAt HO1.out (i * 8)
        obtain ⟨u1, c1⟩ := own_cell HO1.out (i * 8 + 1) (by omega)
        have f1 := World.ownsRow.frozenAt HO1.out (i * 8 + 1)
        obtain ⟨u2, c2⟩ := own_cell HO1.out (i * 8 + 2) (by omega)
        have f2 := World.ownsRow.frozenAt HO1.out (i * 8 + 2)
        obtain ⟨u3, c3⟩ := own_cell HO1.out (i * 8 + 3) (by omega)
        have f3 := World.ownsRow.frozenAt HO1.out (i * 8 + 3)
        obtain ⟨u4, c4⟩ := own_cell HO1.out (i * 8 + 4) (by omega)
        have f4 := World.ownsRow.frozenAt HO1.out (i * 8 + 4)
        obtain ⟨u5, c5⟩ := own_cell HO1.out (i * 8 + 5) (by omega)
        have f5 := World.ownsRow.frozenAt HO1.out (i * 8 + 5)
        obtain ⟨u6, c6⟩ := own_cell HO1.out (i * 8 + 6) (by omega)
        have f6 := World.ownsRow.frozenAt HO1.out (i * 8 + 6)
        obtain ⟨u7, c7⟩ := own_cell HO1.out (i * 8 + 7) (by omega)
        have f7 := World.ownsRow.frozenAt HO1.out (i * 8 + 7)
        go_wp2_with fail
        go_roundw
        case rel => exact ⟨i + 1, _, _, by omega, by go_num, rfl, by have := HZ.out; omega, (own_store (own_store (own_store (own_store (own_store (own_store (own_store (own_store HO1.out _ _) _ _) _ _) _ _) _ _) _ _) _ _) _ _), ((((((((HB1.out.setCell hgB _).setCell hgB _).setCell hgB _).setCell hgB _).setCell hgB _).setCell hgB _).setCell hgB _).setCell hgB _), (onl_set (onl_set (onl_set (onl_set (onl_set (onl_set (onl_set (onl_set HN1.out _ _) _ _) _ _) _ _) _ _) _ _) _ _) _ _)⟩
        case measure => simp [intOf]; omega
      · have hz2 : z = k + 8 * (n : Int) := by have := HZ.out; omega
        have HZ2 := Lib.hid hz2
        clear hz2
        go_wp2_with fail
        go_ret
        exact ⟨ret_int HZ2.out, HB1.out, HN1.out⟩
theorem markFilterS_none (ad : Option Addr) (c : Nat) (k : Int) (w : World) :
    Calls Tryz.prog 39 #[.slice ad 0 c, .int .i64 k] w (fun e w' => e = .returned (.int .i64 k) ∧ w = w') := by
  go_enter Tryz.func39, Tryz.ntmps39
  go_wp2
  refine wp_loop_rounds 1 ?_
  rw [rounds_succ]
  go_wp2
  go_ret
  exact ⟨rfl, rfl⟩
def markFilterSRel (w : World) (B g n c : Nat) (k : Int) (a i : Value) (wr : World) : Prop :=
  ∃ (j : Nat) (z : Int) (xs : List Value), j ≤ n ∧ i = .int .i64 j ∧ a = .int .i64 z ∧ z = k + 5 * (j : Int) ∧ wr.ownsRow B 74 5 (.slice (some ⟨g, 0, none⟩) n c) n xs ∧ Below B w wr ∧ Onl w wr (some g)
set_option maxHeartbeats 6400000 in
theorem markFilterS_any (v : Value) (B n : Nat) (xs : List Value) (k : Int) (w : World) (HO : Hid (w.ownsRow B 74 5 v n xs)) (hm : n ≤ 1048576) (hk : 0 ≤ k) (hk2 : k ≤ 10000000) :
    Calls Tryz.prog 39 #[v, .int .i64 k] w (SaysMk w B v (k + 5 * (n : Int))) := by
  have h0 := HO.out
  rcases h0.2 with ⟨rfl, rfl⟩ | ⟨g, c, cur, rfl, hgB, _⟩
  · refine (markFilterS_none none 0 k w).mono ?_
    rintro e w' ⟨rfl, rfl⟩
    exact ⟨by simp, Below.refl _ _, fun _ _ => rfl⟩
  · clear h0
    go_enter Tryz.func39, Tryz.ntmps39
    go_wp2_with fail
    go_loopw [1, 5] (fun a i wr => markFilterSRel w B g n c k a i wr) (fun _ i _ => n - (intOf i).toNat)
    case atStart => exact ⟨0, k, xs, Nat.zero_le _, rfl, rfl, by omega, HO.out, Below.refl _ _, fun _ _ => rfl⟩
    case round =>
      obtain ⟨i, z, xs', hi, rfl, rfl, hz, ho, hb, hnl⟩ := hrel
      have HO1 := Lib.hid ho
      have HB1 := Lib.hid hb
      have HN1 := Lib.hid hnl
      have HZ := Lib.hid hz
      have hz0 : 0 ≤ z := by omega
      have hz1 : z ≤ 20000000 := by omega
      clear ho hb hnl hz
      by_cases hlt : i < n
      · obtain ⟨u0, c0⟩ := own_cell HO1.out (i * 5) (by omega)
        have f0 := World.ownsRow.frozenAt HO1.out (i * 5)
        obtain ⟨u1, c1⟩ := own_cell HO1.out (i * 5 + 1) (by omega)
        have f1 := World.ownsRow.frozenAt HO1.out (i * 5 + 1)
        obtain ⟨u2, c2⟩ := own_cell HO1.out (i * 5 + 2) (by omega)
        have f2 := World.ownsRow.frozenAt HO1.out (i * 5 + 2)
        obtain ⟨u3, c3⟩ := own_cell HO1.out (i * 5 + 3) (by omega)
        have f3 := World.ownsRow.frozenAt HO1.out (i * 5 + 3)
        obtain ⟨u4, c4⟩ := own_cell HO1.out (i * 5 + 4) (by omega)
        have f4 := World.ownsRow.frozenAt HO1.out (i * 5 + 4)
        go_wp2_with fail
        go_roundw
        case rel => exact ⟨i + 1, _, _, by omega, by go_num, rfl, by have := HZ.out; omega, (own_store (own_store (own_store (own_store (own_store HO1.out _ _) _ _) _ _) _ _) _ _), (((((HB1.out.setCell hgB _).setCell hgB _).setCell hgB _).setCell hgB _).setCell hgB _), (onl_set (onl_set (onl_set (onl_set (onl_set HN1.out _ _) _ _) _ _) _ _) _ _)⟩
        case measure => simp [intOf]; omega
      · have hz2 : z = k + 5 * (n : Int) := by have := HZ.out; omega
        have HZ2 := Lib.hid hz2
        clear hz2
        go_wp2_with fail
        go_ret
        exact ⟨ret_int HZ2.out, HB1.out, HN1.out⟩
def SaysMc (w : World) (B : Nat) (vc vf : Value) (r : Int) (e : Ending) (w' : World) : Prop := e = .returned (.int .i64 r) ∧ Below B w w' ∧ ∀ g, g < w.heap.size → vc.ownBlock ≠ some g → vf.ownBlock ≠ some g → w'.heap[g]? = w.heap[g]?
set_option maxHeartbeats 3200000 in
theorem markConfig_any (s : ByteArray) (p f : Option Addr) (n m cc cf : Nat) (d : Int) (B : Nat) (xs ys : List Value) (w : World) (HC : Hid (w.ownsRow B 77 8 (.slice p n cc) n xs)) (HF : Hid (w.ownsRow B 74 5 (.slice f m cf) m ys)) (hd : Hid (∀ g, (Value.slice p n cc).ownBlock = some g → (Value.slice f m cf).ownBlock ≠ some g)) (hB : B ≤ w.heap.size) (hn : n ≤ 1048576) (hm : m ≤ 1048576) :
    Calls Tryz.prog 19 #[.agg #[.string s, .slice p n cc, .slice f m cf, .int .i64 d], .int .i64 1] w (SaysMc w B (.slice p n cc) (.slice f m cf) (1 + 8 * (n : Int) + 5 * (m : Int))) := by
  have HMC := Lib.hid (fun w HO => markClassS_any (.slice p n cc) B n xs 1 w HO hn (by omega) (by omega))
  have HMF := Lib.hid (fun w HO => markFilterS_any (.slice f m cf) B m ys (1 + 8 * (n : Int)) w HO hm (by omega) (by omega))
  have HLC := Lib.hid (fun g (h : (Value.slice p n cc).ownBlock = some g) => (World.ownsRow.lt HC.out g h).2)
  have hr0 : 0 ≤ 1 + 8 * (n : Int) := by omega
  obtain ⟨r1, hr1⟩ : ∃ r1 : Int, 1 + 8 * (n : Int) = r1 := ⟨_, rfl⟩
  have HR1 := Lib.hid hr1
  rw [hr1] at HMC HMF
  clear hr1 hr0
  go_enter Tryz.func19, Tryz.ntmps19
  go_wp2_with (go_at_call 38; refine (HMC.out _ (Lib.hid (own_low HC.out (one_new2 _ _) (Nat.le_refl _)))).mono ?_; rintro e w1 ⟨rfl, b1, o1⟩; have B1 := Lib.hid (((Below.refl B w).alloc hB _).trans b1); have O1 := Lib.hid o1; have hbx := cell_heap (o1 w.heap.size (fun q => absurd (HLC.out _ q) (Nat.lt_irrefl _))) 2; clear b1 o1; refine Hid.out ?_)
  refine Lib.hid ?_
  have hbx2 : w1.cell? ⟨w.heap.size, 2, none⟩ = some (.slice f m cf) := by rw [hbx]; simp [go_sem]
  have HF1 := Lib.hid (own_onl (own_low HF.out (one_new2 w (Obj.cells #[.string s, .slice p n cc, .slice f m cf, .int .i64 d] 32)) (Nat.le_refl _)) O1.out (fun g h q => hd.out g q h))
  clear hbx
  go_wp2_with (go_at_call 39; refine (HMF.out _ HF1).mono ?_; rintro e w2 ⟨rfl, b2, o2⟩; have B2 := Lib.hid (B1.out.trans b2); have O2 := Lib.hid o2; clear b2 o2)
  go_ret
  exact ⟨ret_int (by rw [← HR1.out]), B2.out, fun g hg h1 h2 => (O2.out g h2).trans ((O1.out g h1).trans (heap_alloc_lt w _ g hg))⟩
end Go.Proofs.YtkpocljlmbihcaaGreatDoor
