import Derived.Test.YthgbhnedfdnfpaaGreatDoorPkzn
import Derived.Test.YthgbhnedfdnfpaaGreatDoorPkzk
/- Canonical texts, the program's: a printer that has written all (written by tools/gen_pri.py). -/
namespace Go.Proofs.YthgbhnedfdnfpaaGreatDoor
set_option maxRecDepth 100000
open Go.RowKit
set_option linter.unusedVariables false
set_option linter.unusedSimpArgs false

def allL (c : Cfg) : List ByteArray := [begS c.s c.d ++ ⟨#[32, 123, 10]⟩] ++ linesP c.cs 8 1 (topF c.cs) ++ filtL c.fs ++ [⟨#[125, 10]⟩]
theorem allL_text (c : Cfg) : catS (allL c) = textP c := by
  unfold allL textP partT
  rw [catS_append, catS_append, catS_append, catS_one, catS_one]
  simp only [app_asP]
def linL (c : Cfg) : List ByteArray := if goodC c then allL c else []
theorem linL_text (c : Cfg) : catS (linL c) = resPrintConfig1 c := by
  unfold linL resPrintConfig1
  cases goodC c
  · rfl
  · exact allL_text c
theorem linL_len {c : Cfg} : (linL c).length ≤ 3000000 := by
  unfold linL
  cases hg : goodC c
  · simp
  · have G := goodP hg
    have h1 := sizeP_le G.T 8 (topF c.cs) (by decide) (top_facts G.T G.top).1
    have h2 := G.fl
    simp only [if_true, allL, List.length_append, linesP_len, filtL_len, List.length_cons, List.length_nil]
    omega
def SaysPd (w : World) (c : Cfg) (e : Ending) (w' : World) : Prop :=
  ∃ v0 v1 v2 v3 lv wv Sp, e = .returned (.tuple #[.agg (pX v0 v1 v2 v3 lv wv Sp).toArray, .bool (goodC c)]) ∧ (∀ v ∈ pX v0 v1 v2 v3 lv wv Sp, v.oneCell' = true) ∧ w'.ownsRow w.heap.size 9 1 lv (linL c).length (sv (linL c)) ∧ w'.ownsRow w.heap.size 3 1 wv (resWalkClasses1 c).length (nv (resWalkClasses1 c)) ∧
    (∀ q : Nat, hasI c (q : Int) = true → Sp q = finP c.cs q) ∧ Below w.heap.size w w'
set_option maxHeartbeats 6400000 in
theorem printed_bad (v : Value) (c : Cfg) (w : World) (HK : Hid (Kwt w)) (HV : Hid (CfgV w v c)) (HM : Hid (CfgM c)) (hg : goodC c = false) : Calls Tryz.prog 20 #[v] w (SaysPd w c) := by
  obtain ⟨ac, cc, af, cf, rfl, ic, if_⟩ := HV.out
  obtain ⟨s, cs, fs, d⟩ := c
  have hM := HM.out
  unfold CfgM at hM
  simp only at ic if_ hM HV ⊢
  obtain ⟨q0, q1, q2⟩ := hM
  have HI := Lib.hid ic
  have HJ := Lib.hid if_
  have HVB := Lib.hid (fun w' (b : Below w.heap.size w w') => Lib.hid (HV.out.below b))
  have A0 := Lib.hid (Aft.refl w (Obj.cells #[.string s, .slice ac cs.length cc, .slice af fs.length cf, .int .i64 d] 26))
  clear ic if_
  have HGD := Lib.hid (fun w' (b : Below w.heap.size w w') => implIsConfig_any (.agg #[.string s, .slice ac cs.length cc, .slice af fs.length cf, .int .i64 d]) ⟨s, cs, fs, d⟩ w' (Lib.hid (HK.out.below b)) (HVB.out w' b) HM)
  rw [hg] at HGD
  have hLL : linL ⟨s, cs, fs, d⟩ = [] := by unfold linL; rw [hg]; rfl
  have hWW := (wc_bad hg).1
  have HI2 : Hid (∀ q : Nat, hasI ⟨s, cs, fs, d⟩ (q : Int) = true → sp0 q = finP cs q) := Lib.hid (fun q h => by unfold hasI at h; rw [hg] at h; simp at h)
  have HLL := Lib.hid hLL
  have HWW := Lib.hid hWW
  have HG := Lib.hid hg
  have BZ := one_new2 (w.alloc (Obj.cells #[.string s, .slice ac cs.length cc, .slice af fs.length cf, .int .i64 d] 26)) (Obj.cells #[.string ⟨#[]⟩, .slice none 0 0, .slice none 0 0, .int .i64 0, .slice none 0 0, .slice none 0 0, .int .i64 0, .int .i64 0, .int .i64 0, .int .i64 0, .int .i64 0, .int .i64 0, .int .i64 0, .int .i64 0, .int .i64 0, .int .i64 0, .int .i64 0, .int .i64 0, .int .i64 0, .int .i64 0, .int .i64 0, .int .i64 0, .int .i64 0, .int .i64 0, .int .i64 0, .int .i64 0, .int .i64 0, .int .i64 0, .int .i64 0, .int .i64 0, .int .i64 0, .int .i64 0, .int .i64 0, .int .i64 0, .int .i64 0, .int .i64 0, .int .i64 0, .int .i64 0, .int .i64 0, .int .i64 0, .int .i64 0, .int .i64 0, .int .i64 0, .int .i64 0, .int .i64 0, .int .i64 0, .int .i64 0, .int .i64 0, .int .i64 0, .int .i64 0, .int .i64 0, .int .i64 0, .int .i64 0, .int .i64 0] 49)
  have AZ := Lib.hid (A0.out.on BZ)
  have PZ : Hid (PrV ((w.alloc (Obj.cells #[.string s, .slice ac cs.length cc, .slice af fs.length cf, .int .i64 d] 26)).alloc (Obj.cells #[.string ⟨#[]⟩, .slice none 0 0, .slice none 0 0, .int .i64 0, .slice none 0 0, .slice none 0 0, .int .i64 0, .int .i64 0, .int .i64 0, .int .i64 0, .int .i64 0, .int .i64 0, .int .i64 0, .int .i64 0, .int .i64 0, .int .i64 0, .int .i64 0, .int .i64 0, .int .i64 0, .int .i64 0, .int .i64 0, .int .i64 0, .int .i64 0, .int .i64 0, .int .i64 0, .int .i64 0, .int .i64 0, .int .i64 0, .int .i64 0, .int .i64 0, .int .i64 0, .int .i64 0, .int .i64 0, .int .i64 0, .int .i64 0, .int .i64 0, .int .i64 0, .int .i64 0, .int .i64 0, .int .i64 0, .int .i64 0, .int .i64 0, .int .i64 0, .int .i64 0, .int .i64 0, .int .i64 0, .int .i64 0, .int .i64 0, .int .i64 0, .int .i64 0, .int .i64 0, .int .i64 0, .int .i64 0, .int .i64 0] 49)) (w.alloc (Obj.cells #[.string s, .slice ac cs.length cc, .slice af fs.length cf, .int .i64 d] 26)).heap.size (.string ⟨#[]⟩) (.slice none 0 0) (.slice none 0 0) (.int .i64 0) (.slice none 0 0) (.slice none 0 0) sp0) := Lib.hid (by
    unfold PrV
    rw [pX_zero]
    exact Array.getElem?_push_size)
  have hszA : (w.alloc (Obj.cells #[.string s, .slice ac cs.length cc, .slice af fs.length cf, .int .i64 d] 26)).heap.size = w.heap.size + 1 := by simp
  clear hLL hWW hg BZ
  go_enter Tryz.func20, Tryz.ntmps20
  go_wp2_with (go_at_call 27; refine (HGD.out _ AZ.out.all.2).mono ?_; rintro e w1 ⟨rfl, b1⟩; have A1 := Lib.hid (AZ.out.on b1); have P1 := Lib.hid (PZ.out.same (b1.block _ PZ.out.lt)); clear b1; refine Hid.out ?_)
  refine Lib.hid ?_
  rw [hszA] at P1
  have HTH : Hid (w1.there (w.heap.size + 1) 0 (#[.string ⟨#[]⟩, .slice none 0 0, .slice none 0 0, .int .i64 0, .slice none 0 0, .slice none 0 0, .int .i64 0, .int .i64 0, .int .i64 0, .int .i64 0, .int .i64 0, .int .i64 0, .int .i64 0, .int .i64 0, .int .i64 0, .int .i64 0, .int .i64 0, .int .i64 0, .int .i64 0, .int .i64 0, .int .i64 0, .int .i64 0, .int .i64 0, .int .i64 0, .int .i64 0, .int .i64 0, .int .i64 0, .int .i64 0, .int .i64 0, .int .i64 0, .int .i64 0, .int .i64 0, .int .i64 0, .int .i64 0, .int .i64 0, .int .i64 0, .int .i64 0, .int .i64 0, .int .i64 0, .int .i64 0, .int .i64 0, .int .i64 0, .int .i64 0, .int .i64 0, .int .i64 0, .int .i64 0, .int .i64 0, .int .i64 0, .int .i64 0, .int .i64 0, .int .i64 0, .int .i64 0, .int .i64 0, .int .i64 0] : Array Value).size) := Lib.hid (show w1.there (w.heap.size + 1) 0 54 from P1.out.there)
  have HIZ : Hid ((Tryz.prog.info? 49).map (·.size) = some (#[.string ⟨#[]⟩, .slice none 0 0, .slice none 0 0, .int .i64 0, .slice none 0 0, .slice none 0 0, .int .i64 0, .int .i64 0, .int .i64 0, .int .i64 0, .int .i64 0, .int .i64 0, .int .i64 0, .int .i64 0, .int .i64 0, .int .i64 0, .int .i64 0, .int .i64 0, .int .i64 0, .int .i64 0, .int .i64 0, .int .i64 0, .int .i64 0, .int .i64 0, .int .i64 0, .int .i64 0, .int .i64 0, .int .i64 0, .int .i64 0, .int .i64 0, .int .i64 0, .int .i64 0, .int .i64 0, .int .i64 0, .int .i64 0, .int .i64 0, .int .i64 0, .int .i64 0, .int .i64 0, .int .i64 0, .int .i64 0, .int .i64 0, .int .i64 0, .int .i64 0, .int .i64 0, .int .i64 0, .int .i64 0, .int .i64 0, .int .i64 0, .int .i64 0, .int .i64 0, .int .i64 0, .int .i64 0, .int .i64 0] : Array Value).size) := Lib.hid infoP
  have HZ1 : Hid ((#[.string ⟨#[]⟩, .slice none 0 0, .slice none 0 0, .int .i64 0, .slice none 0 0, .slice none 0 0, .int .i64 0, .int .i64 0, .int .i64 0, .int .i64 0, .int .i64 0, .int .i64 0, .int .i64 0, .int .i64 0, .int .i64 0, .int .i64 0, .int .i64 0, .int .i64 0, .int .i64 0, .int .i64 0, .int .i64 0, .int .i64 0, .int .i64 0, .int .i64 0, .int .i64 0, .int .i64 0, .int .i64 0, .int .i64 0, .int .i64 0, .int .i64 0, .int .i64 0, .int .i64 0, .int .i64 0, .int .i64 0, .int .i64 0, .int .i64 0, .int .i64 0, .int .i64 0, .int .i64 0, .int .i64 0, .int .i64 0, .int .i64 0, .int .i64 0, .int .i64 0, .int .i64 0, .int .i64 0, .int .i64 0, .int .i64 0, .int .i64 0, .int .i64 0, .int .i64 0, .int .i64 0, .int .i64 0, .int .i64 0] : Array Value).all (·.oneCell') = true) := Lib.hid (by rw [← pX_zero]; exact all_oneCell_toArray (pX_one rfl rfl rfl rfl rfl rfl))
  have HRW := Lib.hid ((P1.out.row (B := w.heap.size) (Nat.le_succ _)).put (ys := (#[.string ⟨#[]⟩, .slice none 0 0, .slice none 0 0, .int .i64 0, .slice none 0 0, .slice none 0 0, .int .i64 0, .int .i64 0, .int .i64 0, .int .i64 0, .int .i64 0, .int .i64 0, .int .i64 0, .int .i64 0, .int .i64 0, .int .i64 0, .int .i64 0, .int .i64 0, .int .i64 0, .int .i64 0, .int .i64 0, .int .i64 0, .int .i64 0, .int .i64 0, .int .i64 0, .int .i64 0, .int .i64 0, .int .i64 0, .int .i64 0, .int .i64 0, .int .i64 0, .int .i64 0, .int .i64 0, .int .i64 0, .int .i64 0, .int .i64 0, .int .i64 0, .int .i64 0, .int .i64 0, .int .i64 0, .int .i64 0, .int .i64 0, .int .i64 0, .int .i64 0, .int .i64 0, .int .i64 0, .int .i64 0, .int .i64 0, .int .i64 0, .int .i64 0, .int .i64 0, .int .i64 0, .int .i64 0, .int .i64 0] : Array Value).toList) rfl)
  have HRB := Lib.hid (setN_below (B := w.heap.size) (g := w.heap.size + 1) (Nat.le_succ _) (#[.string ⟨#[]⟩, .slice none 0 0, .slice none 0 0, .int .i64 0, .slice none 0 0, .slice none 0 0, .int .i64 0, .int .i64 0, .int .i64 0, .int .i64 0, .int .i64 0, .int .i64 0, .int .i64 0, .int .i64 0, .int .i64 0, .int .i64 0, .int .i64 0, .int .i64 0, .int .i64 0, .int .i64 0, .int .i64 0, .int .i64 0, .int .i64 0, .int .i64 0, .int .i64 0, .int .i64 0, .int .i64 0, .int .i64 0, .int .i64 0, .int .i64 0, .int .i64 0, .int .i64 0, .int .i64 0, .int .i64 0, .int .i64 0, .int .i64 0, .int .i64 0, .int .i64 0, .int .i64 0, .int .i64 0, .int .i64 0, .int .i64 0, .int .i64 0, .int .i64 0, .int .i64 0, .int .i64 0, .int .i64 0, .int .i64 0, .int .i64 0, .int .i64 0, .int .i64 0, .int .i64 0, .int .i64 0, .int .i64 0] : Array Value).toList 0 w1 A1.out.all.2)
  go_upto_region 2 with fail
  go_wp2_with (refine wpList_store_mid rfl 49 _ _ rfl (w.heap.size + 1) 0 #[.string ⟨#[]⟩, .slice none 0 0, .slice none 0 0, .int .i64 0, .slice none 0 0, .slice none 0 0, .int .i64 0, .int .i64 0, .int .i64 0, .int .i64 0, .int .i64 0, .int .i64 0, .int .i64 0, .int .i64 0, .int .i64 0, .int .i64 0, .int .i64 0, .int .i64 0, .int .i64 0, .int .i64 0, .int .i64 0, .int .i64 0, .int .i64 0, .int .i64 0, .int .i64 0, .int .i64 0, .int .i64 0, .int .i64 0, .int .i64 0, .int .i64 0, .int .i64 0, .int .i64 0, .int .i64 0, .int .i64 0, .int .i64 0, .int .i64 0, .int .i64 0, .int .i64 0, .int .i64 0, .int .i64 0, .int .i64 0, .int .i64 0, .int .i64 0, .int .i64 0, .int .i64 0, .int .i64 0, .int .i64 0, .int .i64 0, .int .i64 0, .int .i64 0, .int .i64 0, .int .i64 0, .int .i64 0, .int .i64 0] rfl rfl HTH.out HIZ.out HZ1.out ?_)
  exact bodyPost_ret (v := .tuple #[.agg (pX (.string ⟨#[]⟩) (.slice none 0 0) (.slice none 0 0) (.int .i64 0) (.slice none 0 0) (.slice none 0 0) sp0).toArray, .bool false]) (by rw [pX_zero]; exact results_row2 (p := 2) (q := 3) rfl _ _ (w.heap.size + 1) 49 _ _ _ (.bool false) rfl rfl HRW.out.heap Tryz.underlying49 rfl infoP) rfl
    ⟨_, _, _, _, _, _, sp0, by rw [HG.out], pX_one rfl rfl rfl rfl rfl rfl, by rw [HLL.out]; exact World.ownsRow_nil _ _ _ _, by rw [HWW.out]; exact World.ownsRow_nil _ _ _ _, HI2.out, HRB.out⟩

theorem setCells_other {g k : Nat} (hk : k ≠ g) : ∀ (vs : List Value) (i : Nat) (w : World), (w.setCells g i vs).heap[k]? = w.heap[k]?
  | [], _, _ => rfl
  | v :: r, i, w => by
    show ((w.setCell ⟨g, i, none⟩ v).setCells g (i + 1) r).heap[k]? = _
    rw [setCells_other hk r (i + 1), heap_setCell_other w ⟨g, i, none⟩ k v hk]
theorem top_only {cs : List Cls} (T : TreeF cs) (ht : cT cs = 1) : ∀ j, j < cs.length → fnd cs (cs.getD j cls0).p = Option.none → j = topF cs := fun j hj hf => by
  have hn := T.node j hj
  unfold nodeOk at hn
  rw [Bool.and_eq_true] at hn
  have hp := way_par cs j hn.1
  unfold parOk at hp
  rw [hf] at hp
  have h0 : (cs.getD j cls0).p = 0 := by simpa using hp
  have := mem_kids hj h0
  rw [kids_top T ht] at this
  simpa using this
set_option maxHeartbeats 25600000 in
theorem printed_good (v : Value) (c : Cfg) (w : World) (HK : Hid (Kwt w)) (HV : Hid (CfgV w v c)) (HM : Hid (CfgM c)) (hg : goodC c = true) (hU : Hid (Units w)) (hP : Hid (Pow w)) (hW : Hid (FwW w)) (hD : Hid (Dig w)) : Calls Tryz.prog 20 #[v] w (SaysPd w c) := by
  obtain ⟨ac, cc, af, cf, rfl, ic, if_⟩ := HV.out
  obtain ⟨s, cs, fs, d⟩ := c
  have hM := HM.out
  unfold CfgM at hM
  simp only at ic if_ hM HV ⊢
  obtain ⟨q0, q1, q2⟩ := hM
  have HI := Lib.hid ic
  have HJ := Lib.hid if_
  have HVB := Lib.hid (fun w' (b : Below w.heap.size w w') => Lib.hid (HV.out.below b))
  have A0 := Lib.hid (Aft.refl w (Obj.cells #[.string s, .slice ac cs.length cc, .slice af fs.length cf, .int .i64 d] 26))
  clear ic if_
  have HGD := Lib.hid (fun w' (b : Below w.heap.size w w') => implIsConfig_any (.agg #[.string s, .slice ac cs.length cc, .slice af fs.length cf, .int .i64 d]) ⟨s, cs, fs, d⟩ w' (Lib.hid (HK.out.below b)) (HVB.out w' b) HM)
  rw [hg] at HGD
  have G := goodP hg
  have T := G.T
  simp only at T
  have hcT : cT cs = 1 := G.top
  have hnm : s.size ≤ 8 := G.nm
  have hfl : fs.length ≤ 16 := G.fl
  have hdf : d = 0 ∨ (1 ≤ d ∧ d ≤ 999) := G.df
  have HFG : Hid (∀ k, k < fs.length → goodFl (fs.getD k flt0) = true) := Lib.hid G.fg
  have hn1 : 1 ≤ cs.length := G.n1
  have hsz8 := sizeP_le T 8 (topF cs) (by decide) (top_facts T hcT).1
  have HLL : Hid (linL ⟨s, cs, fs, d⟩ = [begS s d ++ ⟨#[32, 123, 10]⟩] ++ linesP cs 8 1 (topF cs) ++ filtL fs ++ [⟨#[125, 10]⟩]) := Lib.hid (by unfold linL; rw [hg]; rfl)
  have HWW : Hid (resWalkClasses1 ⟨s, cs, fs, d⟩ = walkP cs 8 (topF cs)) := Lib.hid (wc_good hg).1
  have HG := Lib.hid hg
  have HIQ : Hid (∀ q : Nat, hasI ⟨s, cs, fs, d⟩ (q : Int) = true → spanP cs (walkP cs 8 (topF cs)) sp0 q = finP cs q) := Lib.hid (fun q h => by
    obtain ⟨_, q', hq', hql⟩ := has_iff h
    have : q' = q := by omega
    subst this
    unfold spanP
    rw [if_pos (walk_in T hql (top_only T hcT))])
  obtain ⟨gb, rfl, hgt, hgl⟩ := HI.out (by omega)
  have HGT := Lib.hid hgt
  have BZ := one_new2 (w.alloc (Obj.cells #[.string s, .slice (some ⟨gb, 0, none⟩) cs.length cc, .slice af fs.length cf, .int .i64 d] 26)) (Obj.cells #[.string ⟨#[]⟩, .slice none 0 0, .slice none 0 0, .int .i64 0, .slice none 0 0, .slice none 0 0, .int .i64 0, .int .i64 0, .int .i64 0, .int .i64 0, .int .i64 0, .int .i64 0, .int .i64 0, .int .i64 0, .int .i64 0, .int .i64 0, .int .i64 0, .int .i64 0, .int .i64 0, .int .i64 0, .int .i64 0, .int .i64 0, .int .i64 0, .int .i64 0, .int .i64 0, .int .i64 0, .int .i64 0, .int .i64 0, .int .i64 0, .int .i64 0, .int .i64 0, .int .i64 0, .int .i64 0, .int .i64 0, .int .i64 0, .int .i64 0, .int .i64 0, .int .i64 0, .int .i64 0, .int .i64 0, .int .i64 0, .int .i64 0, .int .i64 0, .int .i64 0, .int .i64 0, .int .i64 0, .int .i64 0, .int .i64 0, .int .i64 0, .int .i64 0, .int .i64 0, .int .i64 0, .int .i64 0, .int .i64 0] 49)
  have AZ := Lib.hid (A0.out.on BZ)
  have PZ : Hid (PrV ((w.alloc (Obj.cells #[.string s, .slice (some ⟨gb, 0, none⟩) cs.length cc, .slice af fs.length cf, .int .i64 d] 26)).alloc (Obj.cells #[.string ⟨#[]⟩, .slice none 0 0, .slice none 0 0, .int .i64 0, .slice none 0 0, .slice none 0 0, .int .i64 0, .int .i64 0, .int .i64 0, .int .i64 0, .int .i64 0, .int .i64 0, .int .i64 0, .int .i64 0, .int .i64 0, .int .i64 0, .int .i64 0, .int .i64 0, .int .i64 0, .int .i64 0, .int .i64 0, .int .i64 0, .int .i64 0, .int .i64 0, .int .i64 0, .int .i64 0, .int .i64 0, .int .i64 0, .int .i64 0, .int .i64 0, .int .i64 0, .int .i64 0, .int .i64 0, .int .i64 0, .int .i64 0, .int .i64 0, .int .i64 0, .int .i64 0, .int .i64 0, .int .i64 0, .int .i64 0, .int .i64 0, .int .i64 0, .int .i64 0, .int .i64 0, .int .i64 0, .int .i64 0, .int .i64 0, .int .i64 0, .int .i64 0, .int .i64 0, .int .i64 0, .int .i64 0, .int .i64 0] 49)) (w.alloc (Obj.cells #[.string s, .slice (some ⟨gb, 0, none⟩) cs.length cc, .slice af fs.length cf, .int .i64 d] 26)).heap.size (.string ⟨#[]⟩) (.slice none 0 0) (.slice none 0 0) (.int .i64 0) (.slice none 0 0) (.slice none 0 0) sp0) := Lib.hid (by
    unfold PrV
    rw [pX_zero]
    exact Array.getElem?_push_size)
  have hszA : (w.alloc (Obj.cells #[.string s, .slice (some ⟨gb, 0, none⟩) cs.length cc, .slice af fs.length cf, .int .i64 d] 26)).heap.size = w.heap.size + 1 := by simp
  have HLnl : Hid ((linesP cs 8 1 (topF cs)).length = sizeP cs 8 (topF cs)) := Lib.hid (linesP_len cs 8 1 (topF cs))
  have HT1 := Lib.hid T
  clear hg BZ hgt G
  go_enter Tryz.func20, Tryz.ntmps20
  go_wp2_with (go_at_call 27; refine (HGD.out _ AZ.out.all.2).mono ?_; rintro e w1 ⟨rfl, b1⟩; have A1 := Lib.hid (AZ.out.on b1); have P1 := Lib.hid (PZ.out.same (b1.block _ PZ.out.lt)); clear b1; refine Hid.out ?_)
  refine Lib.hid ?_
  rw [hszA] at P1
  obtain ⟨c0, c1, c2, c3, _⟩ := A1.out.all.1
  have hl1 := P1.out.lt
  -- the printer in its block
  have PN : Hid (PrV (w1.alloc (Obj.cells #[.string ⟨#[]⟩, .slice none 0 0, .slice none 0 0, .int .i64 0, .slice none 0 0, .slice none 0 0, .int .i64 0, .int .i64 0, .int .i64 0, .int .i64 0, .int .i64 0, .int .i64 0, .int .i64 0, .int .i64 0, .int .i64 0, .int .i64 0, .int .i64 0, .int .i64 0, .int .i64 0, .int .i64 0, .int .i64 0, .int .i64 0, .int .i64 0, .int .i64 0, .int .i64 0, .int .i64 0, .int .i64 0, .int .i64 0, .int .i64 0, .int .i64 0, .int .i64 0, .int .i64 0, .int .i64 0, .int .i64 0, .int .i64 0, .int .i64 0, .int .i64 0, .int .i64 0, .int .i64 0, .int .i64 0, .int .i64 0, .int .i64 0, .int .i64 0, .int .i64 0, .int .i64 0, .int .i64 0, .int .i64 0, .int .i64 0, .int .i64 0, .int .i64 0, .int .i64 0, .int .i64 0, .int .i64 0, .int .i64 0] 49)) w1.heap.size (.string ⟨#[]⟩) (.slice none 0 0) (.slice none 0 0) (.int .i64 0) (.slice none 0 0) (.slice none 0 0) sp0) := Lib.hid (by
    unfold PrV
    rw [pX_zero]
    exact Array.getElem?_push_size)
  have HTH : Hid ((w1.alloc (Obj.cells #[.string ⟨#[]⟩, .slice none 0 0, .slice none 0 0, .int .i64 0, .slice none 0 0, .slice none 0 0, .int .i64 0, .int .i64 0, .int .i64 0, .int .i64 0, .int .i64 0, .int .i64 0, .int .i64 0, .int .i64 0, .int .i64 0, .int .i64 0, .int .i64 0, .int .i64 0, .int .i64 0, .int .i64 0, .int .i64 0, .int .i64 0, .int .i64 0, .int .i64 0, .int .i64 0, .int .i64 0, .int .i64 0, .int .i64 0, .int .i64 0, .int .i64 0, .int .i64 0, .int .i64 0, .int .i64 0, .int .i64 0, .int .i64 0, .int .i64 0, .int .i64 0, .int .i64 0, .int .i64 0, .int .i64 0, .int .i64 0, .int .i64 0, .int .i64 0, .int .i64 0, .int .i64 0, .int .i64 0, .int .i64 0, .int .i64 0, .int .i64 0, .int .i64 0, .int .i64 0, .int .i64 0, .int .i64 0, .int .i64 0] 49)).there w1.heap.size 0 (#[.string s, .slice (some ⟨gb, 0, none⟩) cs.length cc, .slice af fs.length cf, .int .i64 d, .slice none 0 0, .slice none 0 0, .int .i64 0, .int .i64 0, .int .i64 0, .int .i64 0, .int .i64 0, .int .i64 0, .int .i64 0, .int .i64 0, .int .i64 0, .int .i64 0, .int .i64 0, .int .i64 0, .int .i64 0, .int .i64 0, .int .i64 0, .int .i64 0, .int .i64 0, .int .i64 0, .int .i64 0, .int .i64 0, .int .i64 0, .int .i64 0, .int .i64 0, .int .i64 0, .int .i64 0, .int .i64 0, .int .i64 0, .int .i64 0, .int .i64 0, .int .i64 0, .int .i64 0, .int .i64 0, .int .i64 0, .int .i64 0, .int .i64 0, .int .i64 0, .int .i64 0, .int .i64 0, .int .i64 0, .int .i64 0, .int .i64 0, .int .i64 0, .int .i64 0, .int .i64 0, .int .i64 0, .int .i64 0, .int .i64 0, .int .i64 0] : Array Value).size) := Lib.hid (show (w1.alloc (Obj.cells #[.string ⟨#[]⟩, .slice none 0 0, .slice none 0 0, .int .i64 0, .slice none 0 0, .slice none 0 0, .int .i64 0, .int .i64 0, .int .i64 0, .int .i64 0, .int .i64 0, .int .i64 0, .int .i64 0, .int .i64 0, .int .i64 0, .int .i64 0, .int .i64 0, .int .i64 0, .int .i64 0, .int .i64 0, .int .i64 0, .int .i64 0, .int .i64 0, .int .i64 0, .int .i64 0, .int .i64 0, .int .i64 0, .int .i64 0, .int .i64 0, .int .i64 0, .int .i64 0, .int .i64 0, .int .i64 0, .int .i64 0, .int .i64 0, .int .i64 0, .int .i64 0, .int .i64 0, .int .i64 0, .int .i64 0, .int .i64 0, .int .i64 0, .int .i64 0, .int .i64 0, .int .i64 0, .int .i64 0, .int .i64 0, .int .i64 0, .int .i64 0, .int .i64 0, .int .i64 0, .int .i64 0, .int .i64 0, .int .i64 0] 49)).there w1.heap.size 0 54 from PN.out.there)
  have HIZ : Hid ((Tryz.prog.info? 49).map (·.size) = some (#[.string s, .slice (some ⟨gb, 0, none⟩) cs.length cc, .slice af fs.length cf, .int .i64 d, .slice none 0 0, .slice none 0 0, .int .i64 0, .int .i64 0, .int .i64 0, .int .i64 0, .int .i64 0, .int .i64 0, .int .i64 0, .int .i64 0, .int .i64 0, .int .i64 0, .int .i64 0, .int .i64 0, .int .i64 0, .int .i64 0, .int .i64 0, .int .i64 0, .int .i64 0, .int .i64 0, .int .i64 0, .int .i64 0, .int .i64 0, .int .i64 0, .int .i64 0, .int .i64 0, .int .i64 0, .int .i64 0, .int .i64 0, .int .i64 0, .int .i64 0, .int .i64 0, .int .i64 0, .int .i64 0, .int .i64 0, .int .i64 0, .int .i64 0, .int .i64 0, .int .i64 0, .int .i64 0, .int .i64 0, .int .i64 0, .int .i64 0, .int .i64 0, .int .i64 0, .int .i64 0, .int .i64 0, .int .i64 0, .int .i64 0, .int .i64 0] : Array Value).size) := Lib.hid infoP
  have HPE : Hid ((#[.string s, .slice (some ⟨gb, 0, none⟩) cs.length cc, .slice af fs.length cf, .int .i64 d, .slice none 0 0, .slice none 0 0, .int .i64 0, .int .i64 0, .int .i64 0, .int .i64 0, .int .i64 0, .int .i64 0, .int .i64 0, .int .i64 0, .int .i64 0, .int .i64 0, .int .i64 0, .int .i64 0, .int .i64 0, .int .i64 0, .int .i64 0, .int .i64 0, .int .i64 0, .int .i64 0, .int .i64 0, .int .i64 0, .int .i64 0, .int .i64 0, .int .i64 0, .int .i64 0, .int .i64 0, .int .i64 0, .int .i64 0, .int .i64 0, .int .i64 0, .int .i64 0, .int .i64 0, .int .i64 0, .int .i64 0, .int .i64 0, .int .i64 0, .int .i64 0, .int .i64 0, .int .i64 0, .int .i64 0, .int .i64 0, .int .i64 0, .int .i64 0, .int .i64 0, .int .i64 0, .int .i64 0, .int .i64 0, .int .i64 0, .int .i64 0] : Array Value) = (pX (.string s) (.slice (some ⟨gb, 0, none⟩) cs.length cc) (.slice af fs.length cf) (.int .i64 d) (.slice none 0 0) (.slice none 0 0) sp0).toArray) := Lib.hid (pX_new _ _ _ _).symm
  have HZ1 : Hid ((#[.string s, .slice (some ⟨gb, 0, none⟩) cs.length cc, .slice af fs.length cf, .int .i64 d, .slice none 0 0, .slice none 0 0, .int .i64 0, .int .i64 0, .int .i64 0, .int .i64 0, .int .i64 0, .int .i64 0, .int .i64 0, .int .i64 0, .int .i64 0, .int .i64 0, .int .i64 0, .int .i64 0, .int .i64 0, .int .i64 0, .int .i64 0, .int .i64 0, .int .i64 0, .int .i64 0, .int .i64 0, .int .i64 0, .int .i64 0, .int .i64 0, .int .i64 0, .int .i64 0, .int .i64 0, .int .i64 0, .int .i64 0, .int .i64 0, .int .i64 0, .int .i64 0, .int .i64 0, .int .i64 0, .int .i64 0, .int .i64 0, .int .i64 0, .int .i64 0, .int .i64 0, .int .i64 0, .int .i64 0, .int .i64 0, .int .i64 0, .int .i64 0, .int .i64 0, .int .i64 0, .int .i64 0, .int .i64 0, .int .i64 0, .int .i64 0] : Array Value).all (·.oneCell') = true) := Lib.hid (by rw [HPE.out]; exact all_oneCell_toArray (pX_one rfl rfl rfl rfl rfl rfl))
  have HRW := Lib.hid ((PN.out.row (B := w1.heap.size) (Nat.le_refl _)).put (ys := (#[.string s, .slice (some ⟨gb, 0, none⟩) cs.length cc, .slice af fs.length cf, .int .i64 d, .slice none 0 0, .slice none 0 0, .int .i64 0, .int .i64 0, .int .i64 0, .int .i64 0, .int .i64 0, .int .i64 0, .int .i64 0, .int .i64 0, .int .i64 0, .int .i64 0, .int .i64 0, .int .i64 0, .int .i64 0, .int .i64 0, .int .i64 0, .int .i64 0, .int .i64 0, .int .i64 0, .int .i64 0, .int .i64 0, .int .i64 0, .int .i64 0, .int .i64 0, .int .i64 0, .int .i64 0, .int .i64 0, .int .i64 0, .int .i64 0, .int .i64 0, .int .i64 0, .int .i64 0, .int .i64 0, .int .i64 0, .int .i64 0, .int .i64 0, .int .i64 0, .int .i64 0, .int .i64 0, .int .i64 0, .int .i64 0, .int .i64 0, .int .i64 0, .int .i64 0, .int .i64 0, .int .i64 0, .int .i64 0, .int .i64 0, .int .i64 0] : Array Value).toList) rfl)
  have HRB := Lib.hid (setN_below (B := w1.heap.size) (g := w1.heap.size) (Nat.le_refl _) (#[.string s, .slice (some ⟨gb, 0, none⟩) cs.length cc, .slice af fs.length cf, .int .i64 d, .slice none 0 0, .slice none 0 0, .int .i64 0, .int .i64 0, .int .i64 0, .int .i64 0, .int .i64 0, .int .i64 0, .int .i64 0, .int .i64 0, .int .i64 0, .int .i64 0, .int .i64 0, .int .i64 0, .int .i64 0, .int .i64 0, .int .i64 0, .int .i64 0, .int .i64 0, .int .i64 0, .int .i64 0, .int .i64 0, .int .i64 0, .int .i64 0, .int .i64 0, .int .i64 0, .int .i64 0, .int .i64 0, .int .i64 0, .int .i64 0, .int .i64 0, .int .i64 0, .int .i64 0, .int .i64 0, .int .i64 0, .int .i64 0, .int .i64 0, .int .i64 0, .int .i64 0, .int .i64 0, .int .i64 0, .int .i64 0, .int .i64 0, .int .i64 0, .int .i64 0, .int .i64 0, .int .i64 0, .int .i64 0, .int .i64 0, .int .i64 0] : Array Value).toList 0 (w1.alloc (Obj.cells #[.string ⟨#[]⟩, .slice none 0 0, .slice none 0 0, .int .i64 0, .slice none 0 0, .slice none 0 0, .int .i64 0, .int .i64 0, .int .i64 0, .int .i64 0, .int .i64 0, .int .i64 0, .int .i64 0, .int .i64 0, .int .i64 0, .int .i64 0, .int .i64 0, .int .i64 0, .int .i64 0, .int .i64 0, .int .i64 0, .int .i64 0, .int .i64 0, .int .i64 0, .int .i64 0, .int .i64 0, .int .i64 0, .int .i64 0, .int .i64 0, .int .i64 0, .int .i64 0, .int .i64 0, .int .i64 0, .int .i64 0, .int .i64 0, .int .i64 0, .int .i64 0, .int .i64 0, .int .i64 0, .int .i64 0, .int .i64 0, .int .i64 0, .int .i64 0, .int .i64 0, .int .i64 0, .int .i64 0, .int .i64 0, .int .i64 0, .int .i64 0, .int .i64 0, .int .i64 0, .int .i64 0, .int .i64 0, .int .i64 0] 49)) (one_new2 w1 (Obj.cells #[.string ⟨#[]⟩, .slice none 0 0, .slice none 0 0, .int .i64 0, .slice none 0 0, .slice none 0 0, .int .i64 0, .int .i64 0, .int .i64 0, .int .i64 0, .int .i64 0, .int .i64 0, .int .i64 0, .int .i64 0, .int .i64 0, .int .i64 0, .int .i64 0, .int .i64 0, .int .i64 0, .int .i64 0, .int .i64 0, .int .i64 0, .int .i64 0, .int .i64 0, .int .i64 0, .int .i64 0, .int .i64 0, .int .i64 0, .int .i64 0, .int .i64 0, .int .i64 0, .int .i64 0, .int .i64 0, .int .i64 0, .int .i64 0, .int .i64 0, .int .i64 0, .int .i64 0, .int .i64 0, .int .i64 0, .int .i64 0, .int .i64 0, .int .i64 0, .int .i64 0, .int .i64 0, .int .i64 0, .int .i64 0, .int .i64 0, .int .i64 0, .int .i64 0, .int .i64 0, .int .i64 0, .int .i64 0, .int .i64 0] 49)))
  go_upto_region 3 with fail
  go_wp2_with (refine wpList_store_mid rfl 49 _ _ rfl w1.heap.size 0 #[.string s, .slice (some ⟨gb, 0, none⟩) cs.length cc, .slice af fs.length cf, .int .i64 d, .slice none 0 0, .slice none 0 0, .int .i64 0, .int .i64 0, .int .i64 0, .int .i64 0, .int .i64 0, .int .i64 0, .int .i64 0, .int .i64 0, .int .i64 0, .int .i64 0, .int .i64 0, .int .i64 0, .int .i64 0, .int .i64 0, .int .i64 0, .int .i64 0, .int .i64 0, .int .i64 0, .int .i64 0, .int .i64 0, .int .i64 0, .int .i64 0, .int .i64 0, .int .i64 0, .int .i64 0, .int .i64 0, .int .i64 0, .int .i64 0, .int .i64 0, .int .i64 0, .int .i64 0, .int .i64 0, .int .i64 0, .int .i64 0, .int .i64 0, .int .i64 0, .int .i64 0, .int .i64 0, .int .i64 0, .int .i64 0, .int .i64 0, .int .i64 0, .int .i64 0, .int .i64 0, .int .i64 0, .int .i64 0, .int .i64 0, .int .i64 0] rfl rfl HTH.out HIZ.out HZ1.out ?_; refine Hid.out ?_)
  refine Lib.hid ?_
  obtain ⟨W2, hW2⟩ : ∃ W2, (w1.alloc (Obj.cells #[.string ⟨#[]⟩, .slice none 0 0, .slice none 0 0, .int .i64 0, .slice none 0 0, .slice none 0 0, .int .i64 0, .int .i64 0, .int .i64 0, .int .i64 0, .int .i64 0, .int .i64 0, .int .i64 0, .int .i64 0, .int .i64 0, .int .i64 0, .int .i64 0, .int .i64 0, .int .i64 0, .int .i64 0, .int .i64 0, .int .i64 0, .int .i64 0, .int .i64 0, .int .i64 0, .int .i64 0, .int .i64 0, .int .i64 0, .int .i64 0, .int .i64 0, .int .i64 0, .int .i64 0, .int .i64 0, .int .i64 0, .int .i64 0, .int .i64 0, .int .i64 0, .int .i64 0, .int .i64 0, .int .i64 0, .int .i64 0, .int .i64 0, .int .i64 0, .int .i64 0, .int .i64 0, .int .i64 0, .int .i64 0, .int .i64 0, .int .i64 0, .int .i64 0, .int .i64 0, .int .i64 0, .int .i64 0, .int .i64 0] 49)).setCells w1.heap.size 0 (#[.string s, .slice (some ⟨gb, 0, none⟩) cs.length cc, .slice af fs.length cf, .int .i64 d, .slice none 0 0, .slice none 0 0, .int .i64 0, .int .i64 0, .int .i64 0, .int .i64 0, .int .i64 0, .int .i64 0, .int .i64 0, .int .i64 0, .int .i64 0, .int .i64 0, .int .i64 0, .int .i64 0, .int .i64 0, .int .i64 0, .int .i64 0, .int .i64 0, .int .i64 0, .int .i64 0, .int .i64 0, .int .i64 0, .int .i64 0, .int .i64 0, .int .i64 0, .int .i64 0, .int .i64 0, .int .i64 0, .int .i64 0, .int .i64 0, .int .i64 0, .int .i64 0, .int .i64 0, .int .i64 0, .int .i64 0, .int .i64 0, .int .i64 0, .int .i64 0, .int .i64 0, .int .i64 0, .int .i64 0, .int .i64 0, .int .i64 0, .int .i64 0, .int .i64 0, .int .i64 0, .int .i64 0, .int .i64 0, .int .i64 0, .int .i64 0] : Array Value).toList = W2 := ⟨_, rfl⟩
  rw [hW2] at HRW HRB ⊢
  obtain ⟨g, hgd⟩ : ∃ g, w1.heap.size = g := ⟨_, rfl⟩
  have PV2 : Hid (PrS W2 g (.string s) (.slice (some ⟨gb, 0, none⟩) cs.length cc) (.slice af fs.length cf) (.int .i64 d) (.slice none 0 0) (.slice none 0 0) [] [] sp0) := Lib.hid (by
    refine ⟨?_, World.ownsRow_nil _ _ _ _, World.ownsRow_nil _ _ _ _, fun k hk => by cases hk⟩
    have h := HRW.out.heap
    rw [hgd] at h
    unfold PrV
    rw [h, ← HPE.out])
  have hB1w := A1.out.all.2
  have HEA : Hid (EnvA g gb cs af fs.length fs W2) := Lib.hid (by
    have hb2 := HRB.out
    rw [hgd] at hb2
    have all : ∀ w', Below g W2 w' → Below w.heap.size w w' := fun w' b => hB1w.trans ((hb2.trans b).mono (by rw [← hgd]; exact hB1w.size))
    exact ⟨fun w' b => ⟨HGT.out.below (all w' b) hgl, hU.out.below (all w' b), hP.out.below (all w' b)⟩, fun w' b => ⟨hW.out.below (all w' b), hD.out.below (all w' b), HJ.out.below (all w' b)⟩⟩)
  have HPZ1 : Hid (PrV W2 (w.heap.size + 1) (.string ⟨#[]⟩) (.slice none 0 0) (.slice none 0 0) (.int .i64 0) (.slice none 0 0) (.slice none 0 0) sp0) := Lib.hid (P1.out.same (HRB.out.block _ hl1))
  have HBW : Hid (Below w.heap.size w W2) := Lib.hid (hB1w.trans (HRB.out.mono hB1w.size))
  have hgw : w.heap.size + 1 < g := by rw [← hgd]; exact hl1
  rw [hgd]
  have F0 : ∀ w, (Instr.index 74 (.agg #[.func (Fn.func 44) #[] #[], .func (Fn.func 45) #[] #[], .func (Fn.func 46) #[] #[], .func (Fn.func 47) #[] #[]]) (.int .i64 0)).run Tryz.prog w = .ok (.func (Fn.func 44) #[] #[]) w := fun w => by kernel_rfl
  have F1 : ∀ w, (Instr.index 74 (.agg #[.func (Fn.func 44) #[] #[], .func (Fn.func 45) #[] #[], .func (Fn.func 46) #[] #[], .func (Fn.func 47) #[] #[]]) (.int .i64 1)).run Tryz.prog w = .ok (.func (Fn.func 45) #[] #[]) w := fun w => by kernel_rfl
  have F2 : ∀ w, (Instr.index 74 (.agg #[.func (Fn.func 44) #[] #[], .func (Fn.func 45) #[] #[], .func (Fn.func 46) #[] #[], .func (Fn.func 47) #[] #[]]) (.int .i64 2)).run Tryz.prog w = .ok (.func (Fn.func 46) #[] #[]) w := fun w => by kernel_rfl
  have F3 : ∀ w, (Instr.index 74 (.agg #[.func (Fn.func 44) #[] #[], .func (Fn.func 45) #[] #[], .func (Fn.func 46) #[] #[], .func (Fn.func 47) #[] #[]]) (.int .i64 3)).run Tryz.prog w = .ok (.func (Fn.func 47) #[] #[]) w := fun w => by kernel_rfl
  have HWB := Lib.hid (writeBeginning_any g s d _ _ _ _ [] [] sp0 W2 PV2 hnm (by simp) hdf (fun w' b => Lib.hid (HEA.out.e w' b).2.2))
  clear hW2 hgd HRW HRB HTH HIZ HPE HZ1 PN P1 A1 c0 c1 c2 c3 hl1 hB1w AZ PZ hszA
  go_wp2_with fail
  refine wp_loop_rounds 5 ?_
  rw [rounds_succ]
  go_wp2_with (go_at_call 44; refine (HWB.out).mono ?_; rintro e w3 ⟨rfl, ⟨L3, W3, S3, lv3, wv3, ⟨rfl, rfl, rfl⟩, p3⟩, b3⟩; have P3 := Lib.hid p3; have B3 := Lib.hid b3; have E3 := Lib.hid (HEA.out.on b3); clear p3 b3; refine Hid.out ?_)
  refine Lib.hid ?_
  rw [List.nil_append] at P3
  have HWT := Lib.hid (writeTop_any g gb cs.length cc _ _ _ cs HT1.out hcT (Lib.hid rfl) [begS s d ++ ⟨#[32, 123, 10]⟩] sp0 lv3 wv3 w3 P3 (Lib.hid E3.out.env) rfl)
  go_wp2_with fail
  rw [rounds_succ]
  go_wp2_with (go_at_call 45; refine (HWT.out).mono ?_; rintro e w4 ⟨rfl, ⟨L4, W4, S4, lv4, wv4, ⟨rfl, rfl, rfl⟩, p4⟩, b4⟩; have P4 := Lib.hid p4; have B4 := Lib.hid (B3.out.trans b4); have E4 := Lib.hid (E3.out.on b4); clear p4 b4; refine Hid.out ?_)
  refine Lib.hid ?_
  have HWF := Lib.hid (writeFilters_any g gb fs.length cf af _ _ _ cs fs (Lib.hid rfl) hfl HFG _ _ _ lv4 wv4 w4 P4 E4 (by rw [List.length_append, HLnl.out]; simp only [List.length_cons, List.length_nil]; omega))
  go_wp2_with fail
  rw [rounds_succ]
  go_wp2_with (go_at_call 46; refine (HWF.out).mono ?_; rintro e w5 ⟨rfl, ⟨L5, W5, S5, lv5, wv5, ⟨rfl, rfl, rfl⟩, p5⟩, b5⟩; have P5 := Lib.hid p5; have B5 := Lib.hid (B4.out.trans b5); clear p5 b5; refine Hid.out ?_)
  refine Lib.hid ?_
  have HWE := Lib.hid (writeEnd_any g _ _ _ _ lv5 wv5 _ _ _ w5 P5 (by rw [List.length_append, List.length_append, HLnl.out, filtL_len]; simp only [List.length_cons, List.length_nil]; omega))
  go_wp2_with fail
  rw [rounds_succ]
  go_wp2_with (go_at_call 47; refine (HWE.out).mono ?_; rintro e w6 ⟨rfl, ⟨L6, W6, S6, lv6, wv6, ⟨rfl, rfl, rfl⟩, p6⟩, b6⟩; have P6 := Lib.hid p6; have B6 := Lib.hid (B5.out.trans b6); clear p6 b6; refine Hid.out ?_)
  refine Lib.hid ?_
  generalize [begS s d ++ ⟨#[32, 123, 10]⟩] ++ linesP cs 8 1 (topF cs) ++ filtL fs ++ [⟨#[125, 10]⟩] = LL at P6 HLL
  generalize hSS : spanP cs (walkP cs 8 (topF cs)) sp0 = SS at P6 HIQ
  clear hSS
  generalize walkP cs 8 (topF cs) = WW at P6 HWW
  clear HWB HWT HWF HWE F0 F1 F2 F3
  have HPZ6 := Lib.hid (HPZ1.out.same (B6.out.block _ hgw))
  have HBW6 := Lib.hid (HBW.out.trans (B6.out.mono (by omega)))
  obtain ⟨a6, c6, rfl, _⟩ := own_in P6.out.2.1
  obtain ⟨a7, c7, rfl, _⟩ := own_in P6.out.2.2.1
  have HRG := Lib.hid P6.out.1.range
  have HTH : Hid (w6.there (w.heap.size + 1) 0 (pX (.string s) (.slice (some ⟨gb, 0, none⟩) cs.length cc) (.slice af fs.length cf) (.int .i64 d) (.slice a6 LL.length c6) (.slice a7 WW.length c7) SS).toArray.size) := Lib.hid (by rw [pX_asize]; exact HPZ6.out.there)
  have HI1 : Hid ((Tryz.prog.info? 49).map (·.size) = some (pX (.string s) (.slice (some ⟨gb, 0, none⟩) cs.length cc) (.slice af fs.length cf) (.int .i64 d) (.slice a6 LL.length c6) (.slice a7 WW.length c7) SS).length) := Lib.hid (by rw [pX_length]; exact infoP)
  have HI2 : Hid ((Tryz.prog.info? 49).map (·.size) = some (pX (.string s) (.slice (some ⟨gb, 0, none⟩) cs.length cc) (.slice af fs.length cf) (.int .i64 d) (.slice a6 LL.length c6) (.slice a7 WW.length c7) SS).toArray.size) := Lib.hid (by rw [pX_asize]; exact infoP)
  have HON := Lib.hid (pX_one (v0 := .string s) (v1 := .slice (some ⟨gb, 0, none⟩) cs.length cc) (v2 := .slice af fs.length cf) (v3 := .int .i64 d) (lv := .slice a6 LL.length c6) (wv := .slice a7 WW.length c7) (Sp := SS) rfl rfl rfl rfl rfl rfl)
  have HRW6 := Lib.hid ((HPZ6.out.row (B := w.heap.size) (Nat.le_succ _)).put (ys := (pX (.string s) (.slice (some ⟨gb, 0, none⟩) cs.length cc) (.slice af fs.length cf) (.int .i64 d) (.slice a6 LL.length c6) (.slice a7 WW.length c7) SS)) (pX_length _ _ _ _ _ _ _))
  have HRB6 := Lib.hid (setN_below (B := w.heap.size) (g := w.heap.size + 1) (Nat.le_succ _) (pX (.string s) (.slice (some ⟨gb, 0, none⟩) cs.length cc) (.slice af fs.length cf) (.int .i64 d) (.slice a6 LL.length c6) (.slice a7 WW.length c7) SS) 0 w6 HBW6.out)
  have HOL := Lib.hid (own_base (B' := w.heap.size) (own_hp P6.out.2.1 (fun k hk => setCells_other (g := w.heap.size + 1) (by have := (World.ownsRow.lt P6.out.2.1 k hk).1; omega) (pX (.string s) (.slice (some ⟨gb, 0, none⟩) cs.length cc) (.slice af fs.length cf) (.int .i64 d) (.slice a6 LL.length c6) (.slice a7 WW.length c7) SS) 0 w6)) (by omega))
  have HOW := Lib.hid (own_base (B' := w.heap.size) (own_hp P6.out.2.2.1 (fun k hk => setCells_other (g := w.heap.size + 1) (by have := (World.ownsRow.lt P6.out.2.2.1 k hk).1; omega) (pX (.string s) (.slice (some ⟨gb, 0, none⟩) cs.length cc) (.slice af fs.length cf) (.int .i64 d) (.slice a6 LL.length c6) (.slice a7 WW.length c7) SS) 0 w6)) (by omega))
  go_wp2_with fail
  rw [rounds_succ]
  go_upto_region 9 with fail
  go_wp2_with (first | (refine wpList_load_mid rfl 49 _ rfl g 0 rfl (pX (.string s) (.slice (some ⟨gb, 0, none⟩) cs.length cc) (.slice af fs.length cf) (.int .i64 d) (.slice a6 LL.length c6) (.slice a7 WW.length c7) SS) _ HRG.out Tryz.underlying49 rfl HI1.out ?_) | (refine wpList_store_mid rfl 49 _ _ rfl (w.heap.size + 1) 0 (pX (.string s) (.slice (some ⟨gb, 0, none⟩) cs.length cc) (.slice af fs.length cf) (.int .i64 d) (.slice a6 LL.length c6) (.slice a7 WW.length c7) SS).toArray rfl rfl HTH.out HI2.out (all_oneCell_toArray HON.out) ?_))
  exact bodyPost_ret (v := .tuple #[.agg (pX (.string s) (.slice (some ⟨gb, 0, none⟩) cs.length cc) (.slice af fs.length cf) (.int .i64 d) (.slice a6 LL.length c6) (.slice a7 WW.length c7) SS).toArray, .bool true]) (results_row2 (p := 2) (q := 3) rfl _ _ (w.heap.size + 1) 49 _ _ _ (.bool true) rfl rfl HRW6.out.heap Tryz.underlying49 rfl HI2.out) rfl
    ⟨_, _, _, _, _, _, _, by rw [HG.out], HON.out, by rw [HLL.out]; exact HOL.out, by rw [HWW.out]; exact HOW.out, HIQ.out, HRB6.out⟩
theorem printed_any (v : Value) (c : Cfg) (w : World) (HK : Hid (Kwt w)) (HV : Hid (CfgV w v c)) (HM : Hid (CfgM c)) (hU : Hid (Units w)) (hP : Hid (Pow w)) (hW : Hid (FwW w)) (hD : Hid (Dig w)) : Calls Tryz.prog 20 #[v] w (SaysPd w c) := by
  cases hg : goodC c
  · exact printed_bad v c w HK HV HM hg
  · exact printed_good v c w HK HV HM hg hU hP hW hD
end Go.Proofs.YthgbhnedfdnfpaaGreatDoor
