/- Chapter 4's functions that return configurations: valid ones, leaves found, copies. -/
import Derived.Test.YtdmcgjohpnojkaaGreatDoorCfd
import Derived.Test.YtdmcgjohpnojkaaGreatDoorCfn
namespace Go.Proofs.YtdmcgjohpnojkaaGreatDoor
set_option maxRecDepth 100000
open Go.RowKit
set_option linter.unusedVariables false

/-- no configuration -/
def zV : Value := .agg #[.string ⟨#[]⟩, .slice none 0 0, .slice none 0 0, .int .i64 0]
def SaysIf (w : World) (v : Value) (b : Bool) (e : Ending) (w' : World) : Prop := e = .returned (.tuple #[if b then v else zV, .bool b]) ∧ Below w.heap.size w w'
set_option maxHeartbeats 3200000 in
theorem ifValid_any (v : Value) (c : Cfg) (w : World) (HK : Hid (Kwt w)) (HV : Hid (CfgV w v c)) (HM : Hid (CfgM c)) :
    Calls Tryz.prog 86 #[v] w (SaysIf w v (goodC c)) := by
  obtain ⟨ac, cc, af, cf, rfl, ic, if_⟩ := HV.out
  obtain ⟨s, cs, fs, d⟩ := c
  have hM := HM.out
  unfold CfgM at hM
  simp only at ic if_ hM HV ⊢
  obtain ⟨q0, q1, q2⟩ := hM
  have HI := Lib.hid ic
  have HJ := Lib.hid if_
  have HVB := Lib.hid (fun w' (b : Below w.heap.size w w') => Lib.hid (HV.out.below b))
  have A0 := Lib.hid (Aft.refl w (Obj.cells #[.string s, .slice ac cs.length cc, .slice af fs.length cf, .int .i64 d] 54))
  clear ic if_
  have HGD := Lib.hid (fun w' (b : Below w.heap.size w w') => implIsConfig_any (.agg #[.string s, .slice ac cs.length cc, .slice af fs.length cf, .int .i64 d]) ⟨s, cs, fs, d⟩ w' (Lib.hid (HK.out.below b)) (HVB.out w' b) HM)
  obtain ⟨b, hb⟩ : ∃ b, goodC ⟨s, cs, fs, d⟩ = b := ⟨_, rfl⟩
  rw [hb] at HGD ⊢
  clear hb
  cases b
  · go_enter Tryz.func86, Tryz.ntmps86
    go_wp2_with (go_at_call 44; refine (HGD.out _ (two_new _ _ _)).mono ?_; rintro e w1 ⟨rfl, b1⟩; have B1 := Lib.hid (two_below b1); have hz1 := two_size b1; obtain ⟨hc1, hf1⟩ := bcell b1; clear b1)
    have F1 : Four w1 (w.heap.size + 1) := by
      refine ⟨?_, ?_, ?_, ?_⟩ <;> rw [hc1 _ _ (by simp)] <;> simp [go_sem]
    obtain ⟨r0, r1, r2, r3⟩ := read4 F1 (.string ⟨#[]⟩) (.slice none 0 0) (.slice none 0 0) (.int .i64 0) _ rfl
    exact bodyPost_ret (v := .tuple #[zV, .bool false]) (by simp [results, Tryz.results86, go_sem, r0, r1, r2, r3, zV]) rfl ⟨rfl, set4 B1.out _ (Nat.le_succ _) _ _ _ _⟩
  · go_enter Tryz.func86, Tryz.ntmps86
    go_wp2_with (go_at_call 44; refine (HGD.out _ (two_new _ _ _)).mono ?_; rintro e w1 ⟨rfl, b1⟩; have B1 := Lib.hid (two_below b1); have hz1 := two_size b1; obtain ⟨hc1, hf1⟩ := bcell b1; clear b1)
    have F1 : Four w1 (w.heap.size + 1) := by
      refine ⟨?_, ?_, ?_, ?_⟩ <;> rw [hc1 _ _ (by simp)] <;> simp [go_sem]
    obtain ⟨r0, r1, r2, r3⟩ := read4 F1 (.string s) (.slice ac cs.length cc) (.slice af fs.length cf) (.int .i64 d) _ rfl
    exact bodyPost_ret (v := .tuple #[(.agg #[.string s, .slice ac cs.length cc, .slice af fs.length cf, .int .i64 d]), .bool true]) (by simp [results, Tryz.results86, go_sem, r0, r1, r2, r3]) rfl ⟨rfl, set4 B1.out _ (Nat.le_succ _) _ _ _ _⟩
set_option maxHeartbeats 3200000 in
theorem cfIf_any (v : Value) (c : Cfg) (w : World) (HV : Hid (CfgV w v c)) (HM : Hid (CfgM c)) :
    Calls Tryz.prog 87 #[v] w (SaysIf w v (goodC c)) := by
  obtain ⟨ac, cc, af, cf, rfl, ic, if_⟩ := HV.out
  obtain ⟨s, cs, fs, d⟩ := c
  have hM := HM.out
  unfold CfgM at hM
  simp only at ic if_ hM HV ⊢
  obtain ⟨q0, q1, q2⟩ := hM
  have HI := Lib.hid ic
  have HJ := Lib.hid if_
  have HVB := Lib.hid (fun w' (b : Below w.heap.size w w') => Lib.hid (HV.out.below b))
  have A0 := Lib.hid (Aft.refl w (Obj.cells #[.string s, .slice ac cs.length cc, .slice af fs.length cf, .int .i64 d] 54))
  clear ic if_
  have HGD := Lib.hid (fun w' (b : Below w.heap.size w w') => cfGood_any (.agg #[.string s, .slice ac cs.length cc, .slice af fs.length cf, .int .i64 d]) ⟨s, cs, fs, d⟩ w' (HVB.out w' b) HM)
  obtain ⟨b, hb⟩ : ∃ b, goodC ⟨s, cs, fs, d⟩ = b := ⟨_, rfl⟩
  rw [hb] at HGD ⊢
  clear hb
  cases b
  · go_enter Tryz.func87, Tryz.ntmps87
    go_wp2_with (go_at_call 77; refine (HGD.out _ (two_new _ _ _)).mono ?_; rintro e w1 ⟨rfl, b1⟩; have B1 := Lib.hid (two_below b1); have hz1 := two_size b1; obtain ⟨hc1, hf1⟩ := bcell b1; clear b1)
    have F1 : Four w1 (w.heap.size + 1) := by
      refine ⟨?_, ?_, ?_, ?_⟩ <;> rw [hc1 _ _ (by simp)] <;> simp [go_sem]
    obtain ⟨r0, r1, r2, r3⟩ := read4 F1 (.string ⟨#[]⟩) (.slice none 0 0) (.slice none 0 0) (.int .i64 0) _ rfl
    exact bodyPost_ret (v := .tuple #[zV, .bool false]) (by simp [results, Tryz.results87, go_sem, r0, r1, r2, r3, zV]) rfl ⟨rfl, set4 B1.out _ (Nat.le_succ _) _ _ _ _⟩
  · go_enter Tryz.func87, Tryz.ntmps87
    go_wp2_with (go_at_call 77; refine (HGD.out _ (two_new _ _ _)).mono ?_; rintro e w1 ⟨rfl, b1⟩; have B1 := Lib.hid (two_below b1); have hz1 := two_size b1; obtain ⟨hc1, hf1⟩ := bcell b1; clear b1)
    have F1 : Four w1 (w.heap.size + 1) := by
      refine ⟨?_, ?_, ?_, ?_⟩ <;> rw [hc1 _ _ (by simp)] <;> simp [go_sem]
    obtain ⟨r0, r1, r2, r3⟩ := read4 F1 (.string s) (.slice ac cs.length cc) (.slice af fs.length cf) (.int .i64 d) _ rfl
    exact bodyPost_ret (v := .tuple #[(.agg #[.string s, .slice ac cs.length cc, .slice af fs.length cf, .int .i64 d]), .bool true]) (by simp [results, Tryz.results87, go_sem, r0, r1, r2, r3]) rfl ⟨rfl, set4 B1.out _ (Nat.le_succ _) _ _ _ _⟩
/-! Leaves found. -/
def fL1 (c : Cfg) (id : Int) : Int := if goodC c && leafB c.cs id then (match fnd c.cs id with | .none => 0 | .some k => (k : Int)) else 0
def fL2 (c : Cfg) (id : Int) : Bool := goodC c && leafB c.cs id
theorem fL_no {c : Cfg} {id : Int} (h : (goodC c && leafB c.cs id) = false) : fL1 c id = 0 ∧ fL2 c id = false := by unfold fL1 fL2; rw [h]; exact ⟨rfl, rfl⟩
theorem fL_yes {c : Cfg} {id : Int} {k : Nat} (h : (goodC c && leafB c.cs id) = true) (hf : fnd c.cs id = Option.some k) : fL1 c id = k ∧ fL2 c id = true := by unfold fL1 fL2; rw [h, hf]; exact ⟨rfl, rfl⟩
theorem run_index_marks (w : World) (cs : List Cls) (n k : Nat) (hk : k < 24) : (Instr.index 123 (.agg (mkX cs n).toArray) (.int .i64 (k : Int))).run Tryz.prog w = .ok (.bool (mkP cs n k)) w := by
  have h1 : (0 : Int) ≤ (k : Int) ∧ (k : Int) < ((24 : Nat) : Int) := by omega
  have h2 := mkX_get cs n k hk
  simp [Instr.index, run_underlying Tryz.underlying123, asIntOf, h1, go_sem, h2]
  intro h; omega
set_option maxHeartbeats 3200000 in
theorem findLeaf_any (v : Value) (c : Cfg) (id : Int) (w : World) (HK : Hid (Kwt w)) (HV : Hid (CfgV w v c)) (HM : Hid (CfgM c)) :
    Calls Tryz.prog 93 #[v, .int .i64 id] w (SaysT2 w (.int .i64 (fL1 c id)) (.bool (fL2 c id))) := by
  obtain ⟨ac, cc, af, cf, rfl, ic, if_⟩ := HV.out
  obtain ⟨s, cs, fs, d⟩ := c
  have hM := HM.out
  unfold CfgM at hM
  simp only at ic if_ hM HV ⊢
  obtain ⟨q0, q1, q2⟩ := hM
  have HI := Lib.hid ic
  have HJ := Lib.hid if_
  have HVB := Lib.hid (fun w' (b : Below w.heap.size w w') => Lib.hid (HV.out.below b))
  have A0 := Lib.hid (Aft.refl w (Obj.cells #[.string s, .slice ac cs.length cc, .slice af fs.length cf, .int .i64 d] 54))
  clear ic if_
  have HFC := Lib.hid (fun w' (b : Below w.heap.size w w') => implFindClass_any (.agg #[.string s, .slice ac cs.length cc, .slice af fs.length cf, .int .i64 d]) ⟨s, cs, fs, d⟩ id w' (Lib.hid (HK.out.below b)) (HVB.out w' b) HM)
  cases hg : goodC ⟨s, cs, fs, d⟩
  · obtain ⟨x1, x2⟩ := fc_bad id hg
    obtain ⟨y1, y2⟩ := fL_no (c := ⟨s, cs, fs, d⟩) (id := id) (by rw [hg]; rfl)
    rw [x1, x2] at HFC
    rw [y1, y2]
    clear x1 x2 y1 y2 hg
    go_enter Tryz.func93, Tryz.ntmps93
    go_wp2_with (go_at_call 29; refine (HFC.out _ A0.out.all.2).mono ?_; rintro e w1 ⟨rfl, b1⟩; have A1 := Lib.hid (A0.out.on b1); clear b1)
    go_ret2
    exact ⟨rfl, A1.out.all.2⟩
  · cases hf : fnd cs id with
    | none =>
      obtain ⟨x1, x2⟩ := fc_none id hg hf
      obtain ⟨y1, y2⟩ := fL_no (c := ⟨s, cs, fs, d⟩) (id := id) (by unfold leafB; simp only; rw [hf]; simp)
      rw [x1, x2] at HFC
      rw [y1, y2]
      clear x1 x2 y1 y2 hg hf
      go_enter Tryz.func93, Tryz.ntmps93
      go_wp2_with (go_at_call 29; refine (HFC.out _ A0.out.all.2).mono ?_; rintro e w1 ⟨rfl, b1⟩; have A1 := Lib.hid (A0.out.on b1); clear b1)
      go_ret2
      exact ⟨rfl, A1.out.all.2⟩
    | some k =>
      obtain ⟨x1, x2⟩ := fc_some id hg hf
      have G := good_of hg
      have h24 : cs.length ≤ 24 := G.n24
      have HIN := Lib.hid (okL_inc cs 0 G.ok)
      have hk := fnd_get cs id k hf
      have HPM := Lib.hid (fun w' HI => parentMarks_any ac cs.length cc cs w' HI (Lib.hid rfl) q1 HIN h24)
      have hix := fun w => run_index_marks w cs cs.length k (by omega)
      have hmk := mkP_all HIN.out cs.length k rfl hk.1
      rw [hk.2] at hmk
      have hlb : leafB cs id = !hasK cs id := by unfold leafB; rw [hf]; rfl
      rw [x1, x2] at HFC
      rw [hmk] at hix
      cases hh : hasK cs id
      · obtain ⟨y1, y2⟩ := fL_yes (c := ⟨s, cs, fs, d⟩) (id := id) (k := k) (by simp only; rw [hg, hlb, hh]; rfl) hf
        rw [y1, y2]
        rw [hh] at hix
        clear x1 x2 y1 y2 hg hf G hk hmk hlb hh
        go_enter Tryz.func93, Tryz.ntmps93
        go_wp2_with (go_at_call 29; refine (HFC.out _ A0.out.all.2).mono ?_; rintro e w1 ⟨rfl, b1⟩; have A1 := Lib.hid (A0.out.on b1); obtain ⟨c0, c1, c2, c3, _⟩ := A1.out.all.1; clear b1)
        go_wp2_with (go_at_call 95; refine (HPM.out _ (Lib.hid (HI.out.below A1.out.all.2))).mono ?_; rintro e w2 ⟨rfl, b2⟩; have A2 := Lib.hid (A1.out.on b2); clear b2)
        go_ret2
        exact ⟨rfl, A2.out.all.2⟩
      · obtain ⟨y1, y2⟩ := fL_no (c := ⟨s, cs, fs, d⟩) (id := id) (by simp only; rw [hlb, hh]; simp)
        rw [y1, y2]
        rw [hh] at hix
        clear x1 x2 y1 y2 hg hf G hk hmk hlb hh
        go_enter Tryz.func93, Tryz.ntmps93
        go_wp2_with (go_at_call 29; refine (HFC.out _ A0.out.all.2).mono ?_; rintro e w1 ⟨rfl, b1⟩; have A1 := Lib.hid (A0.out.on b1); obtain ⟨c0, c1, c2, c3, _⟩ := A1.out.all.1; clear b1)
        go_wp2_with (go_at_call 95; refine (HPM.out _ (Lib.hid (HI.out.below A1.out.all.2))).mono ?_; rintro e w2 ⟨rfl, b2⟩; have A2 := Lib.hid (A1.out.on b2); clear b2)
        go_ret2
        exact ⟨rfl, A2.out.all.2⟩
end Go.Proofs.YtdmcgjohpnojkaaGreatDoor
