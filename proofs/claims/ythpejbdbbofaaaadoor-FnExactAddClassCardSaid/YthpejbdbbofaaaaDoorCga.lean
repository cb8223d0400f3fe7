/- Chapter 4's functions that return configurations: valid ones, leaves found, copies. -/
import Derived.Test.YthpejbdbbofaaaaDoorCfd
import Derived.Test.YthpejbdbbofaaaaDoorCfn
namespace Go.Proofs.YthpejbdbbofaaaaDoor
set_option maxRecDepth 100000
open Go.RowKit
set_option linter.unusedVariables false

/-- no configuration -/
def zV : Value := .agg #[.string ⟨#[]⟩, .slice none 0 0, .slice none 0 0, .int .i64 0]
def SaysIf (w : World) (v : Value) (b : Bool) (e : Ending) (w' : World) : Prop := e = .returned (.tuple #[if b then v else zV, .bool b]) ∧ Below w.heap.size w w'
set_option maxHeartbeats 3200000 in
theorem ifValid_any (v : Value) (c : Cfg) (w : World) (HK : Hid (Kwt w)) (HV : Hid (CfgV w v c)) (HM : Hid (CfgM c)) :
    Calls Tryd.prog 97 #[v] w (SaysIf w v (goodC c)) := by
  obtain ⟨ac, cc, af, cf, rfl, ic, if_⟩ := HV.out
  obtain ⟨s, cs, fs, d⟩ := c
  have hM := HM.out
  unfold CfgM at hM
  simp only at ic if_ hM HV ⊢
  obtain ⟨q0, q1, q2⟩ := hM
  have HI := Lib.hid ic
  have HJ := Lib.hid if_
  have HVB := Lib.hid (fun w' (b : Below w.heap.size w w') => Lib.hid (HV.out.below b))
  have A0 := Lib.hid (Aft.refl w (Obj.cells #[.string s, .slice ac cs.length cc, .slice af fs.length cf, .int .i64 d] 47))
  clear ic if_
  have HGD := Lib.hid (fun w' (b : Below w.heap.size w w') => implIsConfig_any (.agg #[.string s, .slice ac cs.length cc, .slice af fs.length cf, .int .i64 d]) ⟨s, cs, fs, d⟩ w' (Lib.hid (HK.out.below b)) (HVB.out w' b) HM)
  obtain ⟨b, hb⟩ : ∃ b, goodC ⟨s, cs, fs, d⟩ = b := ⟨_, rfl⟩
  rw [hb] at HGD ⊢
  clear hb
  cases b
  · go_enter Tryd.func97, Tryd.ntmps97
    go_wp2_with (go_at_call 77; refine (HGD.out _ (two_new _ _ _)).mono ?_; rintro e w1 ⟨rfl, b1⟩; have B1 := Lib.hid (two_below b1); have hz1 := two_size b1; obtain ⟨hc1, hf1⟩ := bcell b1; clear b1)
    have F1 : Four w1 (w.heap.size + 1) := by
      refine ⟨?_, ?_, ?_, ?_⟩ <;> rw [hc1 _ _ (by simp)] <;> simp [go_sem]
    obtain ⟨r0, r1, r2, r3⟩ := read4 F1 (.string ⟨#[]⟩) (.slice none 0 0) (.slice none 0 0) (.int .i64 0) _ rfl
    exact bodyPost_ret (v := .tuple #[zV, .bool false]) (by simp [results, Tryd.results97, go_sem, r0, r1, r2, r3, zV]) rfl ⟨rfl, set4 B1.out _ (Nat.le_succ _) _ _ _ _⟩
  · go_enter Tryd.func97, Tryd.ntmps97
    go_wp2_with (go_at_call 77; refine (HGD.out _ (two_new _ _ _)).mono ?_; rintro e w1 ⟨rfl, b1⟩; have B1 := Lib.hid (two_below b1); have hz1 := two_size b1; obtain ⟨hc1, hf1⟩ := bcell b1; clear b1)
    have F1 : Four w1 (w.heap.size + 1) := by
      refine ⟨?_, ?_, ?_, ?_⟩ <;> rw [hc1 _ _ (by simp)] <;> simp [go_sem]
    obtain ⟨r0, r1, r2, r3⟩ := read4 F1 (.string s) (.slice ac cs.length cc) (.slice af fs.length cf) (.int .i64 d) _ rfl
    exact bodyPost_ret (v := .tuple #[(.agg #[.string s, .slice ac cs.length cc, .slice af fs.length cf, .int .i64 d]), .bool true]) (by simp [results, Tryd.results97, go_sem, r0, r1, r2, r3]) rfl ⟨rfl, set4 B1.out _ (Nat.le_succ _) _ _ _ _⟩
set_option maxHeartbeats 3200000 in
theorem cfIf_any (v : Value) (c : Cfg) (w : World) (HV : Hid (CfgV w v c)) (HM : Hid (CfgM c)) :
    Calls Tryd.prog 92 #[v] w (SaysIf w v (goodC c)) := by
  obtain ⟨ac, cc, af, cf, rfl, ic, if_⟩ := HV.out
  obtain ⟨s, cs, fs, d⟩ := c
  have hM := HM.out
  unfold CfgM at hM
  simp only at ic if_ hM HV ⊢
  obtain ⟨q0, q1, q2⟩ := hM
  have HI := Lib.hid ic
  have HJ := Lib.hid if_
  have HVB := Lib.hid (fun w' (b : Below w.heap.size w w') => Lib.hid (HV.out.below b))
  have A0 := Lib.hid (Aft.refl w (Obj.cells #[.string s, .slice ac cs.length cc, .slice af fs.length cf, .int .i64 d] 47))
  clear ic if_
  have HGD := Lib.hid (fun w' (b : Below w.heap.size w w') => cfGood_any (.agg #[.string s, .slice ac cs.length cc, .slice af fs.length cf, .int .i64 d]) ⟨s, cs, fs, d⟩ w' (HVB.out w' b) HM)
  obtain ⟨b, hb⟩ : ∃ b, goodC ⟨s, cs, fs, d⟩ = b := ⟨_, rfl⟩
  rw [hb] at HGD ⊢
  clear hb
  cases b
  · go_enter Tryd.func92, Tryd.ntmps92
    go_wp2_with (go_at_call 79; refine (HGD.out _ (two_new _ _ _)).mono ?_; rintro e w1 ⟨rfl, b1⟩; have B1 := Lib.hid (two_below b1); have hz1 := two_size b1; obtain ⟨hc1, hf1⟩ := bcell b1; clear b1)
    have F1 : Four w1 (w.heap.size + 1) := by
      refine ⟨?_, ?_, ?_, ?_⟩ <;> rw [hc1 _ _ (by simp)] <;> simp [go_sem]
    obtain ⟨r0, r1, r2, r3⟩ := read4 F1 (.string ⟨#[]⟩) (.slice none 0 0) (.slice none 0 0) (.int .i64 0) _ rfl
    exact bodyPost_ret (v := .tuple #[zV, .bool false]) (by simp [results, Tryd.results92, go_sem, r0, r1, r2, r3, zV]) rfl ⟨rfl, set4 B1.out _ (Nat.le_succ _) _ _ _ _⟩
  · go_enter Tryd.func92, Tryd.ntmps92
    go_wp2_with (go_at_call 79; refine (HGD.out _ (two_new _ _ _)).mono ?_; rintro e w1 ⟨rfl, b1⟩; have B1 := Lib.hid (two_below b1); have hz1 := two_size b1; obtain ⟨hc1, hf1⟩ := bcell b1; clear b1)
    have F1 : Four w1 (w.heap.size + 1) := by
      refine ⟨?_, ?_, ?_, ?_⟩ <;> rw [hc1 _ _ (by simp)] <;> simp [go_sem]
    obtain ⟨r0, r1, r2, r3⟩ := read4 F1 (.string s) (.slice ac cs.length cc) (.slice af fs.length cf) (.int .i64 d) _ rfl
    exact bodyPost_ret (v := .tuple #[(.agg #[.string s, .slice ac cs.length cc, .slice af fs.length cf, .int .i64 d]), .bool true]) (by simp [results, Tryd.results92, go_sem, r0, r1, r2, r3]) rfl ⟨rfl, set4 B1.out _ (Nat.le_succ _) _ _ _ _⟩
/-! Leaves found. -/
def fL1 (c : Cfg) (id : Int) : Int := if goodC c && leafB c.cs id then (match fnd c.cs id with | .none => 0 | .some k => (k : Int)) else 0
def fL2 (c : Cfg) (id : Int) : Bool := goodC c && leafB c.cs id
theorem fL_no {c : Cfg} {id : Int} (h : (goodC c && leafB c.cs id) = false) : fL1 c id = 0 ∧ fL2 c id = false := by unfold fL1 fL2; rw [h]; exact ⟨rfl, rfl⟩
theorem fL_yes {c : Cfg} {id : Int} {k : Nat} (h : (goodC c && leafB c.cs id) = true) (hf : fnd c.cs id = Option.some k) : fL1 c id = k ∧ fL2 c id = true := by unfold fL1 fL2; rw [h, hf]; exact ⟨rfl, rfl⟩
theorem run_index_marks (w : World) (cs : List Cls) (n k : Nat) (hk : k < 24) : (Instr.index 113 (.agg (mkX cs n).toArray) (.int .i64 (k : Int))).run Tryd.prog w = .ok (.bool (mkP cs n k)) w := by
  have h1 : (0 : Int) ≤ (k : Int) ∧ (k : Int) < ((24 : Nat) : Int) := by omega
  have h2 := mkX_get cs n k hk
  simp [Instr.index, run_underlying Tryd.underlying113, asIntOf, h1, go_sem, h2]
  intro h; omega
end Go.Proofs.YthpejbdbbofaaaaDoor
