/- Chapter 8: indices of what meets a condition, and what the model and the program ask of each configuration first. -/
import Derived.Test.YtfijhgggljaomaaDoorVap
import Derived.Test.YtfijhgggljaomaaDoorCft
import Derived.Test.YtfijhgggljaomaaDoorCpb
namespace Go.Proofs.YtfijhgggljaomaaDoor
set_option maxRecDepth 100000
open Go.RowKit
set_option linter.unusedVariables false

/-- the numbers from one on that meet a condition -/
def selF (P : Nat → Bool) (n k : Nat) : List Nat := (List.range' k (n - k)).filter P
theorem selF_yes {P : Nat → Bool} {n k : Nat} (h : k < n) (hP : P k = true) : selF P n k = k :: selF P n (k + 1) := by
  unfold selF
  rw [show n - k = (n - (k + 1)) + 1 by omega, List.range'_succ, List.filter_cons, if_pos hP]
theorem selF_no {P : Nat → Bool} {n k : Nat} (h : k < n) (hP : P k = false) : selF P n k = selF P n (k + 1) := by
  unfold selF
  rw [show n - k = (n - (k + 1)) + 1 by omega, List.range'_succ, List.filter_cons, if_neg (by rw [hP]; simp)]
theorem selF_end (P : Nat → Bool) {n k : Nat} (h : n ≤ k) : selF P n k = [] := by
  unfold selF
  rw [show n - k = 0 by omega]; rfl
theorem selF_len (P : Nat → Bool) (n k : Nat) : (selF P n k).length ≤ n := by
  unfold selF
  have := List.length_filter_le P (List.range' k (n - k))
  rw [List.length_range'] at this
  omega
theorem selF_congr {P Q : Nat → Bool} {n : Nat} (k : Nat) (h : ∀ j, j < n → P j = Q j) : selF P n k = selF Q n k := by
  unfold selF
  apply List.filter_congr
  intro j hj
  have := List.mem_range'_1.1 hj
  exact h j (by omega)
def rawC (c : Cfg) : Bool := decide ((c.cs.length : Int) ≤ 40) && decide ((c.fs.length : Int) ≤ 40)
theorem raw_of {c : Cfg} (h : rawC c = true) : c.cs.length ≤ 40 ∧ c.fs.length ≤ 40 := by
  unfold rawC at h
  simp only [Bool.and_eq_true, decide_eq_true_eq] at h
  omega
def selC (P : Cfg → Nat → Bool) (c : Cfg) : List Nat := if rawC c then selF (P c) c.cs.length 0 else []
def selT (P : Cfg → Nat → Bool) (c : Cfg) : List Nat := if rawC c then selF (P c) c.fs.length 0 else []
theorem selC_len (P : Cfg → Nat → Bool) (c : Cfg) : (selC P c).length ≤ 40 := by
  unfold selC
  by_cases h : rawC c = true
  · rw [if_pos h]; have := selF_len (P c) c.cs.length 0; have := (raw_of h).1; omega
  · rw [if_neg h]; simp
theorem selT_len (P : Cfg → Nat → Bool) (c : Cfg) : (selT P c).length ≤ 40 := by
  unfold selT
  by_cases h : rawC c = true
  · rw [if_pos h]; have := selF_len (P c) c.fs.length 0; have := (raw_of h).2; omega
  · rw [if_neg h]; simp
theorem selC_bad {P : Cfg → Nat → Bool} {c : Cfg} (h : rawC c = false) : selC P c = [] := by unfold selC; rw [h]; rfl
theorem selT_bad {P : Cfg → Nat → Bool} {c : Cfg} (h : rawC c = false) : selT P c = [] := by unfold selT; rw [h]; rfl
theorem selC_ok {P : Cfg → Nat → Bool} {c : Cfg} (h : rawC c = true) : selC P c = selF (P c) c.cs.length 0 := by unfold selC; rw [h]; rfl
theorem selT_ok {P : Cfg → Nat → Bool} {c : Cfg} (h : rawC c = true) : selT P c = selF (P c) c.fs.length 0 := by unfold selT; rw [h]; rfl
def SaysVS (w : World) (K : List Nat) (b : Bool) (e : Ending) (w' : World) : Prop := ∃ v, e = .returned (.tuple #[v, .bool b]) ∧ w'.ownsRow w.heap.size 3 1 v K.length (nv K) ∧ Below w.heap.size w w'
def VRel (w : World) (o : Obj) (n : Nat) (P : Nat → Bool) (K : List Nat) (out i : Value) (wr : World) : Prop :=
  ∃ (k : Nat) (ks : List Nat), k ≤ n ∧ ks.length ≤ k ∧ i = .int .i64 k ∧ Aft w o wr ∧ wr.ownsRow (w.heap.size + 1) 3 1 out ks.length (nv ks) ∧ Hid (ks ++ selF P n k = K)
/-- what the five searches look for -/
def badP (c : Cfg) (k : Nat) : Bool := ((c.cs.getD k cls0).p != 0) && (fnd c.cs (c.cs.getD k cls0).p).isNone
def cycP (c : Cfg) (k : Nat) : Bool := vcy c.cs k c.cs.length k
def deepQ (c : Cfg) (k : Nat) : Bool := !inB (vwN c.cs c.cs.length 1 k) 1 8
def overP (c : Cfg) (k : Nat) : Bool := decide (spare c.cs (c.cs.getD k cls0) < 0)
def tgtP (c : Cfg) (k : Nat) : Bool := !leafB c.cs (c.fs.getD k flt0).t
set_option maxHeartbeats 1600000 in
theorem vaAsked_any (v : Value) (c : Cfg) (w : World) (HV : Hid (CfgV w v c)) (HM : Hid (CfgM c)) :
    Calls Tryd.prog 18 #[v] w (SaysB w (rawC c)) := by
  obtain ⟨ac, cc, af, cf, rfl, ic, if_⟩ := HV.out
  obtain ⟨s, cs, fs, d⟩ := c
  have hM := HM.out
  unfold CfgM at hM
  simp only at ic if_ hM HV ⊢
  obtain ⟨q0, q1, q2⟩ := hM
  have HI := Lib.hid ic
  have HJ := Lib.hid if_
  have HVB := Lib.hid (fun w' (b : Below w.heap.size w w') => Lib.hid (HV.out.below b))
  have A0 := Lib.hid (Aft.refl w (Obj.cells #[.string s, .slice ac cs.length cc, .slice af fs.length cf, .int .i64 d] 32))
  clear ic if_
  have HX : Hid (rawC ⟨s, cs, fs, d⟩ = (decide ((cs.length : Int) ≤ 40) && decide ((fs.length : Int) ≤ 40))) := Lib.hid rfl
  obtain ⟨b1, d1⟩ : ∃ b, decide ((cs.length : Int) ≤ 40) = b := ⟨_, rfl⟩
  obtain ⟨b2, d2⟩ : ∃ b, decide ((fs.length : Int) ≤ 40) = b := ⟨_, rfl⟩
  rw [d1, d2] at HX
  generalize rawC ⟨s, cs, fs, d⟩ = B at HX ⊢
  go_enter Tryd.func18, Tryd.ntmps18
  cases b1
  · go_wp2_with fail
    go_ret
    exact ⟨ret_bool (by rw [HX.out]; rfl), A0.out.all.2⟩
  · go_wp2_with fail
    go_ret
    exact ⟨ret_bool (by rw [HX.out]; rfl), A0.out.all.2⟩
set_option maxHeartbeats 1600000 in
theorem isRaw_any (v : Value) (c : Cfg) (w : World) (HV : Hid (CfgV w v c)) (HM : Hid (CfgM c)) :
    Calls Tryd.prog 23 #[v] w (SaysB w (rawC c)) := by
  obtain ⟨ac, cc, af, cf, rfl, ic, if_⟩ := HV.out
  obtain ⟨s, cs, fs, d⟩ := c
  have hM := HM.out
  unfold CfgM at hM
  simp only at ic if_ hM HV ⊢
  obtain ⟨q0, q1, q2⟩ := hM
  have HI := Lib.hid ic
  have HJ := Lib.hid if_
  have HVB := Lib.hid (fun w' (b : Below w.heap.size w w') => Lib.hid (HV.out.below b))
  have A0 := Lib.hid (Aft.refl w (Obj.cells #[.string s, .slice ac cs.length cc, .slice af fs.length cf, .int .i64 d] 32))
  clear ic if_
  have HX : Hid (rawC ⟨s, cs, fs, d⟩ = (decide ((cs.length : Int) ≤ 40) && decide ((fs.length : Int) ≤ 40))) := Lib.hid rfl
  obtain ⟨b1, d1⟩ : ∃ b, decide ((cs.length : Int) ≤ 40) = b := ⟨_, rfl⟩
  obtain ⟨b2, d2⟩ : ∃ b, decide ((fs.length : Int) ≤ 40) = b := ⟨_, rfl⟩
  rw [d1, d2] at HX
  generalize rawC ⟨s, cs, fs, d⟩ = B at HX ⊢
  go_enter Tryd.func23, Tryd.ntmps23
  cases b1
  · go_wp2_with fail
    go_ret
    exact ⟨ret_bool (by rw [HX.out]; rfl), A0.out.all.2⟩
  · go_wp2_with fail
    go_ret
    exact ⟨ret_bool (by rw [HX.out]; rfl), A0.out.all.2⟩
end Go.Proofs.YtfijhgggljaomaaDoor
