/- Numbers of two bytes and panics: the program's. -/
import Derived.Test.YtgnobmmlmmbfcaaAts
import Derived.Test.YtgnobmmlmmbfcaaAtj
import Derived.Test.YtgnobmmlmmbfcaaLit
import Derived.Test.YtgnobmmlmmbfcaaAti
namespace Go.Proofs.Ytgnobmmlmmbfcaa
open Go.RowKit
set_option linter.unusedVariables false
set_option linter.unusedSimpArgs false
set_option maxRecDepth 100000

theorem slice_at2 (s : ByteArray) (a b : Nat) (x y : Int) (hx : x = (a : Int)) (hy : y = (b : Int)) (h1 : a ≤ b) (h2 : b ≤ s.size) (w : World) : (Instr.slice 9 (.string s) (some (.int .i64 x)) (some (.int .i64 y)) none).run Try.prog w = .ok (.string (s.extract a b)) w := by
  subst hx hy
  have := run_slice_string (P := Try.prog) w 9 s .i64 .i64 (a : Int) (b : Int) Try.underlying9 (by omega) (by omega) (by omega)
  simpa using this
/-- a call that panics with a fault -/
def pnE (p : Nat × Nat) : Ending := .panicked [{ v := .iface 24 (fuV p), recovered := false }]
set_option maxHeartbeats 1600000 in
theorem refuse_yes (k a : Nat) (w : World) :
    Calls Try.prog 17 #[.bool true, .int .i64 (k : Int), .int .i64 (a : Int)] w (fun e w' => e = pnE (k, a) ∧ w = w') := by
  unfold pnE fuV
  go_enter Try.func17, Try.ntmps17
  go_wp2
  exact ⟨rfl, rfl, rfl⟩
theorem nm_two (s : ByteArray) (a : Nat) (h : a + 2 ≤ s.size) : nmL (s.extract a (a + 2)) = [(byS s a : Int), (byS s (a + 1) : Int)] := by
  have ha : a < s.size := by omega
  have hb : a + 1 < s.size := by omega
  have la : a < s.data.toList.length := ha
  have lb : a + 1 < s.data.toList.length := hb
  have ea : byS s a = (s.data.toList[a]).toNat := by rw [byS_eq ha]; rfl
  have eb : byS s (a + 1) = (s.data.toList[a + 1]).toNat := by rw [byS_eq hb]; rfl
  unfold nmL
  rw [Lib.extract_data, List.drop_eq_getElem_cons la, List.drop_eq_getElem_cons lb, show a + 2 - a = 2 by omega, ea, eb]
  rfl
theorem le_two (b c : Int) : leV ([b, c].drop (0 : Int).toNat) (2 : Int).toNat = b + 256 * c := by
  show (0 + b * 256 ^ 0) + c * 256 ^ 1 = _
  omega
set_option maxHeartbeats 6400000 in
theorem pairAt_any (g a : Nat) (v : Value) (s : ByteArray) (w : World) (HB : Hid (BoxAt w g #[.string s, v] 45)) (ha : a + 2 ≤ s.size) (hs : s.size ≤ 6000) :
    Calls Try.prog 23 #[.pointer (some ⟨g, 0, none⟩), .int .i64 (a : Int)] w fun e w' => e = .returned (.int .i64 ((rdS s a : Nat) : Int)) ∧ Below w.heap.size w w' := by
  have HN := Lib.hid (nm_two s a ha)
  have HX : Hid (((rdS s a : Nat) : Int) = (byS s a : Int) + 256 * (byS s (a + 1) : Int)) := Lib.hid (by unfold rdS; omega)
  have hb0 := byS_lt s a
  have hb1 := byS_lt s (a + 1)
  have c0 : w.cell? ⟨g, 0, none⟩ = some (.string s) := HB.out.cell 0
  have hw2 : IntKind.i64.wrap ((a : Int) + 2) = (a : Int) + 2 := IntWalk.i64_in _ (by omega)
  have sz : (s.extract a (a + 2)).size = 2 := by rw [ByteArray.size_extract]; omega
  have HSl := slice_at2 s a (a + 2) (a : Int) ((a : Int) + 2) rfl (by omega) (by omega) ha
  have CR := conv_row (s.extract a (a + 2)) w
  generalize ((rdS s a : Nat) : Int) = R at HX ⊢
  generalize byS s a = b at HN HX hb0
  generalize byS s (a + 1) = c at HN HX hb1
  generalize s.extract a (a + 2) = sx at sz HSl HN CR
  rw [sz, HN.out] at CR
  have HCR := Lib.hid CR
  have cv := fun w' => run_bytes_of_string (P := Try.prog) w' 9 47 5 sx Try.underlying9 Try.underlying47 Try.underlying5
  simp only [sz] at cv
  clear CR ha hs
  go_enter Try.func23, Try.ntmps23
  go_wp2_with fail
  generalize (w.alloc (.cells (bytesRow sx (grownCap w 2 0 5)) 5 ((bytesRow sx (grownCap w 2 0 5)).size, (bytesRow sx (grownCap w 2 0 5)).size + 1))).drew = W1 at HCR ⊢
  have HRL := Lib.hid (fun cap => implRead_some w.heap.size 0 2 cap [(b : Int), (c : Int)] 0 2 W1 (Lib.hid rfl) (Lib.hid ⟨fun i hi => HCR.out.1.1.at i (bv_get _ i hi), by intro n hn; simp at hn; omega⟩) (by omega) (by omega) (by omega) (Lib.hid (by unfold IsW; omega)))
  rw [le_two] at HRL
  clear cv HSl hw2 sz HN c0
  refine (HRL.out _).mono ?_
  rintro e w' ⟨rfl, rfl⟩
  go_wp2_with fail
  go_ret
  exact ⟨ret_int2 HX.out.symm, HCR.out.2⟩
end Go.Proofs.Ytgnobmmlmmbfcaa
