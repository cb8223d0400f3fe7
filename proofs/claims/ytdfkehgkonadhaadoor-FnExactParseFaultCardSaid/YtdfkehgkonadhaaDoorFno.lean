/- KindName, KindNamed: the rest of both sides; the fact that the names are in their place. -/
import Derived.Test.YtdfkehgkonadhaaDoorFnm
import Derived.Test.YtdfkehgkonadhaaDoorFlw
namespace Go.Proofs.YtdfkehgkonadhaaDoor
set_option maxRecDepth 100000
open Go.RowKit
set_option linter.unusedVariables false

theorem ret_sb {a b : ByteArray} {p q : Bool} (h : a = b) (h' : p = q) : Ending.returned (.tuple #[.string a, .bool p]) = .returned (.tuple #[.string b, .bool q]) := by rw [h, h']
def resKN (k : Int) : ByteArray := if inB k 0 7 = true then kn k.toNat else ⟨#[]⟩
theorem kn_no {k : Int} (h : inB k 0 7 = false) : resKN k = ⟨#[]⟩ := by unfold resKN; rw [if_neg (by rw [h]; simp)]
theorem kn_yes {k : Int} (h : inB k 0 7 = true) : ∃ n : Nat, k = n ∧ n < 8 ∧ resKN k = kn n := by
  have h' := h
  unfold inB at h'
  simp only [Bool.and_eq_true, decide_eq_true_eq] at h'
  exact ⟨k.toNat, by omega, by omega, by unfold resKN; rw [if_pos h]⟩
set_option maxHeartbeats 800000 in
theorem specKindName_any (k : Int) (w : World) : Calls Tryd.prog 11 #[.int .i64 k] w (SaysT2 w (.string (resKN k)) (.bool (inB k 0 7))) := by
  have HI := Lib.hid (fun w => l1In_any k 0 7 w)
  cases h : inB k 0 7
  · have HR := Lib.hid (kn_no h)
    rw [h] at HI
    generalize resKN k = R at HR ⊢
    clear h
    go_enter Tryd.func11, Tryd.ntmps11
    go_wp2_with (go_at_call 29; refine (HI.out _).mono ?_; rintro e w' ⟨rfl, rfl⟩)
    go_ret2
    exact ⟨ret_sb HR.out.symm rfl, Below.refl _ _⟩
  · obtain ⟨n, rfl, hn, hr⟩ := kn_yes h
    have HR := Lib.hid hr
    rw [h] at HI
    generalize resKN (n : Int) = R at HR ⊢
    clear h hr
    go_enter Tryd.func11, Tryd.ntmps11
    go_wp2_with (go_at_call 29; refine (HI.out _).mono ?_; rintro e w' ⟨rfl, rfl⟩)
    go_wp2_with (go_at_call 30; refine (erNames_any _).mono ?_; rintro e w1 ⟨rfl, ht, b1⟩; have B1 := Lib.hid b1; have hc : w1.cell? ⟨w.heap.size, n, none⟩ = some (.string (kn n)) := ht n hn; clear ht b1)
    go_ret2
    exact ⟨ret_sb HR.out.symm rfl, B1.out⟩
set_option maxHeartbeats 800000 in
theorem implKindName_any (k : Int) (w : World) (hK : Hid (Knt w)) : Calls Tryd.prog 12 #[.int .i64 k] w (SaysT2 w (.string (resKN k)) (.bool (inB k 0 7))) := by
  have HI := Lib.hid (fun w => isIn_any k 0 7 w)
  cases h : inB k 0 7
  · have HR := Lib.hid (kn_no h)
    rw [h] at HI
    generalize resKN k = R at HR ⊢
    clear h
    go_enter Tryd.func12, Tryd.ntmps12
    go_wp2_with (go_at_call 31; refine (HI.out _).mono ?_; rintro e w' ⟨rfl, rfl⟩)
    go_ret2
    exact ⟨ret_sb HR.out.symm rfl, Below.refl _ _⟩
  · obtain ⟨n, rfl, hn, hr⟩ := kn_yes h
    have HR := Lib.hid hr
    rw [h] at HI
    have hc := hK.out.at n hn
    generalize resKN (n : Int) = R at HR ⊢
    clear h hr
    go_enter Tryd.func12, Tryd.ntmps12
    go_wp2_with (go_at_call 31; refine (HI.out _).mono ?_; rintro e w' ⟨rfl, rfl⟩)
    go_ret2
    exact ⟨ret_sb HR.out.symm rfl, Below.refl _ _⟩
open Go.Maps in
set_option maxHeartbeats 1600000 in
theorem implKindNamed_any (s : ByteArray) (w : World) (hK : Hid (Knt w)) (hs : s.size ≤ 1048576) : Calls Tryd.prog 14 #[.string s] w (SaysT2 w (.int .i64 (kdV s)) (.bool (kdB s))) := by
  have HM := Lib.hid (kindsByName_any w hK)
  have hkey : Hid (keyOf Tryd.prog 9 (.string s) = some (.string s.data.toList)) := Lib.hid (Go.WideMaps.keyOf_string_mk Tryd.underlying9 (by unfold maxLen; omega))
  have HB : Hid (Maps.has (erM 8 : DataW Unit) (.string s.data.toList) = kdB s) := Lib.hid (by rw [has_erM, last_kd]; rfl)
  have HV : Hid (∀ c : Int, (erM 8 : DataW Unit).atKey (.string s.data.toList) (.lit (.int .i64 0)) = .lit (.int .i64 c) → c = kdV s) := Lib.hid (fun c h => by
    rw [atKey_erM, last_kd] at h
    unfold kdV
    simp only [DataW.lit.injEq, Lit.int.injEq, true_and] at h
    rw [← h])
  generalize kdB s = b at HB ⊢
  generalize kdV s = v at HV ⊢
  go_enter Tryd.func14, Tryd.ntmps14
  go_wp2_with (first | (go_at_call 33; refine (HM.out).mono ?_; rintro e w1 ⟨rfl, ho, b1⟩; have HO := Lib.hid ho; have B1 := Lib.hid b1; clear ho b1) | (at_lookup; refine wpList_lookup_own_ok_int _ rfl _ _ 50 rfl 9 3 .i64 lawStr Tryd.underlying50 Tryd.underlying3 (zeroInt _) w.heap.size 8 _ rfl HO.out _ _ rfl hkey.out ?_; intro c hat hwc; rw [HB.out]; have HC := Lib.hid (HV.out c hat); clear hat hwc))
  go_ret2
  exact ⟨ret_ib HC.out rfl, B1.out⟩
theorem gKnt : Tryd.prog.globalNamed "loop.example/g00838/impl.kindNames" = some 0 := by kernel_rfl
theorem tKnt : (Tryd.prog.globals[0]?).map (·.type) = some 48 := by kernel_rfl
theorem knt_of_head {W : World} {r : List (String × DataW Unit)} (h : laidMet Tryd.prog (("loop.example/g00838/impl.kindNames", Rows.laid_loop_example_g00838_impl_kindNames) :: r) W) : Knt W := by
  obtain ⟨ps, ⟨g', t', cs, fuel, p, q, hg', ht', hvar, hd, _, _⟩, _⟩ := h
  obtain rfl := Option.some.inj (gKnt.symm.trans hg')
  obtain rfl := Option.some.inj (tKnt.symm.trans ht')
  have hcs := cells_of_texts (zs := erA.map fun s => s.data.toList) Tryd.underlying48 Tryd.underlying9 (by kernel_rfl) (by kernel_rfl) (show DataW.trod _ Tryd.prog W _ _ _ fuel 48 cs.toList = some (.agg ((erA.map fun s => s.data.toList).map fun z => .lit (.string z)), p) from hd)
  obtain ⟨t, fr, hb⟩ := block_of_var gKnt hvar
  refine ⟨t, fr, ?_⟩
  rw [hb]
  have e : cs = (erA.map Value.string).toArray := by
    apply Array.toList_inj.1
    rw [hcs]
    rfl
  rw [e]
end Go.Proofs.YtdfkehgkonadhaaDoor
