/- Hexadecimal texts read: contracts of ReadHex, program and model. -/
import Derived.Test.YtdmcgjohpnojkaaDoorRdg
import Derived.Test.YtdmcgjohpnojkaaDoorRdm
import Derived.Test.YtdmcgjohpnojkaaDoorHxaT
namespace Go.Proofs.YtdmcgjohpnojkaaDoor
set_option maxRecDepth 100000
open Go.RowKit

/-- the value of a hexadecimal text -/
def rhx (l : List UInt8) : Option Int := if Lib.hasPrefix l [48, 120] then rdT 16 65535 (l.drop 2) else none
theorem rhx_no {l : List UInt8} (h : Lib.hasPrefix l [48, 120] = false) : rhx l = none := by unfold rhx; rw [h]; rfl
theorem rhx_yes {l : List UInt8} (h : Lib.hasPrefix l [48, 120] = true) : rhx l = rdT 16 65535 (l.drop 2) := by unfold rhx; rw [if_pos h]
theorem rdN_nonneg (b lim : Int) (hb : 0 ≤ b) : ∀ (l : List UInt8) (n v : Int), 0 ≤ n → rdN b lim l n = Option.some v → 0 ≤ v
  | [], n, v, h, e => by
    have := Option.some.inj e
    omega
  | c :: r, n, v, h, e => by
    rw [rdN] at e
    split at e
    · rename_i g
      refine rdN_nonneg b lim hb r _ v ?_ e
      have := Int.mul_nonneg h hb
      omega
    · cases e
theorem rdT_nonneg (b lim : Int) (hb : 0 ≤ b) (l : List UInt8) (v : Int) (e : rdT b lim l = Option.some v) : 0 ≤ v := by
  unfold rdT at e
  split at e
  · cases e
  · exact rdN_nonneg b lim hb l 0 v (by omega) e
theorem rdN_le (b lim : Int) : ∀ (l : List UInt8) (n v : Int), n ≤ lim → rdN b lim l n = Option.some v → v ≤ lim
  | [], n, v, h, e => by
    have := Option.some.inj e
    omega
  | c :: r, n, v, h, e => by
    rw [rdN] at e
    split at e
    · rename_i g
      exact rdN_le b lim r _ v g.2 e
    · cases e
theorem rdT_le (b lim : Int) (hl : 0 ≤ lim) (l : List UInt8) (v : Int) (e : rdT b lim l = Option.some v) : v ≤ lim := by
  unfold rdT at e
  split at e
  · cases e
  · exact rdN_le b lim l 0 v hl e
theorem rhx_nonneg (l : List UInt8) (v : Int) (e : rhx l = Option.some v) : 0 ≤ v := by
  unfold rhx at e
  split at e
  · exact rdT_nonneg 16 65535 (by omega) _ v e
  · cases e
theorem rhx_le (l : List UInt8) (v : Int) (e : rhx l = Option.some v) : v ≤ 65535 := by
  unfold rhx at e
  split at e
  · exact rdT_le 16 65535 (by omega) _ v e
  · cases e
theorem pfx_len {l : List UInt8} (h : Lib.hasPrefix l [48, 120] = true) : 2 ≤ l.length := by
  unfold Lib.hasPrefix at h
  simpa using (List.isPrefixOf_iff_prefix.1 h).length_le
theorem two_run (s : ByteArray) (hk : 2 ≤ s.size) : ∃ u t : ByteArray, u.data.toList = s.data.toList.drop 2 ∧ t.data.toList = s.data.toList.take 2 ∧
    (∀ w, (Instr.slice 9 (.string s) (some (.int .i64 2)) none none).run Tryd.prog w = .ok (.string u) w) ∧
    (∀ w, (Instr.slice 9 (.string s) none (some (.int .i64 2)) none).run Tryd.prog w = .ok (.string t) w) := by
  refine ⟨s.extract 2 s.size, s.extract 0 2, ?_, ?_, fun w => ?_, fun w => ?_⟩
  · rw [Lib.extract_data, List.take_of_length_le]
    simp
  · rw [Lib.extract_data]
    simp
  · rw [run_slice_string_l w 9 s Tryd.underlying9 .i64 2 (by omega) (by omega)]
    rfl
  · rw [run_slice_string_h w 9 s Tryd.underlying9 .i64 2 (by omega) (by omega)]
    rfl

theorem implReadHex_any (s : ByteArray) (w : World) (hD : Hid (Dig w)) (hs : s.size ≤ 1048576) :
    Calls Tryd.prog 110 #[.string s] w (SaysRd w (rhx s.data.toList)) := by
  rcases Bool.eq_false_or_eq_true (Lib.hasPrefix s.data.toList [48, 120]) with hp | hp
  · have HP := Lib.hid hp
    have HO := Lib.hid (rhx_yes hp)
    obtain ⟨u, hu⟩ : ∃ u : ByteArray, (⟨(Lib.trimPrefix s.data.toList [48, 120]).toArray⟩ : ByteArray) = u := ⟨_, rfl⟩
    have HU : Hid (u.data.toList = s.data.toList.drop 2) := Lib.hid (by rw [← hu]; unfold Lib.trimPrefix; rw [if_pos hp]; rfl)
    have hus : u.size ≤ 1048576 := by rw [size_data, HU.out, List.length_drop, ← size_data]; omega
    have HQ := Lib.hid hu
    have HR := Lib.hid (fun w hD => readDigits_hex u 65535 w hD hus (by omega) (by omega))
    rw [HU.out, ← HO.out] at HR
    obtain ⟨o, HE⟩ : ∃ o, Hid (rhx s.data.toList = o) := ⟨_, rfl⟩
    rw [HE.out] at HR ⊢
    clear hp hu hus
    go_enter Tryd.func110, Tryd.ntmps110
    go_wp2_with (first | (go_at_call 133; refine (Tryd.strings_CutPrefix s _ _).mono ?_; rw [show (ByteArray.mk #[48, 120]).data.toList = [48, 120] from rfl, HP.out, HQ.out]; rintro e w' ⟨rfl, rfl⟩) | (go_at_call 134; refine (HR.out _ hD).mono ?_; rintro e w1 ⟨rfl, b1⟩; have B1 := Lib.hid b1; clear b1))
    go_ret2
    exact ⟨rfl, B1.out⟩
  · have HP := Lib.hid hp
    have HN := Lib.hid (opt_none (rhx_no hp))
    obtain ⟨u, hu⟩ : ∃ u : ByteArray, (⟨(Lib.trimPrefix s.data.toList [48, 120]).toArray⟩ : ByteArray) = u := ⟨_, rfl⟩
    have HQ := Lib.hid hu
    clear hp hu
    go_enter Tryd.func110, Tryd.ntmps110
    go_wp2_with (go_at_call 133; refine (Tryd.strings_CutPrefix s _ _).mono ?_; rw [show (ByteArray.mk #[48, 120]).data.toList = [48, 120] from rfl, HP.out, HQ.out]; rintro e w' ⟨rfl, rfl⟩)
    go_ret2
    exact ⟨ret_pair (by rw [HN.out.1]; rfl) (by rw [HN.out.2]; rfl), Below.refl _ _⟩

theorem nuIsHex_any (s : ByteArray) (w : World) :
    Calls Tryd.prog 144 #[.string s] w fun e w' => e = .returned (.bool (Lib.hasPrefix s.data.toList [48, 120])) ∧ w = w' := by
  rcases Nat.lt_or_ge s.size 2 with h | h
  · have HP : Hid (Lib.hasPrefix s.data.toList [48, 120] = false) := Lib.hid (by
      rw [Bool.eq_false_iff]
      intro q
      have := pfx_len q
      rw [← size_data] at this
      omega)
    have d : decide ((2 : Int) ≤ s.size) = false := by simp; omega
    go_enter Tryd.func144, Tryd.ntmps144
    go_wp2
    go_ret
    exact ⟨ret_bool (by rw [HP.out]), rfl⟩
  · obtain ⟨u, t, hu, ht, hsl, hst⟩ := two_run s h
    have d : decide ((2 : Int) ≤ s.size) = true := by simp; omega
    have hp := pfx_two s 0 t ht
    rw [List.drop_zero] at hp
    obtain ⟨b, hb⟩ : ∃ b, Lib.hasPrefix s.data.toList [48, 120] = b := ⟨_, rfl⟩
    rw [hb] at hp ⊢
    clear hu ht hb hsl
    go_enter Tryd.func144, Tryd.ntmps144
    go_wp2
    go_ret
    exact ⟨rfl, rfl⟩
theorem nuReadHex_any (s : ByteArray) (w : World) (hs : s.size ≤ 1048576) :
    Calls Tryd.prog 145 #[.string s] w (SaysInt w (optM (rhx s.data.toList))) := by
  rcases Bool.eq_false_or_eq_true (Lib.hasPrefix s.data.toList [48, 120]) with hp | hp
  · have HI := Lib.hid (fun w => nuIsHex_any s w)
    rw [hp] at HI
    have HO := Lib.hid (rhx_yes hp)
    have h2 : 2 ≤ s.size := by rw [size_data]; exact pfx_len hp
    obtain ⟨u, t, hu, ht, hsl, hst⟩ := two_run s h2
    have hus : u.size ≤ 1048576 := by rw [size_data, hu, List.length_drop, ← size_data]; omega
    have HR := Lib.hid (fun w => nuDigits_hex u 65535 w hus (by omega) (by omega))
    rw [hu, ← HO.out] at HR
    obtain ⟨o, HE⟩ : ∃ o, Hid (optM (rhx s.data.toList) = o) := ⟨_, rfl⟩
    rw [HE.out] at HR ⊢
    clear hp hu ht hus hst
    go_enter Tryd.func145, Tryd.ntmps145
    go_wp2_with (first | (go_at_call 144; refine (HI.out _).mono ?_; rintro e w' ⟨rfl, rfl⟩) | (go_at_call 154; refine (HR.out _).mono ?_; rintro e w' ⟨rfl, rfl⟩))
    go_ret
    exact ⟨rfl, rfl⟩
  · have HI := Lib.hid (fun w => nuIsHex_any s w)
    rw [hp] at HI
    have HO := Lib.hid (rhx_no hp)
    rw [HO.out]
    clear hp
    go_enter Tryd.func145, Tryd.ntmps145
    go_wp2_with (go_at_call 144; refine (HI.out _).mono ?_; rintro e w' ⟨rfl, rfl⟩)
    go_ret
    exact ⟨rfl, rfl⟩
/-- a pair of a number and a truth value -/
def SaysPair (w : World) (r : Int) (ok : Bool) (e : Ending) (w' : World) : Prop := e = .returned (.tuple #[.int .i64 r, .bool ok]) ∧ Below w.heap.size w w'
theorem opt_ways (o : Option Int) (h : ∀ v, o = Option.some v → 0 ≤ v) : (o = none) ∨ ∃ v, o = Option.some v ∧ 0 ≤ v := by
  cases o with
  | none => exact .inl rfl
  | some v => exact .inr ⟨v, rfl, h v rfl⟩
end Go.Proofs.YtdmcgjohpnojkaaDoor
