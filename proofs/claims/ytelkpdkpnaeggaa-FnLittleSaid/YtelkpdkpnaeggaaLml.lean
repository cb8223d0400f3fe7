/- Numbers of FnLittle: padding adds nothing to a sum, bytes of a number are read back. -/
import Derived.Test.YtelkpdkpnaeggaaSpd
import Derived.Test.YtelkpdkpnaeggaaChk
import Derived.Test.YtelkpdkpnaeggaaPad
import Derived.Test.YtelkpdkpnaeggaaWri
import Derived.Test.YtelkpdkpnaeggaaDrp
import Derived.Test.YtelkpdkpnaeggaaQby
namespace Go.Proofs.Ytelkpdkpnaeggaa
open Go.RowKit

theorem fold16_same (s : Int) (h1 : s ≤ 65535) : fold16 s = s := by unfold fold16; split <;> omega
theorem csum_zeros : ∀ (k : Nat) (s : Int), s ≤ 65535 → csum (List.replicate k 0) s = s
  | 0, s, _ => rfl
  | 1, s, h => by simp [List.replicate, csum]; exact fold16_same s h
  | k + 2, s, h => by
    simp only [List.replicate_succ, csum]
    rw [show s + 0 * 256 + 0 = s by omega, fold16_same s h]
    exact csum_zeros k s h
theorem csum_app (k : Nat) : ∀ (l : List Int) (s : Int), 0 ≤ s → s ≤ 65535 → (∀ n ∈ l, 0 ≤ n ∧ n ≤ 255) → csum (l ++ List.replicate k 0) s = csum l s
  | [], s, _, h1, _ => by simp [csum_zeros k s h1, csum]
  | [a], s, h0, h1, hr => by
    have ha := hr a (by simp)
    cases k with
    | zero => simp
    | succ k =>
      simp only [List.replicate_succ, List.cons_append, List.nil_append, csum]
      rw [show s + a * 256 + 0 = s + a * 256 by omega]
      exact csum_zeros k _ (fold16_bd (s + a * 256) (by omega) (by omega)).2
  | a :: b :: r, s, h0, h1, hr => by
    have ha := hr a (by simp)
    have hb := hr b (by simp)
    have hbd := fold16_bd (s + a * 256 + b) (by omega) (by omega)
    simp only [List.cons_append, csum]
    exact csum_app k r _ hbd.1 hbd.2 (fun n hn => hr n (by simp [hn]))
theorem csum_padded (zs : List Int) (s : Nat) (hr : ∀ n ∈ zs, 0 ≤ n ∧ n ≤ 255) : csum (padded zs s) 0 = csum zs 0 := csum_app _ zs 0 (by omega) (by omega) hr
theorem pz_padded (zs : List Int) (s : Nat) (h : zs.length ≤ s) : pz (padded zs s) zs.length s = true := by
  have hl := padded_length zs s h
  simp only [pz, Int.toNat_natCast]
  rw [List.take_of_length_le (by omega)]
  simp [padded, allz]
theorem leV_wl (n : Int) (wd : Int) (hw : IsW wd) (h0 : 0 ≤ n) (h1 : n < 256 ^ wd.toNat) : leV (wl n wd.toNat) wd.toNat = n := by
  rcases hw with rfl | rfl | rfl
  · simp [leV, wl, List.range_succ] at h1 ⊢; omega
  · simp [leV, wl, List.range_succ] at h1 ⊢; omega
  · simp [leV, wl, List.range_succ] at h1 ⊢; omega
end Go.Proofs.Ytelkpdkpnaeggaa
