/- Bytes compared: nothing with nothing, a row with the same row. -/
import Derived.Test.YtniggnjnpapkeabDoorMark
namespace Go.Proofs.YtniggnjnpapkeabDoor
set_option maxRecDepth 100000
open Go.RowKit

theorem qBytes_none (a b : Option Addr) (ca cb : Nat) (w : World) :
    Calls Tryd.prog 22 #[.slice a 0 ca, .slice b 0 cb] w fun e w' => e = .returned (.bool true) ∧ Drawn w w' := by
  go_enter Tryd.func22, Tryd.ntmps22
  go_wp2
  refine wp_loop_rounds 1 ?_
  rw [rounds_succ]
  go_wp2
  go_ret
  exact ⟨rfl, 0, rfl⟩

set_option maxHeartbeats 800000 in
theorem qBytes_same (ga oa gb ob n ca cb : Nat) (zs : List Int) (w : World) (HL : Hid (zs.length = n)) (HA : Hid (Row w ga oa zs)) (HB : Hid (Row w gb ob zs)) (hm : n ≤ 1048576) :
    Calls Tryd.prog 22 #[.slice (some ⟨ga, oa, none⟩) n ca, .slice (some ⟨gb, ob, none⟩) n cb] w (SaysDrawn w true) := by
  go_enter Tryd.func22, Tryd.ntmps22
  go_wp2
  go_loopw [13] (fun i wr => EqRel w n i wr) (fun i _ => n - (intOf i).toNat)
  case atStart => exact ⟨0, 0, Nat.zero_le _, rfl, rfl⟩
  case round =>
    obtain ⟨k, q, hk, rfl, rfl⟩ := hrel
    by_cases hlt : k < n
    · obtain ⟨c, HC, h0, h1, hca⟩ := HA.out.at k (by have := HL.out; omega)
      have hcb : w.cell? ⟨gb, ob + k, none⟩ = some (.int .u8 c) := by rw [HC.out]; exact HB.out.1 k (by have := HL.out; omega)
      go_wp2_with fail
      go_quiet (fail)
      go_wp2
      go_roundw
      case rel => exact ⟨k + 1, _, by omega, by go_num, rfl⟩
      case measure => simp [intOf]; omega
    · go_wp2
      go_ret
      exact ⟨rfl, q, rfl⟩
end Go.Proofs.YtniggnjnpapkeabDoor
