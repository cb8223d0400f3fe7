/- A string cloned. -/
import Derived.Test.YthflehdboccloaaAtn
import Derived.Test.YthflehdboccloaaShelf
namespace Go.Proofs.Ythflehdboccloaa
open Go.RowKit
set_option linter.unusedVariables false

theorem strClone_any (s : ByteArray) (w : World) (hs : s.size ≤ 1048576) :
    Calls Try.prog 87 #[.string s] w (SaysV w (.string s)) := by
  have H := Lib.hid (Try.stringslite_Clone s w (by omega))
  go_enter Try.func87, Try.ntmps87
  go_wp2_with (go_at_call 95; refine (H.out).mono ?_; rintro e w1 ⟨rfl, b⟩; have B := Lib.hid b; clear b)
  go_ret
  exact ⟨rfl, B.out⟩
end Go.Proofs.Ythflehdboccloaa
