/- A string cloned. -/
import Derived.Test.YtgnobmmlmmbfcaaAtn
import Derived.Test.YtgnobmmlmmbfcaaShelf
namespace Go.Proofs.Ytgnobmmlmmbfcaa
open Go.RowKit
set_option linter.unusedVariables false

theorem strClone_any (s : ByteArray) (w : World) (hs : s.size ≤ 1048576) :
    Calls Try.prog 25 #[.string s] w (SaysV w (.string s)) := by
  have H := Lib.hid (Try.stringslite_Clone s w (by omega))
  go_enter Try.func25, Try.ntmps25
  go_wp2_with (go_at_call 28; refine (H.out).mono ?_; rintro e w1 ⟨rfl, b⟩; have B := Lib.hid b; clear b)
  go_ret
  exact ⟨rfl, B.out⟩
end Go.Proofs.Ytgnobmmlmmbfcaa
