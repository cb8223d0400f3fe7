/- What a law draws of its bytes for PadTo. -/
import Derived.Test.YtdmcgjohpnojkaaDoorDrw
namespace Go.Proofs.YtdmcgjohpnojkaaDoor
set_option maxRecDepth 100000
open Go.RowKit

theorem dr_one {w wr : World} {a : Option Addr} {n cap t : Nat} {zs : List Int} (m : Int) (hm : 1 < m) (hm2 : m ≤ 1000000) (HD : Hid (Dr w wr a n cap zs t)) (HL : Hid (zs.length = n)) (hn : n ≤ 9223372036854775807) (ht : t ≤ 1000000) :
    Calls Tryd.prog 106 #[.pointer (some ⟨w.heap.size, 0, none⟩), .int .i64 m] wr fun e w' => ∃ (r : Bool) (t' : Nat), e = .returned (.bool r) ∧ t' ≤ t + 2 ∧ Dr w w' a n cap zs t' ∧ OnlyBlock w.heap.size wr w' :=
  (one_any wr _ n cap t a zs m hm hm2 HD.out.cur HD.out.ahead HL HD.out.src hn ht).mono fun _ _ ⟨r, t', he, h2, h3, h4⟩ => ⟨r, t', he, h2, HD.out.only h3 h4, h4⟩
theorem OwnV.step0 {wr w' : World} {B n : Nat} {v : Value} {zs : List Int} (h : OwnV wr (B + 1) v n zs) (ho : OnlyBlock B wr w') : OwnV w' (B + 1) v n zs := OwnV.only h ho (Nat.lt_succ_self B)

end Go.Proofs.YtdmcgjohpnojkaaDoor
