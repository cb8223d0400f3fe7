/- What a law draws of its bytes for PadTo. -/
import Derived.Test.YtelkpdkpnaeggaaDrw
namespace Go.Proofs.Ytelkpdkpnaeggaa
open Go.RowKit

theorem dr_one {w wr : World} {a : Option Addr} {n cap t : Nat} {zs : List Int} (m : Int) (hm : 1 < m) (hm2 : m ≤ 1000000) (HD : Hid (Dr w wr a n cap zs t)) (HL : Hid (zs.length = n)) (hn : n ≤ 9223372036854775807) (ht : t ≤ 1000000) :
    Calls Try.prog 41 #[.pointer (some ⟨w.heap.size, 0, none⟩), .int .i64 m] wr fun e w' => ∃ (r : Bool) (t' : Nat), e = .returned (.bool r) ∧ t' ≤ t + 2 ∧ Dr w w' a n cap zs t' ∧ OnlyBlock w.heap.size wr w' :=
  (one_any wr _ n cap t a zs m hm hm2 HD.out.cur HD.out.ahead HL HD.out.src hn ht).mono fun _ _ ⟨r, t', he, h2, h3, h4⟩ => ⟨r, t', he, h2, HD.out.only h3 h4, h4⟩
theorem OwnV.step0 {wr w' : World} {B n : Nat} {v : Value} {zs : List Int} (h : OwnV wr (B + 1) v n zs) (ho : OnlyBlock B wr w') : OwnV w' (B + 1) v n zs := OwnV.only h ho (Nat.lt_succ_self B)

set_option maxHeartbeats 1600000 in
theorem drawPad_any (w : World) (n cap : Nat) (a : Option Addr) (zs : List Int) (HL : Hid (zs.length = n)) (HI : Hid (In w a zs)) (hn : n ≤ 9223372036854775807) :
    Calls Try.prog 13 #[.slice a n cap] w (BytesOne w) := by
  obtain ⟨i0, hi, hz0, hz1, hz2⟩ := info_parts infoU8
  have D0 := Lib.hid (Dr.new (n := n) (cap := cap) HI.out)
  go_enter Try.func13, Try.ntmps13
  go_wp2_with (go_at_call 37; refine (dr_bytes D0 HL hn (by omega)).mono ?_; rintro e v1 ⟨da, l, dc, t1, ys, rfl, hl, ho, hr, ht1, d⟩; have D1 := Lib.hid d; have OW1 := Lib.hid ho; have HR := Lib.hid hr; clear d ho hr)
  go_wp2_with (first | (go_at_call 41; refine (dr_one 40 (by omega) (by omega) D1 HL hn (by omega)).mono ?_; rintro e v2 ⟨x, t2, rfl, ht2, d, o⟩; have D2 := Lib.hid d; have OW2 := Lib.hid (OW1.out.step0 o); clear d o; cases x) | (at_make; refine wpList_make_full _ rfl _ _ 22 rfl v2.heap.size 5 i0 (.int .u8 0) 1 Try.underlying22 hi hz0 hz1 .i64 .i64 _ _ 3999 rfl rfl (by rfl) (by rfl) (by rw [hz2]; omega) (by unfold maxLen; omega) (Nat.le_refl _) ?_; intro w0 hown0 hgrow0; have HO := Lib.hid (madeB hown0); have HB := Lib.hid ((Below.refl v2.heap.size v2).grown hgrow0 (Nat.le_refl _) (by intro k h; cases h)); clear hown0 hgrow0; have D4 := Lib.hid (D2.out.bar (D2.out.cur.kept (HB.out.block _ D2.out.cur.lt)) (Bar.of_below HB.out)); have OW4 : Hid (OwnV w0 (w.heap.size + 1) (.slice (some ⟨v2.heap.size, 0, none⟩) 3999 3999) 3999 (List.replicate 3999 0)) := Lib.hid (OwnV.base HO.out (by have := D2.out.cur.lt; omega))))
  · go_wp2_with (go_at_call 30; (with_reducible refine (dr_among (m := 8) (t := t2) (zs := zs) (ints_eight v2 _ _ _ _ _ _ _ _ _) (by omega) (by omega) D2 HL hn (by omega)).mono ?_); rintro e v3 ⟨y, t3, rfl, _, ht3, d, o⟩; have D3 := Lib.hid d; have OW3 := Lib.hid (OW2.out.step o); clear d o)
    go_ret2
    exact ⟨da, l, dc, ys, y, rfl, hl, OW3.out, HR.out, D3.out.bel⟩
  · go_wp2_with (go_at_call 30; (with_reducible refine (dr_among (m := 8) (t := t2) (zs := zs) (ints_eight w0 _ _ _ _ _ _ _ _ _) (by omega) (by omega) D4 HL hn (by omega)).mono ?_); rintro e v3 ⟨y, t3, rfl, _, ht3, d, o⟩; have D3 := Lib.hid d; have OW3 := Lib.hid (OW4.out.step o); clear d o)
    go_ret2
    exact ⟨_, 3999, _, List.replicate 3999 0, y, rfl, by omega, OW3.out, fun c hc => by have := (List.mem_replicate.1 hc).2; omega, D3.out.bel⟩
end Go.Proofs.Ytelkpdkpnaeggaa
