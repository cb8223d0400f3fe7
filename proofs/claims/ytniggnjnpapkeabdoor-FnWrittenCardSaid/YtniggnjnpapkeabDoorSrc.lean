/- Bytes that a law drew, and answers with bytes, in one form: nothing, or a row. -/
import Derived.Test.YtniggnjnpapkeabDoorDrp
import Derived.Test.YtniggnjnpapkeabDoorQby
namespace Go.Proofs.YtniggnjnpapkeabDoor
set_option maxRecDepth 100000
open Go.RowKit

/-- bytes that a law drew: nothing, or a row -/
def SrcAt (w : World) (da : Option Addr) (l dc : Nat) (ys : List Int) : Prop :=
  (da = none ∧ l = 0 ∧ dc = 0 ∧ ys = []) ∨ ∃ g, da = some ⟨g, 0, none⟩ ∧ g < w.heap.size ∧ Row w g 0 ys
theorem OwnV.src {w : World} {B l dc : Nat} {da : Option Addr} {ys : List Int} (h : OwnV w B (.slice da l dc) l ys) (hr : ∀ c ∈ ys, 0 ≤ c ∧ c ≤ 255) : ys.length = l ∧ SrcAt w da l dc ys := by
  have h1 : ys.length = l := by have := h.1; rw [bv_length] at this; omega
  refine ⟨h1, ?_⟩
  rcases h.2 with ⟨hv, h0⟩ | ⟨g, cap, cur, hv, _⟩
  · cases hv
    exact .inl ⟨rfl, rfl, rfl, List.length_eq_zero_iff.1 h1⟩
  · cases hv
    exact .inr ⟨g, rfl, (OwnB.lt h).2, OwnB.row h hr⟩
theorem SrcAt.below {w w' : World} {da : Option Addr} {l dc : Nat} {ys : List Int} (h : SrcAt w da l dc ys) (hb : Below w.heap.size w w') : SrcAt w' da l dc ys := by
  rcases h with h | ⟨g, e, hg, hr⟩
  · exact .inl h
  · exact .inr ⟨g, e, Nat.lt_of_lt_of_le hg hb.size, hr.below hb hg⟩

def Got (w : World) (ok : Bool) (n : Nat) (zs : List Int) (e : Ending) (w' : World) : Prop :=
  ∃ (a : Option Addr) (c : Nat), e = .returned (.tuple #[.slice a n c, .bool ok]) ∧ n ≤ c ∧ SrcAt w' a n c zs ∧ Below w.heap.size w w'
theorem Got.of_none {w : World} {e : Ending} {w' : World} (h : GivesNone w e w') : Got w false 0 [] e w' := by
  obtain ⟨rfl, rfl⟩ := h
  exact ⟨none, 0, rfl, Nat.le_refl _, .inl ⟨rfl, rfl, rfl, rfl⟩, Below.refl _ _⟩
theorem OwnB.cap {w : World} {B g n cap : Nat} {zs : List Int} (h : OwnB w B g n cap zs) : n ≤ cap := by
  rcases h.2 with ⟨hv, h0⟩ | ⟨g, cap, cur, hv, _, hb⟩
  · cases hv
  · cases hv
    have := hb.2
    simp_all
theorem Got.of_some {w : World} {n : Nat} {zs : List Int} {e : Ending} {w' : World} (hr : ∀ c ∈ zs, 0 ≤ c ∧ c ≤ 255) (h : Gives w n zs e w') : Got w true n zs e w' := by
  obtain ⟨g, cap, rfl, ho, hb⟩ := h
  exact ⟨_, _, rfl, ho.cap, .inr ⟨g, rfl, ho.lt.2, ho.row hr⟩, hb⟩
theorem SrcAt.len {w : World} {B l dc : Nat} {da : Option Addr} {ys : List Int} (h : OwnV w B (.slice da l dc) l ys) : l ≤ dc := by
  rcases h.2 with ⟨hv, h0⟩ | ⟨g, cap, cur, hv, _⟩
  · omega
  · cases hv
    exact OwnB.cap h
theorem qBytes_src (a b : Option Addr) (n ca cb : Nat) (zs : List Int) (w : World) (HL : Hid (zs.length = n)) (HA : Hid (SrcAt w a n ca zs)) (HB : Hid (SrcAt w b n cb zs)) (hm : n ≤ 1048576) :
    Calls Tryd.prog 22 #[.slice a n ca, .slice b n cb] w (SaysDrawn w true) := by
  rcases Nat.eq_zero_or_pos n with rfl | hp
  · exact (qBytes_none a b ca cb w).mono fun _ _ h => h
  · rcases HA.out with ⟨_, h0, _⟩ | ⟨ga, rfl, _, hra⟩
    · omega
    · rcases HB.out with ⟨_, h0, _⟩ | ⟨gb, rfl, _, hrb⟩
      · omega
      · exact qBytes_same ga 0 gb 0 n ca cb zs w HL hra hrb hm

end Go.Proofs.YtniggnjnpapkeabDoor
