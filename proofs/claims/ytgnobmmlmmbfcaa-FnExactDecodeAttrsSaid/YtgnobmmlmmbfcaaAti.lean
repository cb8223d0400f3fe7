/- The bytes of one attribute: the program's. -/
import Derived.Test.YtgnobmmlmmbfcaaAth
import Derived.Deep.RegionHeld3
import Derived.Deep.CutRange
namespace Go.Proofs.Ytgnobmmlmmbfcaa
open Go.RowKit
set_option linter.unusedVariables false
set_option maxRecDepth 100000

def Rw (w : World) (g : Nat) (X : List Int) : Prop := OffC w g 0 (bv X) ∧ g < w.heap.size
theorem Rw.on {w w' : World} {g : Nat} {X : List Int} (h : Rw w g X) (b : Below w.heap.size w w') : Rw w' g X := ⟨h.1.below b h.2, Nat.lt_of_lt_of_le h.2 b.size⟩
theorem rw_own {w : World} {B g n c : Nat} {X : List Int} (h : OwnB w B g n c X) : Rw w g X := by
  refine ⟨fun j hj => ?_, h.lt.2⟩
  rw [bv_length] at hj
  rw [Nat.zero_add]
  exact World.ownsRow.cellAt h j (by rw [← h.len]; omega)
theorem conv_row (s : ByteArray) (w : World) : Rw (w.alloc (.cells (bytesRow s (grownCap w s.size 0 5)) 5 ((bytesRow s (grownCap w s.size 0 5)).size, (bytesRow s (grownCap w s.size 0 5)).size + 1))).drew w.heap.size (nmL s) ∧ Below w.heap.size w (w.alloc (.cells (bytesRow s (grownCap w s.size 0 5)) 5 ((bytesRow s (grownCap w s.size 0 5)).size, (bytesRow s (grownCap w s.size 0 5)).size + 1))).drew := by
  have hb : Below w.heap.size w (w.alloc (.cells (bytesRow s (grownCap w s.size 0 5)) 5 ((bytesRow s (grownCap w s.size 0 5)).size, (bytesRow s (grownCap w s.size 0 5)).size + 1))).drew := (one_new2 w _).trans ((show Below (w.alloc (.cells (bytesRow s (grownCap w s.size 0 5)) 5 ((bytesRow s (grownCap w s.size 0 5)).size, (bytesRow s (grownCap w s.size 0 5)).size + 1))).heap.size (w.alloc (.cells (bytesRow s (grownCap w s.size 0 5)) 5 ((bytesRow s (grownCap w s.size 0 5)).size, (bytesRow s (grownCap w s.size 0 5)).size + 1))) (w.alloc (.cells (bytesRow s (grownCap w s.size 0 5)) 5 ((bytesRow s (grownCap w s.size 0 5)).size, (bytesRow s (grownCap w s.size 0 5)).size + 1))).drew from below_drewN (Below.refl _ _) 1).mono (by simp))
  refine ⟨⟨fun j hj => ?_, show w.heap.size < (w.alloc (.cells (bytesRow s (grownCap w s.size 0 5)) 5 ((bytesRow s (grownCap w s.size 0 5)).size, (bytesRow s (grownCap w s.size 0 5)).size + 1))).heap.size by simp⟩, hb⟩
  rw [bv_length, nmL_length] at hj
  rw [Nat.zero_add]
  refine (cell_of_row (w.alloc (.cells (bytesRow s (grownCap w s.size 0 5)) 5 ((bytesRow s (grownCap w s.size 0 5)).size, (bytesRow s (grownCap w s.size 0 5)).size + 1))).drew w.heap.size j _ _ _ (heap_alloc_new w _)).trans ?_
  unfold bytesRow bv nmL
  have hj2 : j < s.data.size := hj
  rw [Array.getElem?_append_left (by rw [Array.size_map]; exact hj2)]
  simp
  rfl
theorem slc_lit (w : World) (a b c : Value) : (w.alloc (.cells #[a, b, c] 47)).cell? ⟨w.heap.size, 0, none⟩ = some a ∧ (w.alloc (.cells #[a, b, c] 47)).cell? ⟨w.heap.size, 1, none⟩ = some b ∧ (w.alloc (.cells #[a, b, c] 47)).cell? ⟨w.heap.size, 2, none⟩ = some c := by
  refine ⟨?_, ?_, ?_⟩ <;> simp [go_sem]
def AbR (w : World) (X : List Int) (x6 : Value) (wx : World) : Prop := OwnZ wx w.heap.size x6 X ∧ BX w wx
def abL (x : At) (ins : Nat) : List Int := prL (4 + (x.s.size : Int) + (ins : Int)) ++ prL (kdI x) ++ nmL x.s ++ zrL (padA (4 + x.s.size) - (4 + x.s.size))
theorem byte_rng (s : ByteArray) : ∀ c ∈ nmL s, 0 ≤ c ∧ c ≤ 255 := by
  intro c hc
  obtain ⟨u, _, rfl⟩ := List.mem_map.1 hc
  have := u.toNat_lt
  omega
theorem pr_rng {n : Int} (h0 : 0 ≤ n) (h1 : n < 65536) : ∀ c ∈ prL n, 0 ≤ c ∧ c ≤ 255 := by
  intro c hc
  unfold prL at hc
  simp at hc
  omega
theorem head_rng {a b : Int} {s : ByteArray} (h0 : 0 ≤ a) (h1 : a < 65536) (h2 : 0 ≤ b) (h3 : b < 65536) : ∀ c ∈ prL a ++ prL b ++ nmL s, 0 ≤ c ∧ c ≤ 255 := by
  intro c hc
  simp only [List.mem_append] at hc
  rcases hc with (hc | hc) | hc
  · exact pr_rng h0 h1 c hc
  · exact pr_rng h2 h3 c hc
  · exact byte_rng s c hc
theorem own_row8 {w : World} {B g n c : Nat} {X : List Int} (h : w.ownsRow B 5 1 (.slice (some ⟨g, 0, none⟩) n c) n (bv X)) (hr : ∀ n ∈ X, 0 ≤ n ∧ n ≤ 255) : Row w g 0 X := OwnB.row (h : OwnB w B g n c X) hr
end Go.Proofs.Ytgnobmmlmmbfcaa
