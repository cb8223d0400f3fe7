import Derived.Test.YthgbhnedfdnfpaaGreatDoorPkh
import Derived.Test.YthgbhnedfdnfpaaGreatDoorPkj
/- Canonical texts: the model's heads of classes and lines of filters (written by tools/gen_prb.py). -/
namespace Go.Proofs.YthgbhnedfdnfpaaGreatDoor
set_option maxRecDepth 100000
open Go.RowKit
set_option linter.unusedVariables false
set_option linter.unusedSimpArgs false

theorem box_eights2 {w w' : World} {t : TypeId} {xi xp xr xe xb xu xo xl : Int} (h : BX (w.alloc (.cells #[.int .i64 xi, .int .i64 xp, .int .i64 xr, .int .i64 xe, .int .i64 xb, .int .i64 xu, .int .i64 xo, .int .i64 xl] t)) w') :
    EightB w' w.heap.size ⟨xi, xp, xr, xe, xb, xu, xo, xl⟩ ∧ Below w.heap.size w w' := box_eight h
theorem box_fives2 {w w' : World} {t : TypeId} {xo xf xm xv xt : Int} (h : BX (w.alloc (.cells #[.int .i64 xo, .int .i64 xf, .int .i64 xm, .int .i64 xv, .int .i64 xt] t)) w') :
    FiveB w' w.heap.size ⟨xo, xf, xm, xv, xt⟩ ∧ Below w.heap.size w w' := box_five h
set_option maxHeartbeats 12800000 in
theorem prHead_any (ni nr ne nb nu no : Nat) (xp xl : Int) (hi : ni ≤ 999) (hr : nr ≤ 100000) (he : ne ≤ 100000) (hb : nb ≤ 1000000) (hu : nu ≤ 1000000) (ho : no ≤ 7) (w : World) :
    Calls Tryz.prog 96 #[.agg #[.int .i64 (ni : Int), .int .i64 xp, .int .i64 (nr : Int), .int .i64 (ne : Int), .int .i64 (nb : Int), .int .i64 (nu : Int), .int .i64 (no : Int), .int .i64 xl]] w (SaysV w (.string (headN ni nr ne nb nu no))) := by
  have HI := Lib.hid (fun w => l1Num_any ni (by omega) w)
  have HR := Lib.hid (fun w => nuText_any nr (by omega) w)
  have HEe := Lib.hid (fun w => nuText_any ne (by omega) w)
  have HB := Lib.hid (fun w => nuText_any nb (by omega) w)
  have HU := Lib.hid (fun w => nuText_any nu (by omega) w)
  have HO := Lib.hid (fun w => l1Num_any no (by omega) w)
  have z1 := numS_size ni
  have z2 := headS_szP nr
  have z3 := headS_szP ne
  have z4 := headS_szP nb
  have z5 := headS_szP nu
  have z6 := numS_size no
  have HX : Hid (headN ni nr ne nb nu no = (⟨#[99, 108, 97, 115, 115, 32]⟩ ++ numS ni ++ ⟨#[32, 114, 97, 116, 101, 32]⟩ ++ headS nr ++ ⟨#[32, 99, 101, 105, 108, 32]⟩ ++ headS ne ++ ⟨#[32, 98, 117, 114, 115, 116, 32]⟩ ++ headS nb ++ ⟨#[32, 99, 98, 117, 114, 115, 116, 32]⟩ ++ headS nu ++ ⟨#[32, 112, 114, 105, 111, 32]⟩ ++ numS no)) := Lib.hid rfl
  generalize headN ni nr ne nb nu no = R at HX ⊢
  generalize numS ni = si at HI HX z1
  generalize headS nr = sr at HR HX z2
  generalize headS ne = se at HEe HX z3
  generalize headS nb = sb at HB HX z4
  generalize headS nu = su at HU HX z5
  generalize numS no = so at HO HX z6
  have l1 : (⟨#[99, 108, 97, 115, 115, 32]⟩ : ByteArray).size = 6 := rfl
  have l2 : (⟨#[32, 114, 97, 116, 101, 32]⟩ : ByteArray).size = 6 := rfl
  have l3 : (⟨#[32, 99, 101, 105, 108, 32]⟩ : ByteArray).size = 6 := rfl
  have l4 : (⟨#[32, 98, 117, 114, 115, 116, 32]⟩ : ByteArray).size = 7 := rfl
  have l5 : (⟨#[32, 99, 98, 117, 114, 115, 116, 32]⟩ : ByteArray).size = 8 := rfl
  have l6 : (⟨#[32, 112, 114, 105, 111, 32]⟩ : ByteArray).size = 6 := rfl
  have k1 : ¬ (9223372036854775807 < ((⟨#[99, 108, 97, 115, 115, 32]⟩ : ByteArray)).size + si.size) := by (try simp only [ByteArray.size_append]); omega
  have k1b : ¬ (9223372036854775807 < 6 + si.size) := by omega
  have k2 : ¬ (9223372036854775807 < ((⟨#[99, 108, 97, 115, 115, 32]⟩ : ByteArray) ++ si).size + (⟨#[32, 114, 97, 116, 101, 32]⟩ : ByteArray).size) := by (try simp only [ByteArray.size_append]); omega
  have k2b : ¬ (9223372036854775807 < 6 + si.size + 6) := by omega
  have k3 : ¬ (9223372036854775807 < ((⟨#[99, 108, 97, 115, 115, 32]⟩ : ByteArray) ++ si ++ ⟨#[32, 114, 97, 116, 101, 32]⟩).size + sr.size) := by (try simp only [ByteArray.size_append]); omega
  have k3b : ¬ (9223372036854775807 < 6 + si.size + 6 + sr.size) := by omega
  have k4 : ¬ (9223372036854775807 < ((⟨#[99, 108, 97, 115, 115, 32]⟩ : ByteArray) ++ si ++ ⟨#[32, 114, 97, 116, 101, 32]⟩ ++ sr).size + (⟨#[32, 99, 101, 105, 108, 32]⟩ : ByteArray).size) := by (try simp only [ByteArray.size_append]); omega
  have k4b : ¬ (9223372036854775807 < 6 + si.size + 6 + sr.size + 6) := by omega
  have k5 : ¬ (9223372036854775807 < ((⟨#[99, 108, 97, 115, 115, 32]⟩ : ByteArray) ++ si ++ ⟨#[32, 114, 97, 116, 101, 32]⟩ ++ sr ++ ⟨#[32, 99, 101, 105, 108, 32]⟩).size + se.size) := by (try simp only [ByteArray.size_append]); omega
  have k5b : ¬ (9223372036854775807 < 6 + si.size + 6 + sr.size + 6 + se.size) := by omega
  have k6 : ¬ (9223372036854775807 < ((⟨#[99, 108, 97, 115, 115, 32]⟩ : ByteArray) ++ si ++ ⟨#[32, 114, 97, 116, 101, 32]⟩ ++ sr ++ ⟨#[32, 99, 101, 105, 108, 32]⟩ ++ se).size + (⟨#[32, 98, 117, 114, 115, 116, 32]⟩ : ByteArray).size) := by (try simp only [ByteArray.size_append]); omega
  have k6b : ¬ (9223372036854775807 < 6 + si.size + 6 + sr.size + 6 + se.size + 7) := by omega
  have k7 : ¬ (9223372036854775807 < ((⟨#[99, 108, 97, 115, 115, 32]⟩ : ByteArray) ++ si ++ ⟨#[32, 114, 97, 116, 101, 32]⟩ ++ sr ++ ⟨#[32, 99, 101, 105, 108, 32]⟩ ++ se ++ ⟨#[32, 98, 117, 114, 115, 116, 32]⟩).size + sb.size) := by (try simp only [ByteArray.size_append]); omega
  have k7b : ¬ (9223372036854775807 < 6 + si.size + 6 + sr.size + 6 + se.size + 7 + sb.size) := by omega
  have k8 : ¬ (9223372036854775807 < ((⟨#[99, 108, 97, 115, 115, 32]⟩ : ByteArray) ++ si ++ ⟨#[32, 114, 97, 116, 101, 32]⟩ ++ sr ++ ⟨#[32, 99, 101, 105, 108, 32]⟩ ++ se ++ ⟨#[32, 98, 117, 114, 115, 116, 32]⟩ ++ sb).size + (⟨#[32, 99, 98, 117, 114, 115, 116, 32]⟩ : ByteArray).size) := by (try simp only [ByteArray.size_append]); omega
  have k8b : ¬ (9223372036854775807 < 6 + si.size + 6 + sr.size + 6 + se.size + 7 + sb.size + 8) := by omega
  have k9 : ¬ (9223372036854775807 < ((⟨#[99, 108, 97, 115, 115, 32]⟩ : ByteArray) ++ si ++ ⟨#[32, 114, 97, 116, 101, 32]⟩ ++ sr ++ ⟨#[32, 99, 101, 105, 108, 32]⟩ ++ se ++ ⟨#[32, 98, 117, 114, 115, 116, 32]⟩ ++ sb ++ ⟨#[32, 99, 98, 117, 114, 115, 116, 32]⟩).size + su.size) := by (try simp only [ByteArray.size_append]); omega
  have k9b : ¬ (9223372036854775807 < 6 + si.size + 6 + sr.size + 6 + se.size + 7 + sb.size + 8 + su.size) := by omega
  have k10 : ¬ (9223372036854775807 < ((⟨#[99, 108, 97, 115, 115, 32]⟩ : ByteArray) ++ si ++ ⟨#[32, 114, 97, 116, 101, 32]⟩ ++ sr ++ ⟨#[32, 99, 101, 105, 108, 32]⟩ ++ se ++ ⟨#[32, 98, 117, 114, 115, 116, 32]⟩ ++ sb ++ ⟨#[32, 99, 98, 117, 114, 115, 116, 32]⟩ ++ su).size + (⟨#[32, 112, 114, 105, 111, 32]⟩ : ByteArray).size) := by (try simp only [ByteArray.size_append]); omega
  have k10b : ¬ (9223372036854775807 < 6 + si.size + 6 + sr.size + 6 + se.size + 7 + sb.size + 8 + su.size + 6) := by omega
  have k11 : ¬ (9223372036854775807 < ((⟨#[99, 108, 97, 115, 115, 32]⟩ : ByteArray) ++ si ++ ⟨#[32, 114, 97, 116, 101, 32]⟩ ++ sr ++ ⟨#[32, 99, 101, 105, 108, 32]⟩ ++ se ++ ⟨#[32, 98, 117, 114, 115, 116, 32]⟩ ++ sb ++ ⟨#[32, 99, 98, 117, 114, 115, 116, 32]⟩ ++ su ++ ⟨#[32, 112, 114, 105, 111, 32]⟩).size + so.size) := by (try simp only [ByteArray.size_append]); omega
  have k11b : ¬ (9223372036854775807 < 6 + si.size + 6 + sr.size + 6 + se.size + 7 + sb.size + 8 + su.size + 6 + so.size) := by omega
  have HQ : Hid (∀ w', BX (w.alloc (Obj.cells #[.int .i64 (ni : Int), .int .i64 xp, .int .i64 (nr : Int), .int .i64 (ne : Int), .int .i64 (nb : Int), .int .i64 (nu : Int), .int .i64 (no : Int), .int .i64 xl] 41)) w' → w'.cell? ⟨w.heap.size, 0, none⟩ = some (.int .i64 (ni : Int)) ∧ w'.cell? ⟨w.heap.size, 1, none⟩ = some (.int .i64 xp) ∧ w'.cell? ⟨w.heap.size, 2, none⟩ = some (.int .i64 (nr : Int)) ∧ w'.cell? ⟨w.heap.size, 3, none⟩ = some (.int .i64 (ne : Int)) ∧ w'.cell? ⟨w.heap.size, 4, none⟩ = some (.int .i64 (nb : Int)) ∧ w'.cell? ⟨w.heap.size, 5, none⟩ = some (.int .i64 (nu : Int)) ∧ w'.cell? ⟨w.heap.size, 6, none⟩ = some (.int .i64 (no : Int)) ∧ w'.cell? ⟨w.heap.size, 7, none⟩ = some (.int .i64 xl) ∧ BX (w.alloc (Obj.cells #[.int .i64 (ni : Int), .int .i64 xp, .int .i64 (nr : Int), .int .i64 (ne : Int), .int .i64 (nb : Int), .int .i64 (nu : Int), .int .i64 (no : Int), .int .i64 xl] 41)) w') := Lib.hid (fun w' h => by
    obtain ⟨a0, a1, a2, a3, a4, a5, a6, a7⟩ := (box_eights2 h).1
    exact ⟨a0, a1, a2, a3, a4, a5, a6, a7, h⟩)
  have HE : Hid (∀ w', BX (w.alloc (Obj.cells #[.int .i64 (ni : Int), .int .i64 xp, .int .i64 (nr : Int), .int .i64 (ne : Int), .int .i64 (nb : Int), .int .i64 (nu : Int), .int .i64 (no : Int), .int .i64 xl] 41)) w' → Below w.heap.size w w') := Lib.hid (fun w' h => (box_eights2 h).2)
  clear z1 z2 z3 z4 z5 z6 hi hr he hb hu ho l1 l2 l3 l4 l5 l6
  go_enter Tryz.func96, Tryz.ntmps96
  go_wp2_with fail
  refine wp_region_held_drew (S := fun w' => w'.cell? ⟨w.heap.size, 0, none⟩ = some (.int .i64 (ni : Int)) ∧ w'.cell? ⟨w.heap.size, 1, none⟩ = some (.int .i64 xp) ∧ w'.cell? ⟨w.heap.size, 2, none⟩ = some (.int .i64 (nr : Int)) ∧ w'.cell? ⟨w.heap.size, 3, none⟩ = some (.int .i64 (ne : Int)) ∧ w'.cell? ⟨w.heap.size, 4, none⟩ = some (.int .i64 (nb : Int)) ∧ w'.cell? ⟨w.heap.size, 5, none⟩ = some (.int .i64 (nu : Int)) ∧ w'.cell? ⟨w.heap.size, 6, none⟩ = some (.int .i64 (no : Int)) ∧ w'.cell? ⟨w.heap.size, 7, none⟩ = some (.int .i64 xl) ∧ BX (w.alloc (Obj.cells #[.int .i64 (ni : Int), .int .i64 xp, .int .i64 (nr : Int), .int .i64 (ne : Int), .int .i64 (nb : Int), .int .i64 (nu : Int), .int .i64 (no : Int), .int .i64 xl] 41)) w') (by kernel_rfl) ?_ (fun hHeld => ?_)
  · (try dsimp only)
    (first | (go_split_ands; refine HQ.out _ ?_; repeat' (with_reducible first | exact BX.drew0 _ | exact BX.refl _ | assumption | refine BX.call' (by assumption) ?_ | refine BX.drew ?_)))
  refine held_take (i := 0) (d := 3) (v := ?_) rfl rfl (by kernel_rfl) (by kernel_rfl) (by kernel_rfl) (fun _ _ _ h => h) (by rfl) ?_ (by assumption) ?_
  rotate_left
  · intro w hSw
    (try dsimp only at hSw)
    go_simp
    try with_reducible rfl
  try simp only [Act.put, List.setIfInBounds_toArray, List.set_cons_zero, List.set_cons_succ]
  refine held_take (i := 1) (d := 4) (v := ?_) rfl rfl (by kernel_rfl) (by kernel_rfl) (by kernel_rfl) (fun _ _ _ h => h) (by rfl) ?_ (by assumption) ?_
  rotate_left
  · intro w hSw
    (try dsimp only at hSw)
    go_simp
    try with_reducible rfl
  try simp only [Act.put, List.setIfInBounds_toArray, List.set_cons_zero, List.set_cons_succ]
  refine held_take (i := 5) (d := 8) (v := ?_) rfl rfl (by kernel_rfl) (by kernel_rfl) (by kernel_rfl) (fun _ _ _ h => h) (by rfl) ?_ (by assumption) ?_
  rotate_left
  · intro w hSw
    (try dsimp only at hSw)
    go_simp
    try with_reducible rfl
  try simp only [Act.put, List.setIfInBounds_toArray, List.set_cons_zero, List.set_cons_succ]
  refine held_take (i := 6) (d := 9) (v := ?_) rfl rfl (by kernel_rfl) (by kernel_rfl) (by kernel_rfl) (fun _ _ _ h => h) (by rfl) ?_ (by assumption) ?_
  rotate_left
  · intro w hSw
    (try dsimp only at hSw)
    go_simp
    try with_reducible rfl
  try simp only [Act.put, List.setIfInBounds_toArray, List.set_cons_zero, List.set_cons_succ]
  refine held_take (i := 10) (d := 13) (v := ?_) rfl rfl (by kernel_rfl) (by kernel_rfl) (by kernel_rfl) (fun _ _ _ h => h) (by rfl) ?_ (by assumption) ?_
  rotate_left
  · intro w hSw
    (try dsimp only at hSw)
    go_simp
    try with_reducible rfl
  try simp only [Act.put, List.setIfInBounds_toArray, List.set_cons_zero, List.set_cons_succ]
  refine held_take (i := 11) (d := 14) (v := ?_) rfl rfl (by kernel_rfl) (by kernel_rfl) (by kernel_rfl) (fun _ _ _ h => h) (by rfl) ?_ (by assumption) ?_
  rotate_left
  · intro w hSw
    (try dsimp only at hSw)
    go_simp
    try with_reducible rfl
  try simp only [Act.put, List.setIfInBounds_toArray, List.set_cons_zero, List.set_cons_succ]
  refine held_take (i := 15) (d := 18) (v := ?_) rfl rfl (by kernel_rfl) (by kernel_rfl) (by kernel_rfl) (fun _ _ _ h => h) (by rfl) ?_ (by assumption) ?_
  rotate_left
  · intro w hSw
    (try dsimp only at hSw)
    go_simp
    try with_reducible rfl
  try simp only [Act.put, List.setIfInBounds_toArray, List.set_cons_zero, List.set_cons_succ]
  refine held_take (i := 16) (d := 19) (v := ?_) rfl rfl (by kernel_rfl) (by kernel_rfl) (by kernel_rfl) (fun _ _ _ h => h) (by rfl) ?_ (by assumption) ?_
  rotate_left
  · intro w hSw
    (try dsimp only at hSw)
    go_simp
    try with_reducible rfl
  try simp only [Act.put, List.setIfInBounds_toArray, List.set_cons_zero, List.set_cons_succ]
  refine held_take (i := 20) (d := 23) (v := ?_) rfl rfl (by kernel_rfl) (by kernel_rfl) (by kernel_rfl) (fun _ _ _ h => h) (by rfl) ?_ (by assumption) ?_
  rotate_left
  · intro w hSw
    (try dsimp only at hSw)
    go_simp
    try with_reducible rfl
  try simp only [Act.put, List.setIfInBounds_toArray, List.set_cons_zero, List.set_cons_succ]
  refine held_take (i := 21) (d := 24) (v := ?_) rfl rfl (by kernel_rfl) (by kernel_rfl) (by kernel_rfl) (fun _ _ _ h => h) (by rfl) ?_ (by assumption) ?_
  rotate_left
  · intro w hSw
    (try dsimp only at hSw)
    go_simp
    try with_reducible rfl
  try simp only [Act.put, List.setIfInBounds_toArray, List.set_cons_zero, List.set_cons_succ]
  refine held_take (i := 25) (d := 28) (v := ?_) rfl rfl (by kernel_rfl) (by kernel_rfl) (by kernel_rfl) (fun _ _ _ h => h) (by rfl) ?_ (by assumption) ?_
  rotate_left
  · intro w hSw
    (try dsimp only at hSw)
    go_simp
    try with_reducible rfl
  try simp only [Act.put, List.setIfInBounds_toArray, List.set_cons_zero, List.set_cons_succ]
  refine held_take (i := 26) (d := 29) (v := ?_) rfl rfl (by kernel_rfl) (by kernel_rfl) (by kernel_rfl) (fun _ _ _ h => h) (by rfl) ?_ (by assumption) ?_
  rotate_left
  · intro w hSw
    (try dsimp only at hSw)
    go_simp
    try with_reducible rfl
  try simp only [Act.put, List.setIfInBounds_toArray, List.set_cons_zero, List.set_cons_succ]
  refine wpAnyH_ready (rs := [2]) (by kernel_rfl) (by simp) ?_
  refine AllReadyH.cons rfl (fun K' hK => ?_) AllReadyH.nil
  go_simp
  (first | (go_split_ands; go_at_call 33; (first | (with_reducible refine (HI.out _).mono ?_) | (with_reducible refine (HO.out _).mono ?_)); rintro e w3 ⟨rfl, b3⟩) | (go_split_ands; go_at_call 97; (first | (with_reducible refine (HR.out _).mono ?_) | (with_reducible refine (HEe.out _).mono ?_) | (with_reducible refine (HB.out _).mono ?_) | (with_reducible refine (HU.out _).mono ?_)); rintro e w3 ⟨rfl, b3⟩))
  refine hK.out _ _ ?_ (fun hHeld => ?_)
  · (try dsimp only)
    (first | (go_split_ands; refine HQ.out _ ?_; repeat' (with_reducible first | exact BX.drew0 _ | exact BX.refl _ | assumption | refine BX.call' (by assumption) ?_ | refine BX.drew ?_)))
  clear hK K'
  try simp only [Act.put, List.setIfInBounds_toArray, List.set_cons_zero, List.set_cons_succ]
  refine held_take (i := 3) (d := 6) (v := ?_) rfl rfl (by kernel_rfl) (by kernel_rfl) (by kernel_rfl) (fun _ _ _ h => h) (by rfl) ?_ (by assumption) ?_
  rotate_left
  · intro w hSw
    (try dsimp only at hSw)
    go_simp
    try with_reducible rfl
  try simp only [Act.put, List.setIfInBounds_toArray, List.set_cons_zero, List.set_cons_succ]
  refine held_take (i := 4) (d := 7) (v := ?_) rfl rfl (by kernel_rfl) (by kernel_rfl) (by kernel_rfl) (fun _ _ _ h => h) (by rfl) ?_ (by assumption) ?_
  rotate_left
  · intro w hSw
    (try dsimp only at hSw)
    go_simp
    try with_reducible rfl
  try simp only [Act.put, List.setIfInBounds_toArray, List.set_cons_zero, List.set_cons_succ]
  refine wpAnyH_ready (rs := [7]) (by kernel_rfl) (by simp) ?_
  refine AllReadyH.cons rfl (fun K' hK => ?_) AllReadyH.nil
  go_simp
  (first | (go_split_ands; go_at_call 33; (first | (with_reducible refine (HI.out _).mono ?_) | (with_reducible refine (HO.out _).mono ?_)); rintro e w3 ⟨rfl, b3⟩) | (go_split_ands; go_at_call 97; (first | (with_reducible refine (HR.out _).mono ?_) | (with_reducible refine (HEe.out _).mono ?_) | (with_reducible refine (HB.out _).mono ?_) | (with_reducible refine (HU.out _).mono ?_)); rintro e w3 ⟨rfl, b3⟩))
  refine hK.out _ _ ?_ (fun hHeld => ?_)
  · (try dsimp only)
    (first | (go_split_ands; refine HQ.out _ ?_; repeat' (with_reducible first | exact BX.drew0 _ | exact BX.refl _ | assumption | refine BX.call' (by assumption) ?_ | refine BX.drew ?_)))
  clear hK K'
  try simp only [Act.put, List.setIfInBounds_toArray, List.set_cons_zero, List.set_cons_succ]
  refine held_take (i := 8) (d := 11) (v := ?_) rfl rfl (by kernel_rfl) (by kernel_rfl) (by kernel_rfl) (fun _ _ _ h => h) (by rfl) ?_ (by assumption) ?_
  rotate_left
  · intro w hSw
    (try dsimp only at hSw)
    go_simp
    try with_reducible rfl
  try simp only [Act.put, List.setIfInBounds_toArray, List.set_cons_zero, List.set_cons_succ]
  refine held_take (i := 9) (d := 12) (v := ?_) rfl rfl (by kernel_rfl) (by kernel_rfl) (by kernel_rfl) (fun _ _ _ h => h) (by rfl) ?_ (by assumption) ?_
  rotate_left
  · intro w hSw
    (try dsimp only at hSw)
    go_simp
    try with_reducible rfl
  try simp only [Act.put, List.setIfInBounds_toArray, List.set_cons_zero, List.set_cons_succ]
  refine wpAnyH_ready (rs := [12]) (by kernel_rfl) (by simp) ?_
  refine AllReadyH.cons rfl (fun K' hK => ?_) AllReadyH.nil
  go_simp
  (first | (go_split_ands; go_at_call 33; (first | (with_reducible refine (HI.out _).mono ?_) | (with_reducible refine (HO.out _).mono ?_)); rintro e w3 ⟨rfl, b3⟩) | (go_split_ands; go_at_call 97; (first | (with_reducible refine (HR.out _).mono ?_) | (with_reducible refine (HEe.out _).mono ?_) | (with_reducible refine (HB.out _).mono ?_) | (with_reducible refine (HU.out _).mono ?_)); rintro e w3 ⟨rfl, b3⟩))
  refine hK.out _ _ ?_ (fun hHeld => ?_)
  · (try dsimp only)
    (first | (go_split_ands; refine HQ.out _ ?_; repeat' (with_reducible first | exact BX.drew0 _ | exact BX.refl _ | assumption | refine BX.call' (by assumption) ?_ | refine BX.drew ?_)))
  clear hK K'
  try simp only [Act.put, List.setIfInBounds_toArray, List.set_cons_zero, List.set_cons_succ]
  refine held_take (i := 13) (d := 16) (v := ?_) rfl rfl (by kernel_rfl) (by kernel_rfl) (by kernel_rfl) (fun _ _ _ h => h) (by rfl) ?_ (by assumption) ?_
  rotate_left
  · intro w hSw
    (try dsimp only at hSw)
    go_simp
    try with_reducible rfl
  try simp only [Act.put, List.setIfInBounds_toArray, List.set_cons_zero, List.set_cons_succ]
  refine held_take (i := 14) (d := 17) (v := ?_) rfl rfl (by kernel_rfl) (by kernel_rfl) (by kernel_rfl) (fun _ _ _ h => h) (by rfl) ?_ (by assumption) ?_
  rotate_left
  · intro w hSw
    (try dsimp only at hSw)
    go_simp
    try with_reducible rfl
  try simp only [Act.put, List.setIfInBounds_toArray, List.set_cons_zero, List.set_cons_succ]
  refine wpAnyH_ready (rs := [17]) (by kernel_rfl) (by simp) ?_
  refine AllReadyH.cons rfl (fun K' hK => ?_) AllReadyH.nil
  go_simp
  (first | (go_split_ands; go_at_call 33; (first | (with_reducible refine (HI.out _).mono ?_) | (with_reducible refine (HO.out _).mono ?_)); rintro e w3 ⟨rfl, b3⟩) | (go_split_ands; go_at_call 97; (first | (with_reducible refine (HR.out _).mono ?_) | (with_reducible refine (HEe.out _).mono ?_) | (with_reducible refine (HB.out _).mono ?_) | (with_reducible refine (HU.out _).mono ?_)); rintro e w3 ⟨rfl, b3⟩))
  refine hK.out _ _ ?_ (fun hHeld => ?_)
  · (try dsimp only)
    (first | (go_split_ands; refine HQ.out _ ?_; repeat' (with_reducible first | exact BX.drew0 _ | exact BX.refl _ | assumption | refine BX.call' (by assumption) ?_ | refine BX.drew ?_)))
  clear hK K'
  try simp only [Act.put, List.setIfInBounds_toArray, List.set_cons_zero, List.set_cons_succ]
  refine held_take (i := 18) (d := 21) (v := ?_) rfl rfl (by kernel_rfl) (by kernel_rfl) (by kernel_rfl) (fun _ _ _ h => h) (by rfl) ?_ (by assumption) ?_
  rotate_left
  · intro w hSw
    (try dsimp only at hSw)
    go_simp
    try with_reducible rfl
  try simp only [Act.put, List.setIfInBounds_toArray, List.set_cons_zero, List.set_cons_succ]
  refine held_take (i := 19) (d := 22) (v := ?_) rfl rfl (by kernel_rfl) (by kernel_rfl) (by kernel_rfl) (fun _ _ _ h => h) (by rfl) ?_ (by assumption) ?_
  rotate_left
  · intro w hSw
    (try dsimp only at hSw)
    go_simp
    try with_reducible rfl
  try simp only [Act.put, List.setIfInBounds_toArray, List.set_cons_zero, List.set_cons_succ]
  refine wpAnyH_ready (rs := [22]) (by kernel_rfl) (by simp) ?_
  refine AllReadyH.cons rfl (fun K' hK => ?_) AllReadyH.nil
  go_simp
  (first | (go_split_ands; go_at_call 33; (first | (with_reducible refine (HI.out _).mono ?_) | (with_reducible refine (HO.out _).mono ?_)); rintro e w3 ⟨rfl, b3⟩) | (go_split_ands; go_at_call 97; (first | (with_reducible refine (HR.out _).mono ?_) | (with_reducible refine (HEe.out _).mono ?_) | (with_reducible refine (HB.out _).mono ?_) | (with_reducible refine (HU.out _).mono ?_)); rintro e w3 ⟨rfl, b3⟩))
  refine hK.out _ _ ?_ (fun hHeld => ?_)
  · (try dsimp only)
    (first | (go_split_ands; refine HQ.out _ ?_; repeat' (with_reducible first | exact BX.drew0 _ | exact BX.refl _ | assumption | refine BX.call' (by assumption) ?_ | refine BX.drew ?_)))
  clear hK K'
  try simp only [Act.put, List.setIfInBounds_toArray, List.set_cons_zero, List.set_cons_succ]
  refine held_take (i := 23) (d := 26) (v := ?_) rfl rfl (by kernel_rfl) (by kernel_rfl) (by kernel_rfl) (fun _ _ _ h => h) (by rfl) ?_ (by assumption) ?_
  rotate_left
  · intro w hSw
    (try dsimp only at hSw)
    go_simp
    try with_reducible rfl
  try simp only [Act.put, List.setIfInBounds_toArray, List.set_cons_zero, List.set_cons_succ]
  refine held_take (i := 24) (d := 27) (v := ?_) rfl rfl (by kernel_rfl) (by kernel_rfl) (by kernel_rfl) (fun _ _ _ h => h) (by rfl) ?_ (by assumption) ?_
  rotate_left
  · intro w hSw
    (try dsimp only at hSw)
    go_simp
    try with_reducible rfl
  try simp only [Act.put, List.setIfInBounds_toArray, List.set_cons_zero, List.set_cons_succ]
  refine wpAnyH_ready (rs := [27]) (by kernel_rfl) (by simp) ?_
  refine AllReadyH.cons rfl (fun K' hK => ?_) AllReadyH.nil
  go_simp
  (first | (go_split_ands; go_at_call 33; (first | (with_reducible refine (HI.out _).mono ?_) | (with_reducible refine (HO.out _).mono ?_)); rintro e w3 ⟨rfl, b3⟩) | (go_split_ands; go_at_call 97; (first | (with_reducible refine (HR.out _).mono ?_) | (with_reducible refine (HEe.out _).mono ?_) | (with_reducible refine (HB.out _).mono ?_) | (with_reducible refine (HU.out _).mono ?_)); rintro e w3 ⟨rfl, b3⟩))
  refine hK.out _ _ ?_ (fun hHeld => ?_)
  · (try dsimp only)
    (first | (go_split_ands; refine HQ.out _ ?_; repeat' (with_reducible first | exact BX.drew0 _ | exact BX.refl _ | assumption | refine BX.call' (by assumption) ?_ | refine BX.drew ?_)))
  clear hK K'
  try simp only [Act.put, List.setIfInBounds_toArray, List.set_cons_zero, List.set_cons_succ]
  refine held_take (i := 28) (d := 31) (v := ?_) rfl rfl (by kernel_rfl) (by kernel_rfl) (by kernel_rfl) (fun _ _ _ h => h) (by rfl) ?_ (by assumption) ?_
  rotate_left
  · intro w hSw
    (try dsimp only at hSw)
    go_simp
    try with_reducible rfl
  try simp only [Act.put, List.setIfInBounds_toArray, List.set_cons_zero, List.set_cons_succ]
  refine held_take (i := 29) (d := 2) (v := ?_) rfl rfl (by kernel_rfl) (by kernel_rfl) (by kernel_rfl) (fun _ _ _ h => h) (by rfl) ?_ (by assumption) ?_
  rotate_left
  · intro w hSw
    (try dsimp only at hSw)
    go_simp
    try with_reducible rfl
  try simp only [Act.put, List.setIfInBounds_toArray, List.set_cons_zero, List.set_cons_succ]
  refine wpAnyH_done (by kernel_rfl) ?_ _
  all_goals
    go_split_ands
    go_wp2_with fail
    go_ret
    exact ⟨congrArg (fun s => Ending.returned (.string s)) HX.out.symm, HE.out _ (by assumption)⟩
def fldA : List ByteArray := [⟨#[115, 111, 117, 114, 99, 101]⟩, ⟨#[100, 101, 115, 116]⟩, ⟨#[112, 111, 114, 116]⟩, ⟨#[109, 97, 114, 107]⟩]
def lineN (no f nv nm nt : Nat) : ByteArray := ⟨#[102, 105, 108, 116, 101, 114, 32]⟩ ++ numS no ++ ⟨#[32]⟩ ++ fldA.getD f ⟨#[]⟩ ++ ⟨#[32]⟩ ++ hexStr nv ++ ⟨#[32, 47, 32]⟩ ++ hexStr nm ++ ⟨#[32, 45, 62, 32]⟩ ++ numS nt ++ ⟨#[59]⟩
theorem fldA_size (f : Nat) : (fldA.getD f ⟨#[]⟩).size ≤ 6 := by
  match f with
  | 0 => exact Nat.le_refl _
  | 1 => exact (by decide : (4 : Nat) ≤ 6)
  | 2 => exact (by decide : (4 : Nat) ≤ 6)
  | 3 => exact (by decide : (4 : Nat) ≤ 6)
  | n + 4 => exact (by decide : (0 : Nat) ≤ 6)
theorem hexStr_size (n : Nat) : (hexStr n).size ≤ n + 3 := by
  have := hexN_length n
  unfold hexStr
  rw [strOfNums_size]
  simp only [List.length_cons]
  omega
theorem lineN_size (no f nv nm nt : Nat) : (lineN no f nv nm nt).size ≤ 40 + no + nv + nm + nt := by
  have h1 := numS_size no
  have h2 := fldA_size f
  have h3 := hexStr_size nv
  have h4 := hexStr_size nm
  have h5 := numS_size nt
  have z1 : (⟨#[102, 105, 108, 116, 101, 114, 32]⟩ : ByteArray).size = 7 := rfl
  have z2 : (⟨#[32]⟩ : ByteArray).size = 1 := rfl
  have z3 : (⟨#[32, 47, 32]⟩ : ByteArray).size = 3 := rfl
  have z4 : (⟨#[32, 45, 62, 32]⟩ : ByteArray).size = 4 := rfl
  have z5 : (⟨#[59]⟩ : ByteArray).size = 1 := rfl
  unfold lineN
  simp only [ByteArray.size_append]
  omega
theorem flds_cells (w : World) (f : Nat) (hf : f < 4) (ty : TypeId) : (w.alloc (.cells #[.string ⟨#[115, 111, 117, 114, 99, 101]⟩, .string ⟨#[100, 101, 115, 116]⟩, .string ⟨#[112, 111, 114, 116]⟩, .string ⟨#[109, 97, 114, 107]⟩] ty)).cell? ⟨w.heap.size, f, none⟩ = some (.string (fldA.getD f ⟨#[]⟩)) := by
  rw [World.cell?_alloc_at _ _ _ _ rfl]
  rcases (show f = 0 ∨ f = 1 ∨ f = 2 ∨ f = 3 by omega) with rfl | rfl | rfl | rfl <;> rfl
theorem prFields_any (w : World) :
    Calls Tryz.prog 98 #[] w fun e w' => e = .returned (.slice (some ⟨w.heap.size, 0, none⟩) 4 4) ∧ (∀ f : Nat, f < 4 → w'.cell? ⟨w.heap.size, f, none⟩ = some (.string (fldA.getD f ⟨#[]⟩))) ∧ Below w.heap.size w w' := by
  go_enter Tryz.func98, Tryz.ntmps98
  go_wp2
  go_ret
  exact ⟨rfl, fun f hf => flds_cells _ f hf _, (Below.refl _ _).alloc (Nat.le_refl _) _⟩
set_option maxHeartbeats 12800000 in
theorem prFilter_any (no f nv nm nt : Nat) (ho : no ≤ 99) (hf : f < 4) (hv : nv ≤ 65535) (hm : nm ≤ 65535) (ht : nt ≤ 999) (w : World) :
    Calls Tryz.prog 66 #[.agg #[.int .i64 (no : Int), .int .i64 (f : Int), .int .i64 (nm : Int), .int .i64 (nv : Int), .int .i64 (nt : Int)]] w (SaysV w (.string (lineN no f nv nm nt))) := by
  have HO := Lib.hid (fun w => l1Num_any no (by omega) w)
  have HV := Lib.hid (fun w => nuHex_any nv w (by omega))
  have HM := Lib.hid (fun w => nuHex_any nm w (by omega))
  have HT := Lib.hid (fun w => l1Num_any nt (by omega) w)
  have HF := Lib.hid (fun w => (prFields_any w).mono (fun e w' h => (⟨h.1, h.2.1 f hf, h.2.2⟩ : e = .returned (.slice (some ⟨w.heap.size, 0, none⟩) 4 4) ∧ w'.cell? ⟨w.heap.size, f, none⟩ = some (.string (fldA.getD f ⟨#[]⟩)) ∧ Below w.heap.size w w')))
  have z1 := numS_size no
  have z2 := fldA_size f
  have z3 := hexStr_size nv
  have z4 := hexStr_size nm
  have z5 := numS_size nt
  have HX : Hid (lineN no f nv nm nt = (⟨#[102, 105, 108, 116, 101, 114, 32]⟩ ++ numS no ++ ⟨#[32]⟩ ++ fldA.getD f ⟨#[]⟩ ++ ⟨#[32]⟩ ++ hexStr nv ++ ⟨#[32, 47, 32]⟩ ++ hexStr nm ++ ⟨#[32, 45, 62, 32]⟩ ++ numS nt ++ ⟨#[59]⟩)) := Lib.hid rfl
  generalize lineN no f nv nm nt = R at HX ⊢
  generalize numS no = so at HO HX z1
  generalize fldA.getD f ⟨#[]⟩ = sf at HF HX z2
  generalize hexStr nv = sv at HV HX z3
  generalize hexStr nm = sm at HM HX z4
  generalize numS nt = st at HT HX z5
  have hk' : (f : Int) < 4 := by omega
  have hk0 : (0 : Int) ≤ f := by omega
  have hk1 : (f : Int) ≤ 4 := by omega
  have l1 : (⟨#[102, 105, 108, 116, 101, 114, 32]⟩ : ByteArray).size = 7 := rfl
  have l2 : (⟨#[32]⟩ : ByteArray).size = 1 := rfl
  have l3 : (⟨#[32, 47, 32]⟩ : ByteArray).size = 3 := rfl
  have l4 : (⟨#[32, 45, 62, 32]⟩ : ByteArray).size = 4 := rfl
  have l5 : (⟨#[59]⟩ : ByteArray).size = 1 := rfl
  have k1 : ¬ (9223372036854775807 < ((⟨#[102, 105, 108, 116, 101, 114, 32]⟩ : ByteArray)).size + so.size) := by (try simp only [ByteArray.size_append]); omega
  have k1b : ¬ (9223372036854775807 < 7 + so.size) := by omega
  have k2 : ¬ (9223372036854775807 < ((⟨#[102, 105, 108, 116, 101, 114, 32]⟩ : ByteArray) ++ so).size + (⟨#[32]⟩ : ByteArray).size) := by (try simp only [ByteArray.size_append]); omega
  have k2b : ¬ (9223372036854775807 < 7 + so.size + 1) := by omega
  have k3 : ¬ (9223372036854775807 < ((⟨#[102, 105, 108, 116, 101, 114, 32]⟩ : ByteArray) ++ so ++ ⟨#[32]⟩).size + sf.size) := by (try simp only [ByteArray.size_append]); omega
  have k3b : ¬ (9223372036854775807 < 7 + so.size + 1 + sf.size) := by omega
  have k4 : ¬ (9223372036854775807 < ((⟨#[102, 105, 108, 116, 101, 114, 32]⟩ : ByteArray) ++ so ++ ⟨#[32]⟩ ++ sf).size + (⟨#[32]⟩ : ByteArray).size) := by (try simp only [ByteArray.size_append]); omega
  have k4b : ¬ (9223372036854775807 < 7 + so.size + 1 + sf.size + 1) := by omega
  have k5 : ¬ (9223372036854775807 < ((⟨#[102, 105, 108, 116, 101, 114, 32]⟩ : ByteArray) ++ so ++ ⟨#[32]⟩ ++ sf ++ ⟨#[32]⟩).size + sv.size) := by (try simp only [ByteArray.size_append]); omega
  have k5b : ¬ (9223372036854775807 < 7 + so.size + 1 + sf.size + 1 + sv.size) := by omega
  have k6 : ¬ (9223372036854775807 < ((⟨#[102, 105, 108, 116, 101, 114, 32]⟩ : ByteArray) ++ so ++ ⟨#[32]⟩ ++ sf ++ ⟨#[32]⟩ ++ sv).size + (⟨#[32, 47, 32]⟩ : ByteArray).size) := by (try simp only [ByteArray.size_append]); omega
  have k6b : ¬ (9223372036854775807 < 7 + so.size + 1 + sf.size + 1 + sv.size + 3) := by omega
  have k7 : ¬ (9223372036854775807 < ((⟨#[102, 105, 108, 116, 101, 114, 32]⟩ : ByteArray) ++ so ++ ⟨#[32]⟩ ++ sf ++ ⟨#[32]⟩ ++ sv ++ ⟨#[32, 47, 32]⟩).size + sm.size) := by (try simp only [ByteArray.size_append]); omega
  have k7b : ¬ (9223372036854775807 < 7 + so.size + 1 + sf.size + 1 + sv.size + 3 + sm.size) := by omega
  have k8 : ¬ (9223372036854775807 < ((⟨#[102, 105, 108, 116, 101, 114, 32]⟩ : ByteArray) ++ so ++ ⟨#[32]⟩ ++ sf ++ ⟨#[32]⟩ ++ sv ++ ⟨#[32, 47, 32]⟩ ++ sm).size + (⟨#[32, 45, 62, 32]⟩ : ByteArray).size) := by (try simp only [ByteArray.size_append]); omega
  have k8b : ¬ (9223372036854775807 < 7 + so.size + 1 + sf.size + 1 + sv.size + 3 + sm.size + 4) := by omega
  have k9 : ¬ (9223372036854775807 < ((⟨#[102, 105, 108, 116, 101, 114, 32]⟩ : ByteArray) ++ so ++ ⟨#[32]⟩ ++ sf ++ ⟨#[32]⟩ ++ sv ++ ⟨#[32, 47, 32]⟩ ++ sm ++ ⟨#[32, 45, 62, 32]⟩).size + st.size) := by (try simp only [ByteArray.size_append]); omega
  have k9b : ¬ (9223372036854775807 < 7 + so.size + 1 + sf.size + 1 + sv.size + 3 + sm.size + 4 + st.size) := by omega
  have k10 : ¬ (9223372036854775807 < ((⟨#[102, 105, 108, 116, 101, 114, 32]⟩ : ByteArray) ++ so ++ ⟨#[32]⟩ ++ sf ++ ⟨#[32]⟩ ++ sv ++ ⟨#[32, 47, 32]⟩ ++ sm ++ ⟨#[32, 45, 62, 32]⟩ ++ st).size + (⟨#[59]⟩ : ByteArray).size) := by (try simp only [ByteArray.size_append]); omega
  have k10b : ¬ (9223372036854775807 < 7 + so.size + 1 + sf.size + 1 + sv.size + 3 + sm.size + 4 + st.size + 1) := by omega
  have HQ : Hid (∀ w', BX (w.alloc (Obj.cells #[.int .i64 (no : Int), .int .i64 (f : Int), .int .i64 (nm : Int), .int .i64 (nv : Int), .int .i64 (nt : Int)] 82)) w' → w'.cell? ⟨w.heap.size, 0, none⟩ = some (.int .i64 (no : Int)) ∧ w'.cell? ⟨w.heap.size, 1, none⟩ = some (.int .i64 (f : Int)) ∧ w'.cell? ⟨w.heap.size, 2, none⟩ = some (.int .i64 (nm : Int)) ∧ w'.cell? ⟨w.heap.size, 3, none⟩ = some (.int .i64 (nv : Int)) ∧ w'.cell? ⟨w.heap.size, 4, none⟩ = some (.int .i64 (nt : Int)) ∧ BX (w.alloc (Obj.cells #[.int .i64 (no : Int), .int .i64 (f : Int), .int .i64 (nm : Int), .int .i64 (nv : Int), .int .i64 (nt : Int)] 82)) w') := Lib.hid (fun w' h => by
    obtain ⟨a0, a1, a2, a3, a4⟩ := (box_fives2 h).1
    exact ⟨a0, a1, a2, a3, a4, h⟩)
  have HE : Hid (∀ w', BX (w.alloc (Obj.cells #[.int .i64 (no : Int), .int .i64 (f : Int), .int .i64 (nm : Int), .int .i64 (nv : Int), .int .i64 (nt : Int)] 82)) w' → Below w.heap.size w w') := Lib.hid (fun w' h => (box_fives2 h).2)
  clear z1 z2 z3 z4 z5 ho hf hv hm ht l1 l2 l3 l4 l5
  go_enter Tryz.func66, Tryz.ntmps66
  go_wp2_with fail
  refine wp_region_held_drew (S := fun w' => w'.cell? ⟨w.heap.size, 0, none⟩ = some (.int .i64 (no : Int)) ∧ w'.cell? ⟨w.heap.size, 1, none⟩ = some (.int .i64 (f : Int)) ∧ w'.cell? ⟨w.heap.size, 2, none⟩ = some (.int .i64 (nm : Int)) ∧ w'.cell? ⟨w.heap.size, 3, none⟩ = some (.int .i64 (nv : Int)) ∧ w'.cell? ⟨w.heap.size, 4, none⟩ = some (.int .i64 (nt : Int)) ∧ BX (w.alloc (Obj.cells #[.int .i64 (no : Int), .int .i64 (f : Int), .int .i64 (nm : Int), .int .i64 (nv : Int), .int .i64 (nt : Int)] 82)) w') (by kernel_rfl) ?_ (fun hHeld => ?_)
  · (try dsimp only)
    exact HQ.out _ (BX.drew0 _)
  refine held_take (i := 0) (d := 3) (v := ?_) rfl rfl (by kernel_rfl) (by kernel_rfl) (by kernel_rfl) (fun _ _ _ h => h) (by rfl) ?_ (by assumption) ?_
  rotate_left
  · intro w hSw
    (try dsimp only at hSw)
    go_simp
    try with_reducible rfl
  try simp only [Act.put, List.setIfInBounds_toArray, List.set_cons_zero, List.set_cons_succ]
  refine held_take (i := 1) (d := 4) (v := ?_) rfl rfl (by kernel_rfl) (by kernel_rfl) (by kernel_rfl) (fun _ _ _ h => h) (by rfl) ?_ (by assumption) ?_
  rotate_left
  · intro w hSw
    (try dsimp only at hSw)
    go_simp
    try with_reducible rfl
  try simp only [Act.put, List.setIfInBounds_toArray, List.set_cons_zero, List.set_cons_succ]
  refine held_take (i := 6) (d := 9) (v := ?_) rfl rfl (by kernel_rfl) (by kernel_rfl) (by kernel_rfl) (fun _ _ _ h => h) (by rfl) ?_ (by assumption) ?_
  rotate_left
  · intro w hSw
    (try dsimp only at hSw)
    go_simp
    try with_reducible rfl
  try simp only [Act.put, List.setIfInBounds_toArray, List.set_cons_zero, List.set_cons_succ]
  refine held_take (i := 7) (d := 10) (v := ?_) rfl rfl (by kernel_rfl) (by kernel_rfl) (by kernel_rfl) (fun _ _ _ h => h) (by rfl) ?_ (by assumption) ?_
  rotate_left
  · intro w hSw
    (try dsimp only at hSw)
    go_simp
    try with_reducible rfl
  try simp only [Act.put, List.setIfInBounds_toArray, List.set_cons_zero, List.set_cons_succ]
  refine held_take (i := 12) (d := 15) (v := ?_) rfl rfl (by kernel_rfl) (by kernel_rfl) (by kernel_rfl) (fun _ _ _ h => h) (by rfl) ?_ (by assumption) ?_
  rotate_left
  · intro w hSw
    (try dsimp only at hSw)
    go_simp
    try with_reducible rfl
  try simp only [Act.put, List.setIfInBounds_toArray, List.set_cons_zero, List.set_cons_succ]
  refine held_take (i := 13) (d := 16) (v := ?_) rfl rfl (by kernel_rfl) (by kernel_rfl) (by kernel_rfl) (fun _ _ _ h => h) (by rfl) ?_ (by assumption) ?_
  rotate_left
  · intro w hSw
    (try dsimp only at hSw)
    go_simp
    try with_reducible rfl
  try simp only [Act.put, List.setIfInBounds_toArray, List.set_cons_zero, List.set_cons_succ]
  refine held_take (i := 17) (d := 20) (v := ?_) rfl rfl (by kernel_rfl) (by kernel_rfl) (by kernel_rfl) (fun _ _ _ h => h) (by rfl) ?_ (by assumption) ?_
  rotate_left
  · intro w hSw
    (try dsimp only at hSw)
    go_simp
    try with_reducible rfl
  try simp only [Act.put, List.setIfInBounds_toArray, List.set_cons_zero, List.set_cons_succ]
  refine held_take (i := 18) (d := 21) (v := ?_) rfl rfl (by kernel_rfl) (by kernel_rfl) (by kernel_rfl) (fun _ _ _ h => h) (by rfl) ?_ (by assumption) ?_
  rotate_left
  · intro w hSw
    (try dsimp only at hSw)
    go_simp
    try with_reducible rfl
  try simp only [Act.put, List.setIfInBounds_toArray, List.set_cons_zero, List.set_cons_succ]
  refine held_take (i := 22) (d := 25) (v := ?_) rfl rfl (by kernel_rfl) (by kernel_rfl) (by kernel_rfl) (fun _ _ _ h => h) (by rfl) ?_ (by assumption) ?_
  rotate_left
  · intro w hSw
    (try dsimp only at hSw)
    go_simp
    try with_reducible rfl
  try simp only [Act.put, List.setIfInBounds_toArray, List.set_cons_zero, List.set_cons_succ]
  refine held_take (i := 23) (d := 26) (v := ?_) rfl rfl (by kernel_rfl) (by kernel_rfl) (by kernel_rfl) (fun _ _ _ h => h) (by rfl) ?_ (by assumption) ?_
  rotate_left
  · intro w hSw
    (try dsimp only at hSw)
    go_simp
    try with_reducible rfl
  try simp only [Act.put, List.setIfInBounds_toArray, List.set_cons_zero, List.set_cons_succ]
  have B0 : Hid (BX (w.alloc (Obj.cells #[.int .i64 (no : Int), .int .i64 (f : Int), .int .i64 (nm : Int), .int .i64 (nv : Int), .int .i64 (nt : Int)] 82)) (w.alloc (Obj.cells #[.int .i64 (no : Int), .int .i64 (f : Int), .int .i64 (nm : Int), .int .i64 (nv : Int), .int .i64 (nt : Int)] 82)).drew) := Lib.hid (BX.drew0 _)
  refine wpAnyH_ready (rs := [2]) (by kernel_rfl) (by simp) ?_
  refine ((AllReadyH.cons rfl (fun K' hK => ?_) AllReadyH.nil))
  go_simp
  go_at_call 33
  refine (HO.out _).mono ?_
  rintro e u1 ⟨rfl, b⟩
  have B1 := Lib.hid (B0.out.call b)
  clear b
  refine hK.out _ _ ?_ (fun hHeld => ?_)
  · (try dsimp only)
    exact HQ.out _ B1.out
  clear hK K'
  try simp only [Act.put, List.setIfInBounds_toArray, List.set_cons_zero, List.set_cons_succ]
  refine held_take (i := 3) (d := 6) (v := ?_) rfl rfl (by kernel_rfl) (by kernel_rfl) (by kernel_rfl) (fun _ _ _ h => h) (by rfl) ?_ (by assumption) ?_
  rotate_left
  · intro w hSw
    (try dsimp only at hSw)
    go_simp
    try with_reducible rfl
  try simp only [Act.put, List.setIfInBounds_toArray, List.set_cons_zero, List.set_cons_succ]
  refine held_take (i := 4) (d := 7) (v := ?_) rfl rfl (by kernel_rfl) (by kernel_rfl) (by kernel_rfl) (fun _ _ _ h => h) (by rfl) ?_ (by assumption) ?_
  rotate_left
  · intro w hSw
    (try dsimp only at hSw)
    go_simp
    try with_reducible rfl
  try simp only [Act.put, List.setIfInBounds_toArray, List.set_cons_zero, List.set_cons_succ]
  refine wpAnyH_ready (rs := [5]) (by kernel_rfl) (by simp) ?_
  refine ((AllReadyH.cons rfl (fun K' hK => ?_) AllReadyH.nil))
  go_simp
  go_at_call 98
  refine (HF.out _).mono ?_
  rintro e u2 ⟨rfl, hc, b⟩
  have B2 := Lib.hid (B1.out.call b)
  have HC2 := Lib.hid hc
  have HL2 := Lib.hid (World.block_lt_of_cell? _ _ hc)
  clear b hc
  refine hK.out _ _ ?_ (fun hHeld => ?_)
  · (try dsimp only)
    exact HQ.out _ B2.out
  clear hK K'
  try simp only [Act.put, List.setIfInBounds_toArray, List.set_cons_zero, List.set_cons_succ]
  refine held_take (i := 8) (d := 11) (v := ?_) rfl rfl (by kernel_rfl) (by kernel_rfl) (by kernel_rfl) (fun _ _ _ h => h) (by rfl) ?_ (by assumption) ?_
  rotate_left
  · intro w hSw
    (try dsimp only at hSw)
    go_simp
    try with_reducible rfl
  try simp only [Act.put, List.setIfInBounds_toArray, List.set_cons_zero, List.set_cons_succ]
  refine wpAnyH_ready (rs := [9, 14]) (by kernel_rfl) (by simp) ?_
  refine ((AllReadyH.cons rfl (fun K' hK => ?_) (AllReadyH.cons rfl (fun K' hK => ?_) AllReadyH.nil)))
  · skip
    have hc := HC2.out
    go_simp
    refine hK.out _ _ ?_ (fun hHeld => ?_)
    · (try dsimp only)
      exact HQ.out _ B2.out
    clear hK K'
    try simp only [Act.put, List.setIfInBounds_toArray, List.set_cons_zero, List.set_cons_succ]
    refine held_take (i := 10) (d := 13) (v := ?_) rfl rfl (by kernel_rfl) (by kernel_rfl) (by kernel_rfl) (fun _ _ _ h => h) (by rfl) ?_ (by assumption) ?_
    rotate_left
    · intro w hSw
      (try dsimp only at hSw)
      go_simp
      try with_reducible rfl
    try simp only [Act.put, List.setIfInBounds_toArray, List.set_cons_zero, List.set_cons_succ]
    refine held_take (i := 11) (d := 14) (v := ?_) rfl rfl (by kernel_rfl) (by kernel_rfl) (by kernel_rfl) (fun _ _ _ h => h) (by rfl) ?_ (by assumption) ?_
    rotate_left
    · intro w hSw
      (try dsimp only at hSw)
      go_simp
      try with_reducible rfl
    try simp only [Act.put, List.setIfInBounds_toArray, List.set_cons_zero, List.set_cons_succ]
    refine wpAnyH_ready (rs := [14]) (by kernel_rfl) (by simp) ?_
    refine ((AllReadyH.cons rfl (fun K' hK => ?_) AllReadyH.nil))
    go_simp
    go_at_call 99
    refine (HV.out _).mono ?_
    rintro e u3 ⟨rfl, rfl⟩
    have B3 := B2
    refine hK.out _ _ ?_ (fun hHeld => ?_)
    · (try dsimp only)
      exact HQ.out _ B3.out
    clear hK K'
    try simp only [Act.put, List.setIfInBounds_toArray, List.set_cons_zero, List.set_cons_succ]
    refine held_take (i := 15) (d := 18) (v := ?_) rfl rfl (by kernel_rfl) (by kernel_rfl) (by kernel_rfl) (fun _ _ _ h => h) (by rfl) ?_ (by assumption) ?_
    rotate_left
    · intro w hSw
      (try dsimp only at hSw)
      go_simp
      try with_reducible rfl
    try simp only [Act.put, List.setIfInBounds_toArray, List.set_cons_zero, List.set_cons_succ]
    refine held_take (i := 16) (d := 19) (v := ?_) rfl rfl (by kernel_rfl) (by kernel_rfl) (by kernel_rfl) (fun _ _ _ h => h) (by rfl) ?_ (by assumption) ?_
    rotate_left
    · intro w hSw
      (try dsimp only at hSw)
      go_simp
      try with_reducible rfl
    try simp only [Act.put, List.setIfInBounds_toArray, List.set_cons_zero, List.set_cons_succ]
    refine wpAnyH_ready (rs := [19]) (by kernel_rfl) (by simp) ?_
    refine ((AllReadyH.cons rfl (fun K' hK => ?_) AllReadyH.nil))
    go_simp
    go_at_call 99
    refine (HM.out _).mono ?_
    rintro e u4 ⟨rfl, rfl⟩
    have B4 := B3
    refine hK.out _ _ ?_ (fun hHeld => ?_)
    · (try dsimp only)
      exact HQ.out _ B4.out
    clear hK K'
    try simp only [Act.put, List.setIfInBounds_toArray, List.set_cons_zero, List.set_cons_succ]
    refine held_take (i := 20) (d := 23) (v := ?_) rfl rfl (by kernel_rfl) (by kernel_rfl) (by kernel_rfl) (fun _ _ _ h => h) (by rfl) ?_ (by assumption) ?_
    rotate_left
    · intro w hSw
      (try dsimp only at hSw)
      go_simp
      try with_reducible rfl
    try simp only [Act.put, List.setIfInBounds_toArray, List.set_cons_zero, List.set_cons_succ]
    refine held_take (i := 21) (d := 24) (v := ?_) rfl rfl (by kernel_rfl) (by kernel_rfl) (by kernel_rfl) (fun _ _ _ h => h) (by rfl) ?_ (by assumption) ?_
    rotate_left
    · intro w hSw
      (try dsimp only at hSw)
      go_simp
      try with_reducible rfl
    try simp only [Act.put, List.setIfInBounds_toArray, List.set_cons_zero, List.set_cons_succ]
    refine wpAnyH_ready (rs := [24]) (by kernel_rfl) (by simp) ?_
    refine ((AllReadyH.cons rfl (fun K' hK => ?_) AllReadyH.nil))
    go_simp
    go_at_call 33
    refine (HT.out _).mono ?_
    rintro e u5 ⟨rfl, b⟩
    have B5 := Lib.hid (B4.out.call b)
    clear b
    refine hK.out _ _ ?_ (fun hHeld => ?_)
    · (try dsimp only)
      exact HQ.out _ B5.out
    clear hK K'
    try simp only [Act.put, List.setIfInBounds_toArray, List.set_cons_zero, List.set_cons_succ]
    refine held_take (i := 25) (d := 28) (v := ?_) rfl rfl (by kernel_rfl) (by kernel_rfl) (by kernel_rfl) (fun _ _ _ h => h) (by rfl) ?_ (by assumption) ?_
    rotate_left
    · intro w hSw
      (try dsimp only at hSw)
      go_simp
      try with_reducible rfl
    try simp only [Act.put, List.setIfInBounds_toArray, List.set_cons_zero, List.set_cons_succ]
    refine held_take (i := 26) (d := 29) (v := ?_) rfl rfl (by kernel_rfl) (by kernel_rfl) (by kernel_rfl) (fun _ _ _ h => h) (by rfl) ?_ (by assumption) ?_
    rotate_left
    · intro w hSw
      (try dsimp only at hSw)
      go_simp
      try with_reducible rfl
    try simp only [Act.put, List.setIfInBounds_toArray, List.set_cons_zero, List.set_cons_succ]
    refine held_take (i := 27) (d := 2) (v := ?_) rfl rfl (by kernel_rfl) (by kernel_rfl) (by kernel_rfl) (fun _ _ _ h => h) (by rfl) ?_ (by assumption) ?_
    rotate_left
    · intro w hSw
      (try dsimp only at hSw)
      go_simp
      try with_reducible rfl
    try simp only [Act.put, List.setIfInBounds_toArray, List.set_cons_zero, List.set_cons_succ]
    have BZ := B5
    refine wpAnyH_done (by kernel_rfl) ?_ _
    go_wp2_with fail
    go_ret
    exact ⟨congrArg (fun s => Ending.returned (.string s)) HX.out.symm, HE.out _ BZ.out⟩
  · skip
    go_simp
    go_at_call 99
    refine (HV.out _).mono ?_
    rintro e u3 ⟨rfl, rfl⟩
    have B3 := B2
    have HC3 := HC2
    have HL3 := HL2
    refine hK.out _ _ ?_ (fun hHeld => ?_)
    · (try dsimp only)
      exact HQ.out _ B3.out
    clear hK K'
    try simp only [Act.put, List.setIfInBounds_toArray, List.set_cons_zero, List.set_cons_succ]
    refine wpAnyH_ready (rs := [9, 19]) (by kernel_rfl) (by simp) ?_
    refine ((AllReadyH.cons rfl (fun K' hK => ?_) (AllReadyH.cons rfl (fun K' hK => ?_) AllReadyH.nil)))
    · skip
      have hc := HC3.out
      go_simp
      refine hK.out _ _ ?_ (fun hHeld => ?_)
      · (try dsimp only)
        exact HQ.out _ B3.out
      clear hK K'
      try simp only [Act.put, List.setIfInBounds_toArray, List.set_cons_zero, List.set_cons_succ]
      refine held_take (i := 10) (d := 13) (v := ?_) rfl rfl (by kernel_rfl) (by kernel_rfl) (by kernel_rfl) (fun _ _ _ h => h) (by rfl) ?_ (by assumption) ?_
      rotate_left
      · intro w hSw
        (try dsimp only at hSw)
        go_simp
        try with_reducible rfl
      try simp only [Act.put, List.setIfInBounds_toArray, List.set_cons_zero, List.set_cons_succ]
      refine held_take (i := 11) (d := 14) (v := ?_) rfl rfl (by kernel_rfl) (by kernel_rfl) (by kernel_rfl) (fun _ _ _ h => h) (by rfl) ?_ (by assumption) ?_
      rotate_left
      · intro w hSw
        (try dsimp only at hSw)
        go_simp
        try with_reducible rfl
      try simp only [Act.put, List.setIfInBounds_toArray, List.set_cons_zero, List.set_cons_succ]
      refine held_take (i := 15) (d := 18) (v := ?_) rfl rfl (by kernel_rfl) (by kernel_rfl) (by kernel_rfl) (fun _ _ _ h => h) (by rfl) ?_ (by assumption) ?_
      rotate_left
      · intro w hSw
        (try dsimp only at hSw)
        go_simp
        try with_reducible rfl
      try simp only [Act.put, List.setIfInBounds_toArray, List.set_cons_zero, List.set_cons_succ]
      refine held_take (i := 16) (d := 19) (v := ?_) rfl rfl (by kernel_rfl) (by kernel_rfl) (by kernel_rfl) (fun _ _ _ h => h) (by rfl) ?_ (by assumption) ?_
      rotate_left
      · intro w hSw
        (try dsimp only at hSw)
        go_simp
        try with_reducible rfl
      try simp only [Act.put, List.setIfInBounds_toArray, List.set_cons_zero, List.set_cons_succ]
      refine wpAnyH_ready (rs := [19]) (by kernel_rfl) (by simp) ?_
      refine ((AllReadyH.cons rfl (fun K' hK => ?_) AllReadyH.nil))
      go_simp
      go_at_call 99
      refine (HM.out _).mono ?_
      rintro e u4 ⟨rfl, rfl⟩
      have B4 := B3
      refine hK.out _ _ ?_ (fun hHeld => ?_)
      · (try dsimp only)
        exact HQ.out _ B4.out
      clear hK K'
      try simp only [Act.put, List.setIfInBounds_toArray, List.set_cons_zero, List.set_cons_succ]
      refine held_take (i := 20) (d := 23) (v := ?_) rfl rfl (by kernel_rfl) (by kernel_rfl) (by kernel_rfl) (fun _ _ _ h => h) (by rfl) ?_ (by assumption) ?_
      rotate_left
      · intro w hSw
        (try dsimp only at hSw)
        go_simp
        try with_reducible rfl
      try simp only [Act.put, List.setIfInBounds_toArray, List.set_cons_zero, List.set_cons_succ]
      refine held_take (i := 21) (d := 24) (v := ?_) rfl rfl (by kernel_rfl) (by kernel_rfl) (by kernel_rfl) (fun _ _ _ h => h) (by rfl) ?_ (by assumption) ?_
      rotate_left
      · intro w hSw
        (try dsimp only at hSw)
        go_simp
        try with_reducible rfl
      try simp only [Act.put, List.setIfInBounds_toArray, List.set_cons_zero, List.set_cons_succ]
      refine wpAnyH_ready (rs := [24]) (by kernel_rfl) (by simp) ?_
      refine ((AllReadyH.cons rfl (fun K' hK => ?_) AllReadyH.nil))
      go_simp
      go_at_call 33
      refine (HT.out _).mono ?_
      rintro e u5 ⟨rfl, b⟩
      have B5 := Lib.hid (B4.out.call b)
      clear b
      refine hK.out _ _ ?_ (fun hHeld => ?_)
      · (try dsimp only)
        exact HQ.out _ B5.out
      clear hK K'
      try simp only [Act.put, List.setIfInBounds_toArray, List.set_cons_zero, List.set_cons_succ]
      refine held_take (i := 25) (d := 28) (v := ?_) rfl rfl (by kernel_rfl) (by kernel_rfl) (by kernel_rfl) (fun _ _ _ h => h) (by rfl) ?_ (by assumption) ?_
      rotate_left
      · intro w hSw
        (try dsimp only at hSw)
        go_simp
        try with_reducible rfl
      try simp only [Act.put, List.setIfInBounds_toArray, List.set_cons_zero, List.set_cons_succ]
      refine held_take (i := 26) (d := 29) (v := ?_) rfl rfl (by kernel_rfl) (by kernel_rfl) (by kernel_rfl) (fun _ _ _ h => h) (by rfl) ?_ (by assumption) ?_
      rotate_left
      · intro w hSw
        (try dsimp only at hSw)
        go_simp
        try with_reducible rfl
      try simp only [Act.put, List.setIfInBounds_toArray, List.set_cons_zero, List.set_cons_succ]
      refine held_take (i := 27) (d := 2) (v := ?_) rfl rfl (by kernel_rfl) (by kernel_rfl) (by kernel_rfl) (fun _ _ _ h => h) (by rfl) ?_ (by assumption) ?_
      rotate_left
      · intro w hSw
        (try dsimp only at hSw)
        go_simp
        try with_reducible rfl
      try simp only [Act.put, List.setIfInBounds_toArray, List.set_cons_zero, List.set_cons_succ]
      have BZ := B5
      refine wpAnyH_done (by kernel_rfl) ?_ _
      go_wp2_with fail
      go_ret
      exact ⟨congrArg (fun s => Ending.returned (.string s)) HX.out.symm, HE.out _ BZ.out⟩
    · skip
      go_simp
      go_at_call 99
      refine (HM.out _).mono ?_
      rintro e u4 ⟨rfl, rfl⟩
      have B4 := B3
      have HC4 := HC3
      have HL4 := HL3
      refine hK.out _ _ ?_ (fun hHeld => ?_)
      · (try dsimp only)
        exact HQ.out _ B4.out
      clear hK K'
      try simp only [Act.put, List.setIfInBounds_toArray, List.set_cons_zero, List.set_cons_succ]
      refine wpAnyH_ready (rs := [9, 24]) (by kernel_rfl) (by simp) ?_
      refine ((AllReadyH.cons rfl (fun K' hK => ?_) (AllReadyH.cons rfl (fun K' hK => ?_) AllReadyH.nil)))
      · skip
        have hc := HC4.out
        go_simp
        refine hK.out _ _ ?_ (fun hHeld => ?_)
        · (try dsimp only)
          exact HQ.out _ B4.out
        clear hK K'
        try simp only [Act.put, List.setIfInBounds_toArray, List.set_cons_zero, List.set_cons_succ]
        refine held_take (i := 10) (d := 13) (v := ?_) rfl rfl (by kernel_rfl) (by kernel_rfl) (by kernel_rfl) (fun _ _ _ h => h) (by rfl) ?_ (by assumption) ?_
        rotate_left
        · intro w hSw
          (try dsimp only at hSw)
          go_simp
          try with_reducible rfl
        try simp only [Act.put, List.setIfInBounds_toArray, List.set_cons_zero, List.set_cons_succ]
        refine held_take (i := 11) (d := 14) (v := ?_) rfl rfl (by kernel_rfl) (by kernel_rfl) (by kernel_rfl) (fun _ _ _ h => h) (by rfl) ?_ (by assumption) ?_
        rotate_left
        · intro w hSw
          (try dsimp only at hSw)
          go_simp
          try with_reducible rfl
        try simp only [Act.put, List.setIfInBounds_toArray, List.set_cons_zero, List.set_cons_succ]
        refine held_take (i := 15) (d := 18) (v := ?_) rfl rfl (by kernel_rfl) (by kernel_rfl) (by kernel_rfl) (fun _ _ _ h => h) (by rfl) ?_ (by assumption) ?_
        rotate_left
        · intro w hSw
          (try dsimp only at hSw)
          go_simp
          try with_reducible rfl
        try simp only [Act.put, List.setIfInBounds_toArray, List.set_cons_zero, List.set_cons_succ]
        refine held_take (i := 16) (d := 19) (v := ?_) rfl rfl (by kernel_rfl) (by kernel_rfl) (by kernel_rfl) (fun _ _ _ h => h) (by rfl) ?_ (by assumption) ?_
        rotate_left
        · intro w hSw
          (try dsimp only at hSw)
          go_simp
          try with_reducible rfl
        try simp only [Act.put, List.setIfInBounds_toArray, List.set_cons_zero, List.set_cons_succ]
        refine held_take (i := 20) (d := 23) (v := ?_) rfl rfl (by kernel_rfl) (by kernel_rfl) (by kernel_rfl) (fun _ _ _ h => h) (by rfl) ?_ (by assumption) ?_
        rotate_left
        · intro w hSw
          (try dsimp only at hSw)
          go_simp
          try with_reducible rfl
        try simp only [Act.put, List.setIfInBounds_toArray, List.set_cons_zero, List.set_cons_succ]
        refine held_take (i := 21) (d := 24) (v := ?_) rfl rfl (by kernel_rfl) (by kernel_rfl) (by kernel_rfl) (fun _ _ _ h => h) (by rfl) ?_ (by assumption) ?_
        rotate_left
        · intro w hSw
          (try dsimp only at hSw)
          go_simp
          try with_reducible rfl
        try simp only [Act.put, List.setIfInBounds_toArray, List.set_cons_zero, List.set_cons_succ]
        refine wpAnyH_ready (rs := [24]) (by kernel_rfl) (by simp) ?_
        refine ((AllReadyH.cons rfl (fun K' hK => ?_) AllReadyH.nil))
        go_simp
        go_at_call 33
        refine (HT.out _).mono ?_
        rintro e u5 ⟨rfl, b⟩
        have B5 := Lib.hid (B4.out.call b)
        clear b
        refine hK.out _ _ ?_ (fun hHeld => ?_)
        · (try dsimp only)
          exact HQ.out _ B5.out
        clear hK K'
        try simp only [Act.put, List.setIfInBounds_toArray, List.set_cons_zero, List.set_cons_succ]
        refine held_take (i := 25) (d := 28) (v := ?_) rfl rfl (by kernel_rfl) (by kernel_rfl) (by kernel_rfl) (fun _ _ _ h => h) (by rfl) ?_ (by assumption) ?_
        rotate_left
        · intro w hSw
          (try dsimp only at hSw)
          go_simp
          try with_reducible rfl
        try simp only [Act.put, List.setIfInBounds_toArray, List.set_cons_zero, List.set_cons_succ]
        refine held_take (i := 26) (d := 29) (v := ?_) rfl rfl (by kernel_rfl) (by kernel_rfl) (by kernel_rfl) (fun _ _ _ h => h) (by rfl) ?_ (by assumption) ?_
        rotate_left
        · intro w hSw
          (try dsimp only at hSw)
          go_simp
          try with_reducible rfl
        try simp only [Act.put, List.setIfInBounds_toArray, List.set_cons_zero, List.set_cons_succ]
        refine held_take (i := 27) (d := 2) (v := ?_) rfl rfl (by kernel_rfl) (by kernel_rfl) (by kernel_rfl) (fun _ _ _ h => h) (by rfl) ?_ (by assumption) ?_
        rotate_left
        · intro w hSw
          (try dsimp only at hSw)
          go_simp
          try with_reducible rfl
        try simp only [Act.put, List.setIfInBounds_toArray, List.set_cons_zero, List.set_cons_succ]
        have BZ := B5
        refine wpAnyH_done (by kernel_rfl) ?_ _
        go_wp2_with fail
        go_ret
        exact ⟨congrArg (fun s => Ending.returned (.string s)) HX.out.symm, HE.out _ BZ.out⟩
      · skip
        go_simp
        go_at_call 33
        refine (HT.out _).mono ?_
        rintro e u5 ⟨rfl, b⟩
        have B5 := Lib.hid (B4.out.call b)
        have HC5 := Lib.hid (((bcell b).1 _ _ HL4.out).trans HC4.out)
        clear b
        refine hK.out _ _ ?_ (fun hHeld => ?_)
        · (try dsimp only)
          exact HQ.out _ B5.out
        clear hK K'
        try simp only [Act.put, List.setIfInBounds_toArray, List.set_cons_zero, List.set_cons_succ]
        refine wpAnyH_ready (rs := [9]) (by kernel_rfl) (by simp) ?_
        refine ((AllReadyH.cons rfl (fun K' hK => ?_) AllReadyH.nil))
        have hc := HC5.out
        go_simp
        refine hK.out _ _ ?_ (fun hHeld => ?_)
        · (try dsimp only)
          exact HQ.out _ B5.out
        clear hK K'
        try simp only [Act.put, List.setIfInBounds_toArray, List.set_cons_zero, List.set_cons_succ]
        refine held_take (i := 10) (d := 13) (v := ?_) rfl rfl (by kernel_rfl) (by kernel_rfl) (by kernel_rfl) (fun _ _ _ h => h) (by rfl) ?_ (by assumption) ?_
        rotate_left
        · intro w hSw
          (try dsimp only at hSw)
          go_simp
          try with_reducible rfl
        try simp only [Act.put, List.setIfInBounds_toArray, List.set_cons_zero, List.set_cons_succ]
        refine held_take (i := 11) (d := 14) (v := ?_) rfl rfl (by kernel_rfl) (by kernel_rfl) (by kernel_rfl) (fun _ _ _ h => h) (by rfl) ?_ (by assumption) ?_
        rotate_left
        · intro w hSw
          (try dsimp only at hSw)
          go_simp
          try with_reducible rfl
        try simp only [Act.put, List.setIfInBounds_toArray, List.set_cons_zero, List.set_cons_succ]
        refine held_take (i := 15) (d := 18) (v := ?_) rfl rfl (by kernel_rfl) (by kernel_rfl) (by kernel_rfl) (fun _ _ _ h => h) (by rfl) ?_ (by assumption) ?_
        rotate_left
        · intro w hSw
          (try dsimp only at hSw)
          go_simp
          try with_reducible rfl
        try simp only [Act.put, List.setIfInBounds_toArray, List.set_cons_zero, List.set_cons_succ]
        refine held_take (i := 16) (d := 19) (v := ?_) rfl rfl (by kernel_rfl) (by kernel_rfl) (by kernel_rfl) (fun _ _ _ h => h) (by rfl) ?_ (by assumption) ?_
        rotate_left
        · intro w hSw
          (try dsimp only at hSw)
          go_simp
          try with_reducible rfl
        try simp only [Act.put, List.setIfInBounds_toArray, List.set_cons_zero, List.set_cons_succ]
        refine held_take (i := 20) (d := 23) (v := ?_) rfl rfl (by kernel_rfl) (by kernel_rfl) (by kernel_rfl) (fun _ _ _ h => h) (by rfl) ?_ (by assumption) ?_
        rotate_left
        · intro w hSw
          (try dsimp only at hSw)
          go_simp
          try with_reducible rfl
        try simp only [Act.put, List.setIfInBounds_toArray, List.set_cons_zero, List.set_cons_succ]
        refine held_take (i := 21) (d := 24) (v := ?_) rfl rfl (by kernel_rfl) (by kernel_rfl) (by kernel_rfl) (fun _ _ _ h => h) (by rfl) ?_ (by assumption) ?_
        rotate_left
        · intro w hSw
          (try dsimp only at hSw)
          go_simp
          try with_reducible rfl
        try simp only [Act.put, List.setIfInBounds_toArray, List.set_cons_zero, List.set_cons_succ]
        refine held_take (i := 25) (d := 28) (v := ?_) rfl rfl (by kernel_rfl) (by kernel_rfl) (by kernel_rfl) (fun _ _ _ h => h) (by rfl) ?_ (by assumption) ?_
        rotate_left
        · intro w hSw
          (try dsimp only at hSw)
          go_simp
          try with_reducible rfl
        try simp only [Act.put, List.setIfInBounds_toArray, List.set_cons_zero, List.set_cons_succ]
        refine held_take (i := 26) (d := 29) (v := ?_) rfl rfl (by kernel_rfl) (by kernel_rfl) (by kernel_rfl) (fun _ _ _ h => h) (by rfl) ?_ (by assumption) ?_
        rotate_left
        · intro w hSw
          (try dsimp only at hSw)
          go_simp
          try with_reducible rfl
        try simp only [Act.put, List.setIfInBounds_toArray, List.set_cons_zero, List.set_cons_succ]
        refine held_take (i := 27) (d := 2) (v := ?_) rfl rfl (by kernel_rfl) (by kernel_rfl) (by kernel_rfl) (fun _ _ _ h => h) (by rfl) ?_ (by assumption) ?_
        rotate_left
        · intro w hSw
          (try dsimp only at hSw)
          go_simp
          try with_reducible rfl
        try simp only [Act.put, List.setIfInBounds_toArray, List.set_cons_zero, List.set_cons_succ]
        have BZ := B5
        refine wpAnyH_done (by kernel_rfl) ?_ _
        go_wp2_with fail
        go_ret
        exact ⟨congrArg (fun s => Ending.returned (.string s)) HX.out.symm, HE.out _ BZ.out⟩
end Go.Proofs.YthgbhnedfdnfpaaGreatDoor
