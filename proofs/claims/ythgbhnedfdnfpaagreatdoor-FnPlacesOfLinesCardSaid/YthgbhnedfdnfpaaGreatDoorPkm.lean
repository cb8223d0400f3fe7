import Derived.Test.YthgbhnedfdnfpaaGreatDoorPkk
import Derived.Test.YthgbhnedfdnfpaaGreatDoorPkl
import Derived.Test.YthgbhnedfdnfpaaGreatDoorPkb
/- Canonical texts: words joined, heads of classes and lines of filters, both sides (written by tools/gen_prc.py). -/
namespace Go.Proofs.YthgbhnedfdnfpaaGreatDoor
set_option maxRecDepth 100000
open Go.RowKit
set_option linter.unusedVariables false
set_option linter.unusedSimpArgs false

theorem ret_sb {a a' : ByteArray} {b : Bool} (h : a' = a) : Ending.returned (.tuple #[.string a', .bool b]) = Ending.returned (.tuple #[.string a, .bool b]) := by rw [h]
def joinB (l : List ByteArray) : ByteArray := ⟨(Lib.join (l.map (·.data.toList)) [32]).toArray⟩
theorem joinB_len (l : List ByteArray) : (Lib.join (l.map (·.data.toList)) (⟨#[32]⟩ : ByteArray).data.toList).length = (joinB l).size := by
  unfold joinB
  exact (List.size_toArray).symm
theorem words_new (w : World) (a : Array Value) (l : List ByteArray) (h : a = (l.map Value.string).toArray) (T : TypeId) : ∀ (j : Nat) x, l[j]? = some x → (w.alloc (.cells a T)).cell? ⟨w.heap.size, 0 + j, none⟩ = some (.string x) := by
  intro j x hj
  subst h
  rw [Nat.zero_add, World.cell?_alloc_at _ _ _ _ rfl]
  simp [hj]
theorem joinWords_any (l : List ByteArray) (g n c : Nat) (w : World) (HC : Hid (∀ (j : Nat) x, l[j]? = some x → w.cell? ⟨g, 0 + j, none⟩ = some (.string x))) (hn : Hid (l.length = n)) (hg : g < w.heap.size) (hc : n ≤ c) (h0 : n ≤ 100) (J : ByteArray) (HJ : Hid (joinB l = J)) (hz : J.size ≤ 140737488355328) :
    Calls Tryz.prog 37 #[.slice (some ⟨g, 0, none⟩) n c] w (SaysV w (.string J)) := by
  have HJN : Hid (Calls Tryz.prog 64 #[.slice (some ⟨g, 0, none⟩) n c, .string ⟨#[32]⟩] w (SaysV w (.string J))) := Lib.hid (by
    have hln := hn.out
    have q := Tryz.strings_Join g 0 c l ⟨#[32]⟩ w HC.out hg (by omega) (by omega) (by rw [joinB_len, HJ.out]; exact hz)
    rw [hln] at q
    refine q.mono ?_
    rintro e w' ⟨rfl, b⟩
    exact ⟨congrArg (fun s => Ending.returned (.string s)) HJ.out, b⟩)
  go_enter Tryz.func37, Tryz.ntmps37
  go_wp2_with (go_at_call 64; refine (HJN.out).mono ?_; rintro e w5 ⟨rfl, b⟩; have B := Lib.hid b; clear b)
  go_ret
  exact ⟨rfl, B.out⟩
theorem sureText_any (s : ByteArray) (b : Bool) (w : World) : Calls Tryz.prog 39 #[.string s, .bool b] w fun e w' => e = .returned (.string s) ∧ w = w' := by
  go_enter Tryz.func39, Tryz.ntmps39
  go_wp2
  go_ret
  exact ⟨rfl, rfl⟩
structure ClN (x : Cls) (ni nr ne nb nu no : Nat) : Prop where
  ei : x.i = ni
  er : x.r = nr
  ee : x.e = ne
  eb : x.b = nb
  eu : x.u = nu
  eo : x.o = no
  bi : ni ≤ 999
  br : nr ≤ 100000
  be : ne ≤ 100000
  bb : nb ≤ 1000000
  bu : nu ≤ 1000000
  bo : no ≤ 7
theorem cln {x : Cls} (h : ClsSelf x = true) : ClN x x.i.toNat x.r.toNat x.e.toNat x.b.toNat x.u.toNat x.o.toNat := by
  unfold ClsSelf rateOk at h
  simp only [Bool.and_eq_true] at h
  obtain ⟨h0, h1, h2, h3, h4, h5⟩ := h
  have := inBR_iff.1 h0; have := inBR_iff.1 h1; have := inBR_iff.1 h2; have := inBR_iff.1 h3; have := inBR_iff.1 h4; have := inBR_iff.1 h5
  exact ⟨by omega, by omega, by omega, by omega, by omega, by omega, by omega, by omega, by omega, by omega, by omega, by omega⟩
def resClassHead (x : Cls) : ByteArray := if ClsSelf x then headT x else ⟨#[]⟩
theorem rh_no {x : Cls} (h : ClsSelf x = false) : resClassHead x = ⟨#[]⟩ := by unfold resClassHead; rw [h]; rfl
theorem rh_yes {x : Cls} (h : ClsSelf x = true) : resClassHead x = headN x.i.toNat x.r.toNat x.e.toNat x.b.toNat x.u.toNat x.o.toNat := by unfold resClassHead; rw [h]; rfl
set_option maxHeartbeats 1600000 in
theorem implClassHead_no (x : Cls) (w : World) (h : ClsSelf x = false) : Calls Tryz.prog 16 #[clsV x] w (SaysStrB w ⟨#[]⟩ false) := by
  have HI := Lib.hid (fun w => isIn_any x.i 1 999 w)
  have HR := Lib.hid (fun w => hasRates_any x w)
  unfold ClsSelf at h
  cases h0 : inB x.i 1 999
  · rw [h0] at HI
    clear h h0 HR
    obtain ⟨xi, xp, xr, xe, xb, xu, xo, xl⟩ := x
    unfold clsV
    simp only at HI ⊢
    go_enter Tryz.func16, Tryz.ntmps16
    go_wp2_with (go_at_call 35; refine (HI.out _).mono ?_; rintro e w' ⟨rfl, rfl⟩)
    go_ret2
    exact ⟨rfl, one_new2 _ _⟩
  · rw [h0, Bool.true_and] at h
    rw [h0] at HI
    rw [h] at HR
    clear h h0
    obtain ⟨xi, xp, xr, xe, xb, xu, xo, xl⟩ := x
    unfold clsV at HR ⊢
    simp only at HI HR ⊢
    go_enter Tryz.func16, Tryz.ntmps16
    go_wp2_with (first | (go_at_call 35; refine (HI.out _).mono ?_; rintro e w' ⟨rfl, rfl⟩) | (go_at_call 36; refine (HR.out _).mono ?_; rintro e w1 ⟨rfl, b1⟩; have B1 := Lib.hid (box_eight b1).2; clear b1))
    go_ret2
    exact ⟨rfl, B1.out⟩
set_option maxHeartbeats 12800000 in
theorem implClassHead_yes (ni nr ne nb nu no : Nat) (xp xl : Int) (hi : ni ≤ 999) (hr : nr ≤ 100000) (he : ne ≤ 100000) (hb : nb ≤ 1000000) (hu : nu ≤ 1000000) (ho : no ≤ 7) (hi1 : 1 ≤ ni) (hro : rateOk ⟨(ni : Int), xp, (nr : Int), (ne : Int), (nb : Int), (nu : Int), (no : Int), xl⟩ = true) (w : World) (hU : Hid (Units w)) (hP : Hid (Pow w)) :
    Calls Tryz.prog 16 #[.agg #[.int .i64 (ni : Int), .int .i64 xp, .int .i64 (nr : Int), .int .i64 (ne : Int), .int .i64 (nb : Int), .int .i64 (nu : Int), .int .i64 (no : Int), .int .i64 xl]] w (SaysStrB w (headN ni nr ne nb nu no) true) := by
  have HIN : Hid (∀ w, Calls Tryz.prog 35 #[.int .i64 (ni : Int), .int .i64 1, .int .i64 999] w fun e w' => e = .returned (.bool true) ∧ w = w') := Lib.hid (fun w => by
    have := isIn_any (ni : Int) 1 999 w
    rw [inBR_yes (by omega) (by omega)] at this
    exact this)
  have HRT : Hid (∀ w, Calls Tryz.prog 36 #[.agg #[.int .i64 (ni : Int), .int .i64 xp, .int .i64 (nr : Int), .int .i64 (ne : Int), .int .i64 (nb : Int), .int .i64 (nu : Int), .int .i64 (no : Int), .int .i64 xl]] w (SaysB w true)) := Lib.hid (fun w => by
    have := hasRates_any ⟨(ni : Int), xp, (nr : Int), (ne : Int), (nb : Int), (nu : Int), (no : Int), xl⟩ w
    rw [hro] at this
    exact this)
  have HI := Lib.hid (fun w h => itoa_any ni (by omega) w h)
  have HR := Lib.hid (fun w h h' => implNumberText_any nr (by omega) w h h')
  have HEe := Lib.hid (fun w h h' => implNumberText_any ne (by omega) w h h')
  have HB := Lib.hid (fun w h h' => implNumberText_any nb (by omega) w h h')
  have HUu := Lib.hid (fun w h h' => implNumberText_any nu (by omega) w h h')
  have HO := Lib.hid (fun w h => itoa_any no (by omega) w h)
  have HS := Lib.hid (fun s b w => sureText_any s b w)
  have hz := headN_size ni nr ne nb nu no
  have HJ : Hid (joinB [⟨#[99, 108, 97, 115, 115]⟩, numS ni, ⟨#[114, 97, 116, 101]⟩, headS nr, ⟨#[99, 101, 105, 108]⟩, headS ne, ⟨#[98, 117, 114, 115, 116]⟩, headS nb, ⟨#[99, 98, 117, 114, 115, 116]⟩, headS nu, ⟨#[112, 114, 105, 111]⟩, numS no] = headN ni nr ne nb nu no) := Lib.hid (by
    apply bytes_exP
    simp [joinB, Lib.join, List.intercalate, List.intersperse, headN, ByteArray.data_append])
  generalize headN ni nr ne nb nu no = R at HJ hz ⊢
  generalize numS ni = si at HI HJ
  generalize headS nr = sr at HR HJ
  generalize headS ne = se at HEe HJ
  generalize headS nb = sb at HB HJ
  generalize headS nu = su at HUu HJ
  generalize numS no = so at HO HJ
  have hR : R.size ≤ 140737488355328 := by omega
  have HQ : Hid (∀ w', BX (w.alloc (Obj.cells #[.int .i64 (ni : Int), .int .i64 xp, .int .i64 (nr : Int), .int .i64 (ne : Int), .int .i64 (nb : Int), .int .i64 (nu : Int), .int .i64 (no : Int), .int .i64 xl] 41)) w' → w'.cell? ⟨w.heap.size, 0, none⟩ = some (.int .i64 (ni : Int)) ∧ w'.cell? ⟨w.heap.size, 1, none⟩ = some (.int .i64 xp) ∧ w'.cell? ⟨w.heap.size, 2, none⟩ = some (.int .i64 (nr : Int)) ∧ w'.cell? ⟨w.heap.size, 3, none⟩ = some (.int .i64 (ne : Int)) ∧ w'.cell? ⟨w.heap.size, 4, none⟩ = some (.int .i64 (nb : Int)) ∧ w'.cell? ⟨w.heap.size, 5, none⟩ = some (.int .i64 (nu : Int)) ∧ w'.cell? ⟨w.heap.size, 6, none⟩ = some (.int .i64 (no : Int)) ∧ w'.cell? ⟨w.heap.size, 7, none⟩ = some (.int .i64 xl) ∧ BX (w.alloc (Obj.cells #[.int .i64 (ni : Int), .int .i64 xp, .int .i64 (nr : Int), .int .i64 (ne : Int), .int .i64 (nb : Int), .int .i64 (nu : Int), .int .i64 (no : Int), .int .i64 xl] 41)) w') := Lib.hid (fun w' h => by
    obtain ⟨a0, a1, a2, a3, a4, a5, a6, a7⟩ := (box_eights2 h).1
    exact ⟨a0, a1, a2, a3, a4, a5, a6, a7, h⟩)
  have HE : Hid (∀ w', BX (w.alloc (Obj.cells #[.int .i64 (ni : Int), .int .i64 xp, .int .i64 (nr : Int), .int .i64 (ne : Int), .int .i64 (nb : Int), .int .i64 (nu : Int), .int .i64 (no : Int), .int .i64 xl] 41)) w' → Below w.heap.size w w') := Lib.hid (fun w' h => (box_eights2 h).2)
  have HUB : Hid (∀ w', BX (w.alloc (Obj.cells #[.int .i64 (ni : Int), .int .i64 xp, .int .i64 (nr : Int), .int .i64 (ne : Int), .int .i64 (nb : Int), .int .i64 (nu : Int), .int .i64 (no : Int), .int .i64 xl] 41)) w' → Hid (Units w')) := Lib.hid (fun w' h => Lib.hid (hU.out.below (HE.out w' h)))
  have HPB : Hid (∀ w', BX (w.alloc (Obj.cells #[.int .i64 (ni : Int), .int .i64 xp, .int .i64 (nr : Int), .int .i64 (ne : Int), .int .i64 (nb : Int), .int .i64 (nu : Int), .int .i64 (no : Int), .int .i64 xl] 41)) w' → Hid (Pow w')) := Lib.hid (fun w' h => Lib.hid (hP.out.below (HE.out w' h)))
  have X0 := Lib.hid (BX.refl (w.alloc (Obj.cells #[.int .i64 (ni : Int), .int .i64 xp, .int .i64 (nr : Int), .int .i64 (ne : Int), .int .i64 (nb : Int), .int .i64 (nu : Int), .int .i64 (no : Int), .int .i64 xl] 41)))
  clear hz hi hr he hb hu ho hi1 hro
  go_enter Tryz.func16, Tryz.ntmps16
  go_wp2_with (first | (go_at_call 35; refine (HIN.out _).mono ?_; rintro e w' ⟨rfl, rfl⟩) | (go_at_call 36; refine (HRT.out _).mono ?_; rintro e w1 ⟨rfl, b⟩; have X1 := Lib.hid (X0.out.call b); obtain ⟨c0, c1, c2, c3, c4, c5, c6, c7, _⟩ := HQ.out _ X1.out; clear b))
  refine wp_region_held_drew (S := fun w' => w'.cell? ⟨w.heap.size, 0, none⟩ = some (.int .i64 (ni : Int)) ∧ w'.cell? ⟨w.heap.size, 1, none⟩ = some (.int .i64 xp) ∧ w'.cell? ⟨w.heap.size, 2, none⟩ = some (.int .i64 (nr : Int)) ∧ w'.cell? ⟨w.heap.size, 3, none⟩ = some (.int .i64 (ne : Int)) ∧ w'.cell? ⟨w.heap.size, 4, none⟩ = some (.int .i64 (nb : Int)) ∧ w'.cell? ⟨w.heap.size, 5, none⟩ = some (.int .i64 (nu : Int)) ∧ w'.cell? ⟨w.heap.size, 6, none⟩ = some (.int .i64 (no : Int)) ∧ w'.cell? ⟨w.heap.size, 7, none⟩ = some (.int .i64 xl) ∧ BX (w.alloc (Obj.cells #[.int .i64 (ni : Int), .int .i64 xp, .int .i64 (nr : Int), .int .i64 (ne : Int), .int .i64 (nb : Int), .int .i64 (nu : Int), .int .i64 (no : Int), .int .i64 xl] 41)) w') (by kernel_rfl) ?_ (fun hHeld => ?_)
  · (try dsimp only)
    exact HQ.out _ X1.out.drew
  refine held_take (i := 0) (d := 13) (v := ?_) rfl rfl (by kernel_rfl) (by kernel_rfl) (by kernel_rfl) (fun _ _ _ h => h) (by rfl) ?_ (by assumption) ?_
  rotate_left
  · intro w hSw
    (try dsimp only at hSw)
    go_simp
    try with_reducible rfl
  try simp only [Act.put, List.setIfInBounds_toArray, List.set_cons_zero, List.set_cons_succ]
  refine held_take (i := 1) (d := 14) (v := ?_) rfl rfl (by kernel_rfl) (by kernel_rfl) (by kernel_rfl) (fun _ _ _ h => h) (by rfl) ?_ (by assumption) ?_
  rotate_left
  · intro w hSw
    (try dsimp only at hSw)
    go_simp
    try with_reducible rfl
  try simp only [Act.put, List.setIfInBounds_toArray, List.set_cons_zero, List.set_cons_succ]
  refine held_take (i := 3) (d := 16) (v := ?_) rfl rfl (by kernel_rfl) (by kernel_rfl) (by kernel_rfl) (fun _ _ _ h => h) (by rfl) ?_ (by assumption) ?_
  rotate_left
  · intro w hSw
    (try dsimp only at hSw)
    go_simp
    try with_reducible rfl
  try simp only [Act.put, List.setIfInBounds_toArray, List.set_cons_zero, List.set_cons_succ]
  refine held_take (i := 4) (d := 17) (v := ?_) rfl rfl (by kernel_rfl) (by kernel_rfl) (by kernel_rfl) (fun _ _ _ h => h) (by rfl) ?_ (by assumption) ?_
  rotate_left
  · intro w hSw
    (try dsimp only at hSw)
    go_simp
    try with_reducible rfl
  try simp only [Act.put, List.setIfInBounds_toArray, List.set_cons_zero, List.set_cons_succ]
  refine held_take (i := 9) (d := 22) (v := ?_) rfl rfl (by kernel_rfl) (by kernel_rfl) (by kernel_rfl) (fun _ _ _ h => h) (by rfl) ?_ (by assumption) ?_
  rotate_left
  · intro w hSw
    (try dsimp only at hSw)
    go_simp
    try with_reducible rfl
  try simp only [Act.put, List.setIfInBounds_toArray, List.set_cons_zero, List.set_cons_succ]
  refine held_take (i := 10) (d := 23) (v := ?_) rfl rfl (by kernel_rfl) (by kernel_rfl) (by kernel_rfl) (fun _ _ _ h => h) (by rfl) ?_ (by assumption) ?_
  rotate_left
  · intro w hSw
    (try dsimp only at hSw)
    go_simp
    try with_reducible rfl
  try simp only [Act.put, List.setIfInBounds_toArray, List.set_cons_zero, List.set_cons_succ]
  refine held_take (i := 15) (d := 28) (v := ?_) rfl rfl (by kernel_rfl) (by kernel_rfl) (by kernel_rfl) (fun _ _ _ h => h) (by rfl) ?_ (by assumption) ?_
  rotate_left
  · intro w hSw
    (try dsimp only at hSw)
    go_simp
    try with_reducible rfl
  try simp only [Act.put, List.setIfInBounds_toArray, List.set_cons_zero, List.set_cons_succ]
  refine held_take (i := 16) (d := 29) (v := ?_) rfl rfl (by kernel_rfl) (by kernel_rfl) (by kernel_rfl) (fun _ _ _ h => h) (by rfl) ?_ (by assumption) ?_
  rotate_left
  · intro w hSw
    (try dsimp only at hSw)
    go_simp
    try with_reducible rfl
  try simp only [Act.put, List.setIfInBounds_toArray, List.set_cons_zero, List.set_cons_succ]
  refine held_take (i := 21) (d := 34) (v := ?_) rfl rfl (by kernel_rfl) (by kernel_rfl) (by kernel_rfl) (fun _ _ _ h => h) (by rfl) ?_ (by assumption) ?_
  rotate_left
  · intro w hSw
    (try dsimp only at hSw)
    go_simp
    try with_reducible rfl
  try simp only [Act.put, List.setIfInBounds_toArray, List.set_cons_zero, List.set_cons_succ]
  refine held_take (i := 22) (d := 35) (v := ?_) rfl rfl (by kernel_rfl) (by kernel_rfl) (by kernel_rfl) (fun _ _ _ h => h) (by rfl) ?_ (by assumption) ?_
  rotate_left
  · intro w hSw
    (try dsimp only at hSw)
    go_simp
    try with_reducible rfl
  try simp only [Act.put, List.setIfInBounds_toArray, List.set_cons_zero, List.set_cons_succ]
  refine held_take (i := 27) (d := 40) (v := ?_) rfl rfl (by kernel_rfl) (by kernel_rfl) (by kernel_rfl) (fun _ _ _ h => h) (by rfl) ?_ (by assumption) ?_
  rotate_left
  · intro w hSw
    (try dsimp only at hSw)
    go_simp
    try with_reducible rfl
  try simp only [Act.put, List.setIfInBounds_toArray, List.set_cons_zero, List.set_cons_succ]
  refine held_take (i := 28) (d := 41) (v := ?_) rfl rfl (by kernel_rfl) (by kernel_rfl) (by kernel_rfl) (fun _ _ _ h => h) (by rfl) ?_ (by assumption) ?_
  rotate_left
  · intro w hSw
    (try dsimp only at hSw)
    go_simp
    try with_reducible rfl
  try simp only [Act.put, List.setIfInBounds_toArray, List.set_cons_zero, List.set_cons_succ]
  have B0 := Lib.hid X1.out.drew
  refine wpAnyH_ready (rs := [2]) (by kernel_rfl) (by simp) ?_
  refine ((AllReadyH.cons rfl (fun K' hK => ?_) AllReadyH.nil))
  go_simp
  go_at_call 38
  refine (HI.out _ (HPB.out _ B0.out)).mono ?_
  rintro e u1 ⟨rfl, b⟩
  have B1 := Lib.hid (B0.out.call b)
  clear b
  refine hK.out _ _ ?_ (fun hHeld => ?_)
  · (try dsimp only)
    exact HQ.out _ B1.out
  clear hK K'
  try simp only [Act.put, List.setIfInBounds_toArray, List.set_cons_zero, List.set_cons_succ]
  refine wpAnyH_ready (rs := [5]) (by kernel_rfl) (by simp) ?_
  refine ((AllReadyH.cons rfl (fun K' hK => ?_) AllReadyH.nil))
  go_simp
  go_at_call 40
  refine (HR.out _ (HUB.out _ B1.out) (HPB.out _ B1.out)).mono ?_
  rintro e u2 ⟨rfl, b⟩
  have B2 := Lib.hid (B1.out.call b)
  clear b
  refine hK.out _ _ ?_ (fun hHeld => ?_)
  · (try dsimp only)
    exact HQ.out _ B2.out
  clear hK K'
  try simp only [Act.put, List.setIfInBounds_toArray, List.set_cons_zero, List.set_cons_succ]
  refine held_take (i := 6) (d := 19) (v := ?_) rfl rfl (by kernel_rfl) (by kernel_rfl) (by kernel_rfl) (fun _ _ _ h => h) (by rfl) ?_ (by assumption) ?_
  rotate_left
  · intro w hSw
    (try dsimp only at hSw)
    go_simp
    try with_reducible rfl
  try simp only [Act.put, List.setIfInBounds_toArray, List.set_cons_zero, List.set_cons_succ]
  refine held_take (i := 7) (d := 20) (v := ?_) rfl rfl (by kernel_rfl) (by kernel_rfl) (by kernel_rfl) (fun _ _ _ h => h) (by rfl) ?_ (by assumption) ?_
  rotate_left
  · intro w hSw
    (try dsimp only at hSw)
    go_simp
    try with_reducible rfl
  try simp only [Act.put, List.setIfInBounds_toArray, List.set_cons_zero, List.set_cons_succ]
  refine wpAnyH_ready (rs := [8]) (by kernel_rfl) (by simp) ?_
  refine ((AllReadyH.cons rfl (fun K' hK => ?_) AllReadyH.nil))
  go_simp
  go_at_call 39
  refine (HS.out _ _ _).mono ?_
  rintro e u3 ⟨rfl, rfl⟩
  have B3 := B2
  refine hK.out _ _ ?_ (fun hHeld => ?_)
  · (try dsimp only)
    exact HQ.out _ B3.out
  clear hK K'
  try simp only [Act.put, List.setIfInBounds_toArray, List.set_cons_zero, List.set_cons_succ]
  refine wpAnyH_ready (rs := [11]) (by kernel_rfl) (by simp) ?_
  refine ((AllReadyH.cons rfl (fun K' hK => ?_) AllReadyH.nil))
  go_simp
  go_at_call 40
  refine (HEe.out _ (HUB.out _ B3.out) (HPB.out _ B3.out)).mono ?_
  rintro e u4 ⟨rfl, b⟩
  have B4 := Lib.hid (B3.out.call b)
  clear b
  refine hK.out _ _ ?_ (fun hHeld => ?_)
  · (try dsimp only)
    exact HQ.out _ B4.out
  clear hK K'
  try simp only [Act.put, List.setIfInBounds_toArray, List.set_cons_zero, List.set_cons_succ]
  refine held_take (i := 12) (d := 25) (v := ?_) rfl rfl (by kernel_rfl) (by kernel_rfl) (by kernel_rfl) (fun _ _ _ h => h) (by rfl) ?_ (by assumption) ?_
  rotate_left
  · intro w hSw
    (try dsimp only at hSw)
    go_simp
    try with_reducible rfl
  try simp only [Act.put, List.setIfInBounds_toArray, List.set_cons_zero, List.set_cons_succ]
  refine held_take (i := 13) (d := 26) (v := ?_) rfl rfl (by kernel_rfl) (by kernel_rfl) (by kernel_rfl) (fun _ _ _ h => h) (by rfl) ?_ (by assumption) ?_
  rotate_left
  · intro w hSw
    (try dsimp only at hSw)
    go_simp
    try with_reducible rfl
  try simp only [Act.put, List.setIfInBounds_toArray, List.set_cons_zero, List.set_cons_succ]
  refine wpAnyH_ready (rs := [14]) (by kernel_rfl) (by simp) ?_
  refine ((AllReadyH.cons rfl (fun K' hK => ?_) AllReadyH.nil))
  go_simp
  go_at_call 39
  refine (HS.out _ _ _).mono ?_
  rintro e u5 ⟨rfl, rfl⟩
  have B5 := B4
  refine hK.out _ _ ?_ (fun hHeld => ?_)
  · (try dsimp only)
    exact HQ.out _ B5.out
  clear hK K'
  try simp only [Act.put, List.setIfInBounds_toArray, List.set_cons_zero, List.set_cons_succ]
  refine wpAnyH_ready (rs := [17]) (by kernel_rfl) (by simp) ?_
  refine ((AllReadyH.cons rfl (fun K' hK => ?_) AllReadyH.nil))
  go_simp
  go_at_call 40
  refine (HB.out _ (HUB.out _ B5.out) (HPB.out _ B5.out)).mono ?_
  rintro e u6 ⟨rfl, b⟩
  have B6 := Lib.hid (B5.out.call b)
  clear b
  refine hK.out _ _ ?_ (fun hHeld => ?_)
  · (try dsimp only)
    exact HQ.out _ B6.out
  clear hK K'
  try simp only [Act.put, List.setIfInBounds_toArray, List.set_cons_zero, List.set_cons_succ]
  refine held_take (i := 18) (d := 31) (v := ?_) rfl rfl (by kernel_rfl) (by kernel_rfl) (by kernel_rfl) (fun _ _ _ h => h) (by rfl) ?_ (by assumption) ?_
  rotate_left
  · intro w hSw
    (try dsimp only at hSw)
    go_simp
    try with_reducible rfl
  try simp only [Act.put, List.setIfInBounds_toArray, List.set_cons_zero, List.set_cons_succ]
  refine held_take (i := 19) (d := 32) (v := ?_) rfl rfl (by kernel_rfl) (by kernel_rfl) (by kernel_rfl) (fun _ _ _ h => h) (by rfl) ?_ (by assumption) ?_
  rotate_left
  · intro w hSw
    (try dsimp only at hSw)
    go_simp
    try with_reducible rfl
  try simp only [Act.put, List.setIfInBounds_toArray, List.set_cons_zero, List.set_cons_succ]
  refine wpAnyH_ready (rs := [20]) (by kernel_rfl) (by simp) ?_
  refine ((AllReadyH.cons rfl (fun K' hK => ?_) AllReadyH.nil))
  go_simp
  go_at_call 39
  refine (HS.out _ _ _).mono ?_
  rintro e u7 ⟨rfl, rfl⟩
  have B7 := B6
  refine hK.out _ _ ?_ (fun hHeld => ?_)
  · (try dsimp only)
    exact HQ.out _ B7.out
  clear hK K'
  try simp only [Act.put, List.setIfInBounds_toArray, List.set_cons_zero, List.set_cons_succ]
  refine wpAnyH_ready (rs := [23]) (by kernel_rfl) (by simp) ?_
  refine ((AllReadyH.cons rfl (fun K' hK => ?_) AllReadyH.nil))
  go_simp
  go_at_call 40
  refine (HUu.out _ (HUB.out _ B7.out) (HPB.out _ B7.out)).mono ?_
  rintro e u8 ⟨rfl, b⟩
  have B8 := Lib.hid (B7.out.call b)
  clear b
  refine hK.out _ _ ?_ (fun hHeld => ?_)
  · (try dsimp only)
    exact HQ.out _ B8.out
  clear hK K'
  try simp only [Act.put, List.setIfInBounds_toArray, List.set_cons_zero, List.set_cons_succ]
  refine held_take (i := 24) (d := 37) (v := ?_) rfl rfl (by kernel_rfl) (by kernel_rfl) (by kernel_rfl) (fun _ _ _ h => h) (by rfl) ?_ (by assumption) ?_
  rotate_left
  · intro w hSw
    (try dsimp only at hSw)
    go_simp
    try with_reducible rfl
  try simp only [Act.put, List.setIfInBounds_toArray, List.set_cons_zero, List.set_cons_succ]
  refine held_take (i := 25) (d := 38) (v := ?_) rfl rfl (by kernel_rfl) (by kernel_rfl) (by kernel_rfl) (fun _ _ _ h => h) (by rfl) ?_ (by assumption) ?_
  rotate_left
  · intro w hSw
    (try dsimp only at hSw)
    go_simp
    try with_reducible rfl
  try simp only [Act.put, List.setIfInBounds_toArray, List.set_cons_zero, List.set_cons_succ]
  refine wpAnyH_ready (rs := [26]) (by kernel_rfl) (by simp) ?_
  refine ((AllReadyH.cons rfl (fun K' hK => ?_) AllReadyH.nil))
  go_simp
  go_at_call 39
  refine (HS.out _ _ _).mono ?_
  rintro e u9 ⟨rfl, rfl⟩
  have B9 := B8
  refine hK.out _ _ ?_ (fun hHeld => ?_)
  · (try dsimp only)
    exact HQ.out _ B9.out
  clear hK K'
  try simp only [Act.put, List.setIfInBounds_toArray, List.set_cons_zero, List.set_cons_succ]
  refine wpAnyH_ready (rs := [29]) (by kernel_rfl) (by simp) ?_
  refine ((AllReadyH.cons rfl (fun K' hK => ?_) AllReadyH.nil))
  go_simp
  go_at_call 38
  refine (HO.out _ (HPB.out _ B9.out)).mono ?_
  rintro e u10 ⟨rfl, b⟩
  have B10 := Lib.hid (B9.out.call b)
  clear b
  refine hK.out _ _ ?_ (fun hHeld => ?_)
  · (try dsimp only)
    exact HQ.out _ B10.out
  clear hK K'
  try simp only [Act.put, List.setIfInBounds_toArray, List.set_cons_zero, List.set_cons_succ]
  refine wpAnyH_ready (rs := [30]) (by kernel_rfl) (by simp) ?_
  refine ((AllReadyH.cons rfl (fun K' hK => ?_) AllReadyH.nil))
  go_simp
  have HW := Lib.hid (words_new u10 #[.string ⟨#[99, 108, 97, 115, 115]⟩, .string si, .string ⟨#[114, 97, 116, 101]⟩, .string sr, .string ⟨#[99, 101, 105, 108]⟩, .string se, .string ⟨#[98, 117, 114, 115, 116]⟩, .string sb, .string ⟨#[99, 98, 117, 114, 115, 116]⟩, .string su, .string ⟨#[112, 114, 105, 111]⟩, .string so] [⟨#[99, 108, 97, 115, 115]⟩, si, ⟨#[114, 97, 116, 101]⟩, sr, ⟨#[99, 101, 105, 108]⟩, se, ⟨#[98, 117, 114, 115, 116]⟩, sb, ⟨#[99, 98, 117, 114, 115, 116]⟩, su, ⟨#[112, 114, 105, 111]⟩, so] rfl 9)
  have BA := Lib.hid (B10.out.alloc (Obj.cells #[.string ⟨#[99, 108, 97, 115, 115]⟩, .string si, .string ⟨#[114, 97, 116, 101]⟩, .string sr, .string ⟨#[99, 101, 105, 108]⟩, .string se, .string ⟨#[98, 117, 114, 115, 116]⟩, .string sb, .string ⟨#[99, 98, 117, 114, 115, 116]⟩, .string su, .string ⟨#[112, 114, 105, 111]⟩, .string so] 9))
  have hlt : u10.heap.size < (u10.alloc (Obj.cells #[.string ⟨#[99, 108, 97, 115, 115]⟩, .string si, .string ⟨#[114, 97, 116, 101]⟩, .string sr, .string ⟨#[99, 101, 105, 108]⟩, .string se, .string ⟨#[98, 117, 114, 115, 116]⟩, .string sb, .string ⟨#[99, 98, 117, 114, 115, 116]⟩, .string su, .string ⟨#[112, 114, 105, 111]⟩, .string so] 9)).heap.size := by simp
  refine hK.out _ _ ?_ (fun hHeld => ?_)
  · (try dsimp only)
    exact HQ.out _ BA.out
  clear hK K'
  try simp only [Act.put, List.setIfInBounds_toArray, List.set_cons_zero, List.set_cons_succ]
  refine wpAnyH_ready (rs := [31]) (by kernel_rfl) (by simp) ?_
  refine ((AllReadyH.cons rfl (fun K' hK => ?_) AllReadyH.nil))
  go_simp
  go_at_call 37
  refine (joinWords_any [⟨#[99, 108, 97, 115, 115]⟩, si, ⟨#[114, 97, 116, 101]⟩, sr, ⟨#[99, 101, 105, 108]⟩, se, ⟨#[98, 117, 114, 115, 116]⟩, sb, ⟨#[99, 98, 117, 114, 115, 116]⟩, su, ⟨#[112, 114, 105, 111]⟩, so] _ 12 12 _ HW (Lib.hid rfl) hlt (by decide) (by decide) R HJ hR).mono ?_
  rintro e uz ⟨rfl, b⟩
  have BZ := Lib.hid (BA.out.call b)
  clear b
  refine hK.out _ _ ?_ (fun hHeld => ?_)
  · (try dsimp only)
    exact HQ.out _ BZ.out
  clear hK K'
  try simp only [Act.put, List.setIfInBounds_toArray, List.set_cons_zero, List.set_cons_succ]
  refine held_take (i := 32) (d := 2) (v := ?_) rfl rfl (by kernel_rfl) (by kernel_rfl) (by kernel_rfl) (fun _ _ _ h => h) (by rfl) ?_ (by assumption) ?_
  rotate_left
  · intro w hSw
    (try dsimp only at hSw)
    go_simp
    try with_reducible rfl
  try simp only [Act.put, List.setIfInBounds_toArray, List.set_cons_zero, List.set_cons_succ]
  refine held_take (i := 33) (d := 3) (v := ?_) rfl rfl (by kernel_rfl) (by kernel_rfl) (by kernel_rfl) (fun _ _ _ h => h) (by rfl) ?_ (by assumption) ?_
  rotate_left
  · intro w hSw
    (try dsimp only at hSw)
    go_simp
    try with_reducible rfl
  try simp only [Act.put, List.setIfInBounds_toArray, List.set_cons_zero, List.set_cons_succ]
  refine wpAnyH_done (by kernel_rfl) ?_ _
  go_wp2_with fail
  go_ret2
  exact ⟨rfl, HE.out _ BZ.out⟩
theorem implClassHead_any (x : Cls) (w : World) (hU : Hid (Units w)) (hP : Hid (Pow w)) : Calls Tryz.prog 16 #[clsV x] w (SaysStrB w (resClassHead x) (ClsSelf x)) := by
  cases hg : ClsSelf x
  · rw [rh_no hg]
    exact implClassHead_no x w hg
  · rw [rh_yes hg]
    have N := cln hg
    have h2 := hg
    unfold ClsSelf at h2
    rw [Bool.and_eq_true] at h2
    have h1 := (inBR_iff.1 h2.1).1
    have h3 := h2.2
    generalize x.i.toNat = ni at N ⊢
    generalize x.r.toNat = nr at N ⊢
    generalize x.e.toNat = ne at N ⊢
    generalize x.b.toNat = nb at N ⊢
    generalize x.u.toNat = nu at N ⊢
    generalize x.o.toNat = no at N ⊢
    have ex : x = ⟨(ni : Int), x.p, (nr : Int), (ne : Int), (nb : Int), (nu : Int), (no : Int), x.l⟩ := by
      rw [← N.ei, ← N.er, ← N.ee, ← N.eb, ← N.eu, ← N.eo]
    have := N.ei
    rw [ex] at h3
    rw [show clsV x = .agg #[.int .i64 (ni : Int), .int .i64 x.p, .int .i64 (nr : Int), .int .i64 (ne : Int), .int .i64 (nb : Int), .int .i64 (nu : Int), .int .i64 (no : Int), .int .i64 x.l] by unfold clsV; rw [N.ei, N.er, N.ee, N.eb, N.eu, N.eo]]
    exact implClassHead_yes ni nr ne nb nu no x.p x.l N.bi N.br N.be N.bb N.bu N.bo (by omega) h3 w hU hP
structure FlN (x : Flt) (no f nm nv nt : Nat) : Prop where
  eo : x.o = no
  ef : x.f = f
  em : x.m = nm
  ev : x.v = nv
  et : x.t = nt
  bo : no ≤ 99
  bf : f < 4
  bm : nm ≤ 65535
  bv : nv ≤ 65535
  bt : nt ≤ 999
def goodFl (x : Flt) : Bool := FltSelf x && inB x.t 1 999
theorem fln {x : Flt} (h : goodFl x = true) : FlN x x.o.toNat x.f.toNat x.m.toNat x.v.toNat x.t.toNat := by
  unfold goodFl FltSelf patOk at h
  simp only [Bool.and_eq_true] at h
  obtain ⟨⟨h0, h1, h2, h3, _⟩, h4⟩ := h
  have := inBR_iff.1 h0; have := inBR_iff.1 h1; have := inBR_iff.1 h2; have := inBR_iff.1 h3; have := inBR_iff.1 h4
  exact ⟨by omega, by omega, by omega, by omega, by omega, by omega, by omega, by omega, by omega, by omega⟩
def lineT (x : Flt) : ByteArray := lineN x.o.toNat x.f.toNat x.v.toNat x.m.toNat x.t.toNat
def resFilterLine (x : Flt) : ByteArray := if goodFl x then lineT x else ⟨#[]⟩
theorem rf_no {x : Flt} (h : goodFl x = false) : resFilterLine x = ⟨#[]⟩ := by unfold resFilterLine; rw [h]; rfl
theorem rf_yes {x : Flt} (h : goodFl x = true) : resFilterLine x = lineN x.o.toNat x.f.toNat x.v.toNat x.m.toNat x.t.toNat := by unfold resFilterLine; rw [h]; rfl
def FwW (w : World) : Prop := ∀ f : Nat, f < 4 → w.cell? ⟨1, f, none⟩ = some (.string (fldA.getD f ⟨#[]⟩))
theorem FwW.below {w w' : World} (h : FwW w) (hb : Below w.heap.size w w') : FwW w' := fun f hf => (hb.cell (p := ⟨1, f, none⟩) (World.block_lt_of_cell? w _ (h f hf))).trans (h f hf)
set_option maxHeartbeats 3200000 in
theorem implFilterLine_no (x : Flt) (w : World) (h : goodFl x = false) : Calls Tryz.prog 79 #[fltV x] w (SaysStrB w ⟨#[]⟩ false) := by
  have HI := Lib.hid (fun w => isIn_any x.o 1 99 w)
  have HP := Lib.hid (fun w => isPattern_any x w)
  have HT := Lib.hid (fun w => isIn_any x.t 1 999 w)
  unfold goodFl FltSelf at h
  generalize inB x.o 1 99 = b0 at HI h
  generalize patOk x = b1 at HP h
  generalize inB x.t 1 999 = b2 at HT h
  obtain ⟨xo, xf, xm, xv, xt⟩ := x
  unfold fltV at HP ⊢
  simp only at HI HP HT ⊢
  cases b0
  · clear h HP HT
    go_enter Tryz.func79, Tryz.ntmps79
    go_wp2_with (go_at_call 35; refine (HI.out _).mono ?_; rintro e w' ⟨rfl, rfl⟩)
    go_ret2
    exact ⟨rfl, one_new2 _ _⟩
  cases b1
  · clear h HT
    go_enter Tryz.func79, Tryz.ntmps79
    go_wp2_with (first | (go_at_call 35; refine (HI.out _).mono ?_; rintro e w' ⟨rfl, rfl⟩) | (go_at_call 90; refine (HP.out _).mono ?_; rintro e w1 ⟨rfl, b1⟩; have B1 := Lib.hid (box_five b1).2; clear b1))
    go_ret2
    exact ⟨rfl, B1.out⟩
  cases b2
  · clear h
    go_enter Tryz.func79, Tryz.ntmps79
    go_wp2_with (go_at_call 35; refine (HI.out _).mono ?_; rintro e w' ⟨rfl, rfl⟩; refine Hid.out ?_)
    refine Lib.hid ?_
    go_wp2_with (first | (go_at_call 90; refine (HP.out _).mono ?_; rintro e w1 ⟨rfl, b1⟩; have B1 := Lib.hid (box_five b1).2; obtain ⟨c0, c1, c2, c3, c4⟩ := (box_five b1).1; clear b1) | (go_at_call 35; refine (HT.out _).mono ?_; rintro e w' ⟨rfl, rfl⟩))
    go_ret2
    exact ⟨rfl, B1.out⟩
  · exact absurd h (by decide)
set_option maxHeartbeats 12800000 in
theorem implFilterLine_yes (no f nm nv nt : Nat) (ho : no ≤ 99) (hf : f < 4) (hm : nm ≤ 65535) (hv : nv ≤ 65535) (ht : nt ≤ 999) (ho1 : 1 ≤ no) (ht1 : 1 ≤ nt) (hp : patOk ⟨(no : Int), (f : Int), (nm : Int), (nv : Int), (nt : Int)⟩ = true) (w : World) (hW : Hid (FwW w)) (hP : Hid (Pow w)) (hD : Hid (Dig w)) :
    Calls Tryz.prog 79 #[.agg #[.int .i64 (no : Int), .int .i64 (f : Int), .int .i64 (nm : Int), .int .i64 (nv : Int), .int .i64 (nt : Int)]] w (SaysStrB w (lineN no f nv nm nt) true) := by
  have HIN : Hid (∀ w, Calls Tryz.prog 35 #[.int .i64 (no : Int), .int .i64 1, .int .i64 99] w fun e w' => e = .returned (.bool true) ∧ w = w') := Lib.hid (fun w => by
    have := isIn_any (no : Int) 1 99 w
    rw [inBR_yes (by omega) (by omega)] at this
    exact this)
  have HTN : Hid (∀ w, Calls Tryz.prog 35 #[.int .i64 (nt : Int), .int .i64 1, .int .i64 999] w fun e w' => e = .returned (.bool true) ∧ w = w') := Lib.hid (fun w => by
    have := isIn_any (nt : Int) 1 999 w
    rw [inBR_yes (by omega) (by omega)] at this
    exact this)
  have HPT : Hid (∀ w, Calls Tryz.prog 90 #[.agg #[.int .i64 (no : Int), .int .i64 (f : Int), .int .i64 (nm : Int), .int .i64 (nv : Int), .int .i64 (nt : Int)]] w (SaysB w true)) := Lib.hid (fun w => by
    have := isPattern_any ⟨(no : Int), (f : Int), (nm : Int), (nv : Int), (nt : Int)⟩ w
    rw [hp] at this
    exact this)
  have HO := Lib.hid (fun w h => itoa_any no (by omega) w h)
  have HV := Lib.hid (fun w h => implHexText_of (nv : Int) w (by omega) _ _ (Lib.hid (implHexOf_some nv w h (by omega))))
  have HM := Lib.hid (fun w h => implHexText_of (nm : Int) w (by omega) _ _ (Lib.hid (implHexOf_some nm w h (by omega))))
  have HT := Lib.hid (fun w h => itoa_any nt (by omega) w h)
  have HS := Lib.hid (fun s b w => sureText_any s b w)
  have hz := lineN_size no f nv nm nt
  have hk' : (f : Int) < 4 := by omega
  have hk0 : (0 : Int) ≤ f := by omega
  have hk1 : (f : Int) ≤ 4 := by omega
  obtain ⟨J, hJ⟩ : ∃ J, joinB [⟨#[102, 105, 108, 116, 101, 114]⟩, numS no, fldA.getD f ⟨#[]⟩, hexStr nv, ⟨#[47]⟩, hexStr nm, ⟨#[45, 62]⟩, numS nt] = J := ⟨_, rfl⟩
  have HX : Hid (lineN no f nv nm nt = J ++ ⟨#[59]⟩) := Lib.hid (by
    rw [← hJ]
    apply bytes_exP
    simp [joinB, Lib.join, List.intercalate, List.intersperse, lineN, ByteArray.data_append])
  have hz2 : (lineN no f nv nm nt).size = J.size + 1 := by rw [HX.out, ByteArray.size_append]; rfl
  have HJ := Lib.hid hJ
  generalize lineN no f nv nm nt = R at HX hz hz2 ⊢
  have HF : Hid (∀ w', FwW w' → w'.cell? ⟨1, f, none⟩ = some (.string (fldA.getD f ⟨#[]⟩))) := Lib.hid (fun w' h => h f hf)
  clear hJ
  generalize numS no = so at HO HJ
  generalize fldA.getD f ⟨#[]⟩ = sf at HF HJ
  generalize hexStr nv = sv at HV HJ
  generalize hexStr nm = sm at HM HJ
  generalize numS nt = st at HT HJ
  have hR : J.size ≤ 140737488355328 := by omega
  have l1 : (⟨#[59]⟩ : ByteArray).size = 1 := rfl
  have k1 : ¬ (9223372036854775807 < J.size + (⟨#[59]⟩ : ByteArray).size) := by omega
  have k1b : ¬ (9223372036854775807 < J.size + 1) := by omega
  have HE : Hid (∀ w', BX (w.alloc (Obj.cells #[.int .i64 (no : Int), .int .i64 (f : Int), .int .i64 (nm : Int), .int .i64 (nv : Int), .int .i64 (nt : Int)] 82)) w' → Below w.heap.size w w') := Lib.hid (fun w' h => (box_fives2 h).2)
  have HWB : Hid (∀ w', BX (w.alloc (Obj.cells #[.int .i64 (no : Int), .int .i64 (f : Int), .int .i64 (nm : Int), .int .i64 (nv : Int), .int .i64 (nt : Int)] 82)) w' → Hid (FwW w')) := Lib.hid (fun w' h => Lib.hid (hW.out.below (HE.out w' h)))
  have HQ : Hid (∀ w', BX (w.alloc (Obj.cells #[.int .i64 (no : Int), .int .i64 (f : Int), .int .i64 (nm : Int), .int .i64 (nv : Int), .int .i64 (nt : Int)] 82)) w' → w'.cell? ⟨w.heap.size, 0, none⟩ = some (.int .i64 (no : Int)) ∧ w'.cell? ⟨w.heap.size, 1, none⟩ = some (.int .i64 (f : Int)) ∧ w'.cell? ⟨w.heap.size, 2, none⟩ = some (.int .i64 (nm : Int)) ∧ w'.cell? ⟨w.heap.size, 3, none⟩ = some (.int .i64 (nv : Int)) ∧ w'.cell? ⟨w.heap.size, 4, none⟩ = some (.int .i64 (nt : Int)) ∧ w'.cell? ⟨1, f, none⟩ = some (.string sf) ∧ BX (w.alloc (Obj.cells #[.int .i64 (no : Int), .int .i64 (f : Int), .int .i64 (nm : Int), .int .i64 (nv : Int), .int .i64 (nt : Int)] 82)) w') := Lib.hid (fun w' h => by
    obtain ⟨a0, a1, a2, a3, a4⟩ := (box_fives2 h).1
    exact ⟨a0, a1, a2, a3, a4, HF.out w' (HWB.out w' h).out, h⟩)
  have HPB : Hid (∀ w', BX (w.alloc (Obj.cells #[.int .i64 (no : Int), .int .i64 (f : Int), .int .i64 (nm : Int), .int .i64 (nv : Int), .int .i64 (nt : Int)] 82)) w' → Hid (Pow w')) := Lib.hid (fun w' h => Lib.hid (hP.out.below (HE.out w' h)))
  have HDB : Hid (∀ w', BX (w.alloc (Obj.cells #[.int .i64 (no : Int), .int .i64 (f : Int), .int .i64 (nm : Int), .int .i64 (nv : Int), .int .i64 (nt : Int)] 82)) w' → Hid (Dig w')) := Lib.hid (fun w' h => Lib.hid (hD.out.below (HE.out w' h)))
  have X0 := Lib.hid (BX.refl (w.alloc (Obj.cells #[.int .i64 (no : Int), .int .i64 (f : Int), .int .i64 (nm : Int), .int .i64 (nv : Int), .int .i64 (nt : Int)] 82)))
  clear hz hz2 l1 ho hf hm hv ht ho1 ht1 hp
  go_enter Tryz.func79, Tryz.ntmps79
  go_wp2_with (go_at_call 35; refine (HIN.out _).mono ?_; rintro e w' ⟨rfl, rfl⟩; refine Hid.out ?_)
  refine Lib.hid ?_
  go_wp2_with (first | (go_at_call 90; refine (HPT.out _).mono ?_; rintro e w1 ⟨rfl, b⟩; have X1 := Lib.hid (X0.out.call b); obtain ⟨c0, c1, c2, c3, c4, cf, _⟩ := HQ.out _ X1.out; clear b) | (go_at_call 35; refine (HTN.out _).mono ?_; rintro e w' ⟨rfl, rfl⟩))
  refine wp_region_held_drew (S := fun w' => w'.cell? ⟨w.heap.size, 0, none⟩ = some (.int .i64 (no : Int)) ∧ w'.cell? ⟨w.heap.size, 1, none⟩ = some (.int .i64 (f : Int)) ∧ w'.cell? ⟨w.heap.size, 2, none⟩ = some (.int .i64 (nm : Int)) ∧ w'.cell? ⟨w.heap.size, 3, none⟩ = some (.int .i64 (nv : Int)) ∧ w'.cell? ⟨w.heap.size, 4, none⟩ = some (.int .i64 (nt : Int)) ∧ w'.cell? ⟨1, f, none⟩ = some (.string sf) ∧ BX (w.alloc (Obj.cells #[.int .i64 (no : Int), .int .i64 (f : Int), .int .i64 (nm : Int), .int .i64 (nv : Int), .int .i64 (nt : Int)] 82)) w') (by kernel_rfl) ?_ (fun hHeld => ?_)
  · (try dsimp only)
    exact HQ.out _ X1.out.drew
  refine held_take (i := 0) (d := 19) (v := ?_) rfl rfl (by kernel_rfl) (by kernel_rfl) (by kernel_rfl) (fun _ _ _ h => h) (by rfl) ?_ (by assumption) ?_
  rotate_left
  · intro w hSw
    (try dsimp only at hSw)
    go_simp
    try with_reducible rfl
  try simp only [Act.put, List.setIfInBounds_toArray, List.set_cons_zero, List.set_cons_succ]
  refine held_take (i := 1) (d := 20) (v := ?_) rfl rfl (by kernel_rfl) (by kernel_rfl) (by kernel_rfl) (fun _ _ _ h => h) (by rfl) ?_ (by assumption) ?_
  rotate_left
  · intro w hSw
    (try dsimp only at hSw)
    go_simp
    try with_reducible rfl
  try simp only [Act.put, List.setIfInBounds_toArray, List.set_cons_zero, List.set_cons_succ]
  refine held_take (i := 3) (d := 22) (v := ?_) rfl rfl (by kernel_rfl) (by kernel_rfl) (by kernel_rfl) (fun _ _ _ h => h) (by rfl) ?_ (by assumption) ?_
  rotate_left
  · intro w hSw
    (try dsimp only at hSw)
    go_simp
    try with_reducible rfl
  try simp only [Act.put, List.setIfInBounds_toArray, List.set_cons_zero, List.set_cons_succ]
  refine held_take (i := 4) (d := 23) (v := ?_) rfl rfl (by kernel_rfl) (by kernel_rfl) (by kernel_rfl) (fun _ _ _ h => h) (by rfl) ?_ (by assumption) ?_
  rotate_left
  · intro w hSw
    (try dsimp only at hSw)
    go_simp
    try with_reducible rfl
  try simp only [Act.put, List.setIfInBounds_toArray, List.set_cons_zero, List.set_cons_succ]
  refine held_take (i := 5) (d := 24) (v := ?_) rfl rfl (by kernel_rfl) (by kernel_rfl) (by kernel_rfl) (fun _ _ _ h => h) (by rfl) ?_ (by assumption) ?_
  rotate_left
  · intro w hSw
    (try dsimp only at hSw)
    go_simp
    try with_reducible rfl
  try simp only [Act.put, List.setIfInBounds_toArray, List.set_cons_zero, List.set_cons_succ]
  refine held_take (i := 6) (d := 25) (v := ?_) rfl rfl (by kernel_rfl) (by kernel_rfl) (by kernel_rfl) (fun _ _ _ h => h) (by rfl) ?_ (by assumption) ?_
  rotate_left
  · intro w hSw
    (try dsimp only at hSw)
    go_simp
    try with_reducible rfl
  try simp only [Act.put, List.setIfInBounds_toArray, List.set_cons_zero, List.set_cons_succ]
  refine held_take (i := 7) (d := 26) (v := ?_) rfl rfl (by kernel_rfl) (by kernel_rfl) (by kernel_rfl) (fun _ _ _ h => h) (by rfl) ?_ (by assumption) ?_
  rotate_left
  · intro w hSw
    (try dsimp only at hSw)
    go_simp
    try with_reducible rfl
  try simp only [Act.put, List.setIfInBounds_toArray, List.set_cons_zero, List.set_cons_succ]
  refine held_take (i := 8) (d := 27) (v := ?_) rfl rfl (by kernel_rfl) (by kernel_rfl) (by kernel_rfl) (fun _ _ _ h => h) (by rfl) ?_ (by assumption) ?_
  rotate_left
  · intro w hSw
    (try dsimp only at hSw)
    go_simp
    try with_reducible rfl
  try simp only [Act.put, List.setIfInBounds_toArray, List.set_cons_zero, List.set_cons_succ]
  refine held_take (i := 13) (d := 32) (v := ?_) rfl rfl (by kernel_rfl) (by kernel_rfl) (by kernel_rfl) (fun _ _ _ h => h) (by rfl) ?_ (by assumption) ?_
  rotate_left
  · intro w hSw
    (try dsimp only at hSw)
    go_simp
    try with_reducible rfl
  try simp only [Act.put, List.setIfInBounds_toArray, List.set_cons_zero, List.set_cons_succ]
  refine held_take (i := 14) (d := 33) (v := ?_) rfl rfl (by kernel_rfl) (by kernel_rfl) (by kernel_rfl) (fun _ _ _ h => h) (by rfl) ?_ (by assumption) ?_
  rotate_left
  · intro w hSw
    (try dsimp only at hSw)
    go_simp
    try with_reducible rfl
  try simp only [Act.put, List.setIfInBounds_toArray, List.set_cons_zero, List.set_cons_succ]
  refine held_take (i := 19) (d := 38) (v := ?_) rfl rfl (by kernel_rfl) (by kernel_rfl) (by kernel_rfl) (fun _ _ _ h => h) (by rfl) ?_ (by assumption) ?_
  rotate_left
  · intro w hSw
    (try dsimp only at hSw)
    go_simp
    try with_reducible rfl
  try simp only [Act.put, List.setIfInBounds_toArray, List.set_cons_zero, List.set_cons_succ]
  refine held_take (i := 20) (d := 39) (v := ?_) rfl rfl (by kernel_rfl) (by kernel_rfl) (by kernel_rfl) (fun _ _ _ h => h) (by rfl) ?_ (by assumption) ?_
  rotate_left
  · intro w hSw
    (try dsimp only at hSw)
    go_simp
    try with_reducible rfl
  try simp only [Act.put, List.setIfInBounds_toArray, List.set_cons_zero, List.set_cons_succ]
  have B0 := Lib.hid X1.out.drew
  refine wpAnyH_ready (rs := [2]) (by kernel_rfl) (by simp) ?_
  refine ((AllReadyH.cons rfl (fun K' hK => ?_) AllReadyH.nil))
  go_simp
  go_at_call 38
  refine (HO.out _ (HPB.out _ B0.out)).mono ?_
  rintro e u1 ⟨rfl, b⟩
  have B1 := Lib.hid (B0.out.call b)
  clear b
  refine hK.out _ _ ?_ (fun hHeld => ?_)
  · (try dsimp only)
    exact HQ.out _ B1.out
  clear hK K'
  try simp only [Act.put, List.setIfInBounds_toArray, List.set_cons_zero, List.set_cons_succ]
  refine wpAnyH_ready (rs := [9]) (by kernel_rfl) (by simp) ?_
  refine ((AllReadyH.cons rfl (fun K' hK => ?_) AllReadyH.nil))
  go_simp
  go_at_call 107
  refine (HV.out _ (HDB.out _ B1.out)).mono ?_
  rintro e u2 ⟨rfl, b⟩
  have B2 := Lib.hid (B1.out.call b)
  clear b
  refine hK.out _ _ ?_ (fun hHeld => ?_)
  · (try dsimp only)
    exact HQ.out _ B2.out
  clear hK K'
  try simp only [Act.put, List.setIfInBounds_toArray, List.set_cons_zero, List.set_cons_succ]
  refine held_take (i := 10) (d := 29) (v := ?_) rfl rfl (by kernel_rfl) (by kernel_rfl) (by kernel_rfl) (fun _ _ _ h => h) (by rfl) ?_ (by assumption) ?_
  rotate_left
  · intro w hSw
    (try dsimp only at hSw)
    go_simp
    try with_reducible rfl
  try simp only [Act.put, List.setIfInBounds_toArray, List.set_cons_zero, List.set_cons_succ]
  refine held_take (i := 11) (d := 30) (v := ?_) rfl rfl (by kernel_rfl) (by kernel_rfl) (by kernel_rfl) (fun _ _ _ h => h) (by rfl) ?_ (by assumption) ?_
  rotate_left
  · intro w hSw
    (try dsimp only at hSw)
    go_simp
    try with_reducible rfl
  try simp only [Act.put, List.setIfInBounds_toArray, List.set_cons_zero, List.set_cons_succ]
  refine wpAnyH_ready (rs := [12]) (by kernel_rfl) (by simp) ?_
  refine ((AllReadyH.cons rfl (fun K' hK => ?_) AllReadyH.nil))
  go_simp
  go_at_call 39
  refine (HS.out _ _ _).mono ?_
  rintro e u3 ⟨rfl, rfl⟩
  have B3 := B2
  refine hK.out _ _ ?_ (fun hHeld => ?_)
  · (try dsimp only)
    exact HQ.out _ B3.out
  clear hK K'
  try simp only [Act.put, List.setIfInBounds_toArray, List.set_cons_zero, List.set_cons_succ]
  refine wpAnyH_ready (rs := [15]) (by kernel_rfl) (by simp) ?_
  refine ((AllReadyH.cons rfl (fun K' hK => ?_) AllReadyH.nil))
  go_simp
  go_at_call 107
  refine (HM.out _ (HDB.out _ B3.out)).mono ?_
  rintro e u4 ⟨rfl, b⟩
  have B4 := Lib.hid (B3.out.call b)
  clear b
  refine hK.out _ _ ?_ (fun hHeld => ?_)
  · (try dsimp only)
    exact HQ.out _ B4.out
  clear hK K'
  try simp only [Act.put, List.setIfInBounds_toArray, List.set_cons_zero, List.set_cons_succ]
  refine held_take (i := 16) (d := 35) (v := ?_) rfl rfl (by kernel_rfl) (by kernel_rfl) (by kernel_rfl) (fun _ _ _ h => h) (by rfl) ?_ (by assumption) ?_
  rotate_left
  · intro w hSw
    (try dsimp only at hSw)
    go_simp
    try with_reducible rfl
  try simp only [Act.put, List.setIfInBounds_toArray, List.set_cons_zero, List.set_cons_succ]
  refine held_take (i := 17) (d := 36) (v := ?_) rfl rfl (by kernel_rfl) (by kernel_rfl) (by kernel_rfl) (fun _ _ _ h => h) (by rfl) ?_ (by assumption) ?_
  rotate_left
  · intro w hSw
    (try dsimp only at hSw)
    go_simp
    try with_reducible rfl
  try simp only [Act.put, List.setIfInBounds_toArray, List.set_cons_zero, List.set_cons_succ]
  refine wpAnyH_ready (rs := [18]) (by kernel_rfl) (by simp) ?_
  refine ((AllReadyH.cons rfl (fun K' hK => ?_) AllReadyH.nil))
  go_simp
  go_at_call 39
  refine (HS.out _ _ _).mono ?_
  rintro e u5 ⟨rfl, rfl⟩
  have B5 := B4
  refine hK.out _ _ ?_ (fun hHeld => ?_)
  · (try dsimp only)
    exact HQ.out _ B5.out
  clear hK K'
  try simp only [Act.put, List.setIfInBounds_toArray, List.set_cons_zero, List.set_cons_succ]
  refine wpAnyH_ready (rs := [21]) (by kernel_rfl) (by simp) ?_
  refine ((AllReadyH.cons rfl (fun K' hK => ?_) AllReadyH.nil))
  go_simp
  go_at_call 38
  refine (HT.out _ (HPB.out _ B5.out)).mono ?_
  rintro e u6 ⟨rfl, b⟩
  have B6 := Lib.hid (B5.out.call b)
  clear b
  refine hK.out _ _ ?_ (fun hHeld => ?_)
  · (try dsimp only)
    exact HQ.out _ B6.out
  clear hK K'
  try simp only [Act.put, List.setIfInBounds_toArray, List.set_cons_zero, List.set_cons_succ]
  refine wpAnyH_ready (rs := [22]) (by kernel_rfl) (by simp) ?_
  refine ((AllReadyH.cons rfl (fun K' hK => ?_) AllReadyH.nil))
  go_simp
  have HW := Lib.hid (words_new u6 #[.string ⟨#[102, 105, 108, 116, 101, 114]⟩, .string so, .string sf, .string sv, .string ⟨#[47]⟩, .string sm, .string ⟨#[45, 62]⟩, .string st] [⟨#[102, 105, 108, 116, 101, 114]⟩, so, sf, sv, ⟨#[47]⟩, sm, ⟨#[45, 62]⟩, st] rfl 9)
  have BA := Lib.hid (B6.out.alloc (Obj.cells #[.string ⟨#[102, 105, 108, 116, 101, 114]⟩, .string so, .string sf, .string sv, .string ⟨#[47]⟩, .string sm, .string ⟨#[45, 62]⟩, .string st] 9))
  have hlt : u6.heap.size < (u6.alloc (Obj.cells #[.string ⟨#[102, 105, 108, 116, 101, 114]⟩, .string so, .string sf, .string sv, .string ⟨#[47]⟩, .string sm, .string ⟨#[45, 62]⟩, .string st] 9)).heap.size := by simp
  refine hK.out _ _ ?_ (fun hHeld => ?_)
  · (try dsimp only)
    exact HQ.out _ BA.out
  clear hK K'
  try simp only [Act.put, List.setIfInBounds_toArray, List.set_cons_zero, List.set_cons_succ]
  refine wpAnyH_ready (rs := [23]) (by kernel_rfl) (by simp) ?_
  refine ((AllReadyH.cons rfl (fun K' hK => ?_) AllReadyH.nil))
  go_simp
  go_at_call 37
  refine (joinWords_any [⟨#[102, 105, 108, 116, 101, 114]⟩, so, sf, sv, ⟨#[47]⟩, sm, ⟨#[45, 62]⟩, st] _ 8 8 _ HW (Lib.hid rfl) hlt (by decide) (by decide) J HJ hR).mono ?_
  rintro e uz ⟨rfl, b⟩
  have BZ := Lib.hid (BA.out.call b)
  clear b
  refine hK.out _ _ ?_ (fun hHeld => ?_)
  · (try dsimp only)
    exact HQ.out _ BZ.out
  clear hK K'
  try simp only [Act.put, List.setIfInBounds_toArray, List.set_cons_zero, List.set_cons_succ]
  refine held_take (i := 24) (d := 43) (v := ?_) rfl rfl (by kernel_rfl) (by kernel_rfl) (by kernel_rfl) (fun _ _ _ h => h) (by rfl) ?_ (by assumption) ?_
  rotate_left
  · intro w hSw
    (try dsimp only at hSw)
    go_simp
    try with_reducible rfl
  try simp only [Act.put, List.setIfInBounds_toArray, List.set_cons_zero, List.set_cons_succ]
  refine held_take (i := 25) (d := 2) (v := ?_) rfl rfl (by kernel_rfl) (by kernel_rfl) (by kernel_rfl) (fun _ _ _ h => h) (by rfl) ?_ (by assumption) ?_
  rotate_left
  · intro w hSw
    (try dsimp only at hSw)
    go_simp
    try with_reducible rfl
  try simp only [Act.put, List.setIfInBounds_toArray, List.set_cons_zero, List.set_cons_succ]
  refine held_take (i := 26) (d := 3) (v := ?_) rfl rfl (by kernel_rfl) (by kernel_rfl) (by kernel_rfl) (fun _ _ _ h => h) (by rfl) ?_ (by assumption) ?_
  rotate_left
  · intro w hSw
    (try dsimp only at hSw)
    go_simp
    try with_reducible rfl
  try simp only [Act.put, List.setIfInBounds_toArray, List.set_cons_zero, List.set_cons_succ]
  refine wpAnyH_done (by kernel_rfl) ?_ _
  go_wp2_with fail
  go_ret2
  exact ⟨ret_sb HX.out.symm, HE.out _ BZ.out⟩
theorem implFilterLine_any (x : Flt) (w : World) (hW : Hid (FwW w)) (hP : Hid (Pow w)) (hD : Hid (Dig w)) : Calls Tryz.prog 79 #[fltV x] w (SaysStrB w (resFilterLine x) (goodFl x)) := by
  cases hg : goodFl x
  · rw [rf_no hg]
    exact implFilterLine_no x w hg
  · rw [rf_yes hg]
    have N := fln hg
    unfold goodFl FltSelf at hg
    simp only [Bool.and_eq_true] at hg
    have h1 := (inBR_iff.1 hg.1.1).1
    have h2 := (inBR_iff.1 hg.2).1
    have h3 := hg.1.2
    generalize x.o.toNat = no at N ⊢
    generalize x.f.toNat = f at N ⊢
    generalize x.m.toNat = nm at N ⊢
    generalize x.v.toNat = nv at N ⊢
    generalize x.t.toNat = nt at N ⊢
    have ex : x = ⟨(no : Int), (f : Int), (nm : Int), (nv : Int), (nt : Int)⟩ := by
      rw [← N.eo, ← N.ef, ← N.em, ← N.ev, ← N.et]
    have := N.eo
    have := N.et
    rw [ex] at h3
    rw [show fltV x = .agg #[.int .i64 (no : Int), .int .i64 (f : Int), .int .i64 (nm : Int), .int .i64 (nv : Int), .int .i64 (nt : Int)] by unfold fltV; rw [N.eo, N.ef, N.em, N.ev, N.et]]
    exact implFilterLine_yes no f nm nv nt N.bo N.bf N.bm N.bv N.bt (by omega) (by omega) h3 w hW hP hD
end Go.Proofs.YthgbhnedfdnfpaaGreatDoor
