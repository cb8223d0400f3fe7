import Derived.Test.YthgbhnedfdnfpaaGreatDoorPkk
import Derived.Test.YthgbhnedfdnfpaaGreatDoorPkt
import Derived.Deep.CutRange
/- Canonical texts, the model's: indents, sizes and lines of parts. -/
namespace Go.Proofs.YthgbhnedfdnfpaaGreatDoor
set_option maxRecDepth 100000
open Go.RowKit
set_option linter.unusedVariables false
set_option linter.unusedSimpArgs false

def InRel (l : Nat) (a s : Value) : Prop := ∃ k r : Nat, k + r = l ∧ a = .int .i64 (r : Int) ∧ s = .string (indS k)
set_option maxHeartbeats 1600000 in
theorem prIndent_any (l : Nat) (hl : l ≤ 100) (w : World) : Calls Tryz.prog 31 #[.int .i64 (l : Int)] w fun e w' => e = .returned (.string (indS l)) ∧ w = w' := by
  go_enter Tryz.func31, Tryz.ntmps31
  go_wp2_with fail
  go_loop [0, 3] (fun a s => InRel l a s) (fun a s => (intOf a).toNat)
  case atStart => exact ⟨0, l, Nat.zero_add l, rfl, rfl⟩
  case round =>
    obtain ⟨k, r, hkr, rfl, rfl⟩ := hrel
    have hs := indS_size k
    have HS := Lib.hid (indS_succ k)
    obtain ⟨u, hu⟩ : ∃ u, indS k = u := ⟨_, rfl⟩
    rw [hu] at hs HS
    by_cases h0 : 0 < r
    · obtain ⟨q, rfl⟩ : ∃ q, r = q + 1 := ⟨r - 1, by omega⟩
      have d1 : decide ((0 : Int) < ((q + 1 : Nat) : Int)) = true := is_lt (by omega)
      have k1 : ¬ (9223372036854775807 < u.size + (⟨#[32, 32]⟩ : ByteArray).size) := by rw [show (⟨#[32, 32]⟩ : ByteArray).size = 2 from rfl]; omega
      have k2 : ¬ (9223372036854775807 < u.size + 2) := by omega
      have e1 : ((q + 1 : Nat) : Int) - 1 = (q : Int) := by omega
      rw [hu]
      clear hu
      go_wp2_with fail
      go_round
      case rel => exact ⟨k + 1, q, by omega, by simp, by rw [← HS.out]⟩
      case measure => simp [intOf]
    · obtain rfl : r = 0 := by omega
      obtain rfl : k = l := by omega
      rw [hu]
      have HU := Lib.hid hu
      clear hu
      go_wp2_with fail
      go_ret
      exact ⟨str_ret HU.out.symm, rfl⟩
theorem sizeP_le {cs : List Cls} (T : TreeF cs) (f i : Nat) (hf : f ≤ 9) (hi : i < cs.length) : sizeP cs f i ≤ 2000000 := by
  have h1 := size_walk cs f i
  have h2 := walk_few T f i hi
  have h3 := (rateOk_r (okL_ids cs 0 T.ok i hi).2.2).2
  have h0 := (rateOk_r (okL_ids cs 0 T.ok i hi).2.2).1
  have h4 : (f : Int) * (cs.getD i cls0).r ≤ 9 * (cs.getD i cls0).r := Int.mul_le_mul_of_nonneg_right (by omega) (by omega)
  omega
theorem sum_drop (f : Nat → Nat) (K : List Nat) (k : Nat) (h : k < K.length) : ((K.drop k).map f).sum = f (K.getD k 0) + ((K.drop (k + 1)).map f).sum := by
  rw [List.drop_eq_getElem_cons h, List.map_cons, List.sum_cons]
  simp [List.getD_eq_getElem?_getD, h]
theorem kids_at_lt (cs : List Cls) (id : Int) (k : Nat) (h : k < (kids cs id).length) : (kids cs id).getD k 0 ∈ kids cs id := by
  simp [List.getD_eq_getElem?_getD, h]
def SzRel (w : World) (o : Obj) (B : Nat) (K : List Nat) (S : Nat) (g : Nat → Nat) (a i : Value) (wr : World) : Prop :=
  ∃ (k z : Nat) , k ≤ K.length ∧ i = .int .i64 k ∧ a = .int .i64 z ∧ Aft w o wr ∧ B ≤ wr.heap.size ∧ Hid (z + ((K.drop k).map g).sum = S)
set_option maxHeartbeats 6400000 in
theorem prSize_any (s : ByteArray) (ac af : Option Addr) (n cc m cf : Nat) (d : Int) (cs : List Cls) (T : TreeF cs) : ∀ (f q : Nat) (w : World) (HI : Hid (InX w ac n (clsCs cs))) (hn : Hid (cs.length = n)) (hq : q < n) (hf : f ≤ 9) (hd : 9 ≤ f + depP cs q),
    Calls Tryz.prog 23 #[(.agg #[.string s, .slice ac n cc, .slice af m cf, .int .i64 d]), .int .i64 q] w (SaysI w (sizeP cs f q))
  | 0, q, w, HI, hn, hq, hf, hd => absurd hd (by have := (way_len T (k := q) (by have := hn.out; omega)).2; omega)
  | f + 1, q, w, HI, hn, hq, hf, hd => by
    have hql : q < cs.length := by have := hn.out; omega
    have hm : n ≤ 1048576 := by have := hn.out; have := T.n24; omega
    have HLF := Lib.hid (fun w HI => cfLeaf_any s ac af n cc m cf d cs q w HI hn hm hq)
    have HKD := Lib.hid (fun w HI => cfKids_any s ac af n cc m cf d cs q w HI hn hm hq)
    have A0 := Lib.hid (Aft.refl w (Obj.cells #[.string s, .slice ac n cc, .slice af m cf, .int .i64 d] 26))
    have hle := sizeP_le T (f + 1) q hf hql
    have HSZ : Hid (sizeP cs (f + 1) q = if hasK cs (cs.getD q cls0).i then 2 + ((kids cs (cs.getD q cls0).i).map (sizeP cs f)).sum else 1) := Lib.hid rfl
    obtain ⟨Z, hZ⟩ : ∃ Z, sizeP cs (f + 1) q = Z := ⟨_, rfl⟩
    rw [hZ] at HSZ hle ⊢
    cases hk : hasK cs (cs.getD q cls0).i
    · have HX : Hid (Z = 1) := Lib.hid (by rw [HSZ.out, hk]; rfl)
      rw [hk] at HLF
      clear hk hZ hle
      go_enter Tryz.func23, Tryz.ntmps23
      go_wp2_with (go_at_call 51; refine (HLF.out _ (Lib.hid (HI.out.below A0.out.all.2))).mono ?_; rintro e w1 ⟨rfl, b1⟩; have A1 := Lib.hid (A0.out.on b1); clear b1)
      go_ret
      exact ⟨by rw [HX.out]; rfl, A1.out.all.2⟩
    · have HX : Hid (2 + ((kids cs (cs.getD q cls0).i).map (sizeP cs f)).sum = Z) := Lib.hid (by rw [HSZ.out, hk]; rfl)
      rw [hk] at HLF
      have HKM := Lib.hid (fun k (h : k < (kids cs (cs.getD q cls0).i).length) => kids_at_lt cs (cs.getD q cls0).i k h)
      have HREC : Hid (∀ j ∈ kids cs (cs.getD q cls0).i, j < n ∧ ∀ w, Hid (InX w ac n (clsCs cs)) → Calls Tryz.prog 23 #[(.agg #[.string s, .slice ac n cc, .slice af m cf, .int .i64 d]), .int .i64 j] w (SaysI w (sizeP cs f j))) := Lib.hid (fun j hj => by
        have hj1 := (kids_mem hj).1
        have hj2 := dep_kid T hql hj
        have hjn : j < n := by have := hn.out; omega
        exact ⟨hjn, fun w HI => prSize_any s ac af n cc m cf d cs T f j w HI hn hjn (by omega) (by omega)⟩)
      have hKl := kidsF_len (cs.getD q cls0).i cs 0
      have hKn : (kids cs (cs.getD q cls0).i).length ≤ 24 := by unfold kids; have := T.n24; omega
      generalize kids cs (cs.getD q cls0).i = K at HKD HX HKM HREC hKn
      clear hk hZ hKl
      go_enter Tryz.func23, Tryz.ntmps23
      go_wp2_with (go_at_call 51; refine (HLF.out _ (Lib.hid (HI.out.below A0.out.all.2))).mono ?_; rintro e w1 ⟨rfl, b1⟩; have A1 := Lib.hid (A0.out.on b1); obtain ⟨c0, c1, c2, c3, _⟩ := A1.out.all.1; clear b1)
      go_wp2_with (go_at_call 50; refine (HKD.out _ (Lib.hid (HI.out.below A1.out.all.2))).mono ?_; rintro e w2 ⟨v, rfl, o2, b2⟩; have A2 := Lib.hid (A1.out.on b2); obtain ⟨ad, cK, rfl, iK⟩ := own_in o2; have HIK := Lib.hid iK; clear b2 o2 iK)
      go_loopw [5, 15] (fun a i wr => SzRel w (Obj.cells #[.string s, .slice ac n cc, .slice af m cf, .int .i64 d] 26) w2.heap.size K Z (sizeP cs f) a i wr ∧ Below w2.heap.size w2 wr) (fun _ i _ => K.length - (intOf i).toNat)
      case atStart => exact ⟨⟨0, 2, Nat.zero_le _, rfl, rfl, A2.out, Nat.le_refl _, by rw [List.drop_zero]; exact HX⟩, Below.refl _ _⟩
      case round =>
        obtain ⟨⟨k, z, hk, rfl, rfl, hb, hB, HP⟩, h2⟩ := hrel
        have HB := Lib.hid hb
        have H2 := Lib.hid h2
        have hIKr := HIK.out.below h2
        clear h2
        by_cases hlt : k < K.length
        · obtain ⟨gk, rfl, hkt, hkg⟩ := hIKr (by omega)
          obtain ⟨j, hj⟩ : ∃ j, K.getD k 0 = j := ⟨_, rfl⟩
          have e0 := hkt.nat k hlt j hj
          have hjm := HKM.out k hlt
          rw [hj] at hjm
          have HRJ := Lib.hid (HREC.out j hjm).2
          have hjn := (HREC.out j hjm).1
          have HE := Lib.hid (sum_drop (sizeP cs f) K k hlt)
          rw [hj] at HE
          generalize sizeP cs f j = zj at HRJ HE
          have HX2 : Hid (z + zj + ((K.drop (k + 1)).map (sizeP cs f)).sum = Z) := Lib.hid (by have := HP.out; have := HE.out; omega)
          have hzz : z + zj ≤ 2000000 := by have := HX2.out; omega
          obtain ⟨q0, q1, q2, q3, _⟩ := hb.all.1
          have HIr := Lib.hid (HI.out.below hb.all.2)
          clear hkt hj hjm hb
          go_wp2_with (go_at_call 23; refine (HRJ.out _ HIr).mono ?_; rintro e w3 ⟨rfl, b3⟩; have B3 := Lib.hid b3; clear b3)
          go_roundw
          case rel => exact ⟨⟨k + 1, z + zj, by omega, by go_num, by go_num, HB.out.on B3.out, Nat.le_trans hB B3.out.size, HX2⟩, H2.out.trans (B3.out.mono hB)⟩
          case measure => simp [intOf]; omega
        · have HX2 : Hid (z = Z) := Lib.hid (by have := HP.out; rw [List.drop_eq_nil_of_le (by omega)] at this; simpa using this)
          clear hb
          go_wp2_with fail
          go_ret
          exact ⟨ret_int (by rw [HX2.out]), HB.out.all.2⟩
end Go.Proofs.YthgbhnedfdnfpaaGreatDoor

/- Canonical texts, the model's: numbers of lines, walks, parts. -/
namespace Go.Proofs.YthgbhnedfdnfpaaGreatDoor
set_option maxRecDepth 100000
open Go.RowKit
set_option linter.unusedVariables false
set_option linter.unusedSimpArgs false

theorem sum_le (g : Nat → Nat) (M : Nat) : ∀ l : List Nat, (∀ x ∈ l, g x ≤ M) → (l.map g).sum ≤ l.length * M
  | [], _ => by simp
  | a :: r, h => by
    have h1 := h a (by simp)
    have h2 := sum_le g M r (fun x hx => h x (by simp [hx]))
    rw [List.map_cons, List.sum_cons, List.length_cons, Nat.add_mul]
    omega
theorem take_mem (p : Nat → Bool) : ∀ (l : List Nat) (x : Nat), x ∈ l.takeWhile p → x ∈ l
  | [], x, h => by simp at h
  | a :: r, x, h => by
    rw [List.takeWhile_cons] at h
    split at h
    · rcases List.mem_cons.1 h with h | h
      · simp [h]
      · simp [take_mem p r x h]
    · simp at h
theorem take_len (p : Nat → Bool) : ∀ l : List Nat, (l.takeWhile p).length ≤ l.length
  | [] => by simp
  | a :: r => by
    rw [List.takeWhile_cons]
    split
    · have := take_len p r; simp; omega
    · simp
theorem kids_len24 {cs : List Cls} (T : TreeF cs) (id : Int) : (kids cs id).length ≤ 24 := by
  have := kidsF_len id cs 0
  have := T.n24
  unfold kids
  omega
theorem lineP_le {cs : List Cls} (T : TreeF cs) : ∀ (f q : Nat), q < cs.length → lineP cs f q ≤ 2 + f * 50000000
  | 0, q, hq => by simp [lineP]
  | f + 1, q, hq => by
    unfold lineP
    cases hf : fnd cs (cs.getD q cls0).p with
    | none => show 2 ≤ _; omega
    | some p =>
      have hp := (fnd_get cs _ p hf).1
      have ih := lineP_le T f p hp
      have h1 := sum_le (sizeP cs 9) 2000000 ((kids cs (cs.getD p cls0).i).takeWhile (fun k => k != q)) (fun x hx => sizeP_le T 9 x (Nat.le_refl _) (kids_mem (take_mem _ _ x hx)).1)
      have h2 := take_len (fun k => k != q) (kids cs (cs.getD p cls0).i)
      have h3 := kids_len24 T (cs.getD p cls0).i
      show lineP cs f p + 1 + _ ≤ _
      omega
theorem take_drop_go (q : Nat) (g : Nat → Nat) (K : List Nat) (k : Nat) (h : k < K.length) (hn : K.getD k 0 ≠ q) : (((K.drop k).takeWhile (fun j => j != q)).map g).sum = g (K.getD k 0) + (((K.drop (k + 1)).takeWhile (fun j => j != q)).map g).sum := by
  have e : K[k] = K.getD k 0 := by simp [List.getD_eq_getElem?_getD, h]
  rw [List.drop_eq_getElem_cons h, e, List.takeWhile_cons, if_pos (by simpa using hn), List.map_cons, List.sum_cons]
theorem take_drop_end (q : Nat) (g : Nat → Nat) (K : List Nat) (k : Nat) (h : k < K.length) (hn : K.getD k 0 = q) : (((K.drop k).takeWhile (fun j => j != q)).map g).sum = 0 := by
  have e : K[k] = K.getD k 0 := by simp [List.getD_eq_getElem?_getD, h]
  rw [List.drop_eq_getElem_cons h, e, List.takeWhile_cons, if_neg (by simpa using hn)]
  rfl
set_option maxHeartbeats 12800000 in
theorem prLine_any (s : ByteArray) (ac af : Option Addr) (n cc m cf : Nat) (d : Int) (cs : List Cls) (T : TreeF cs) : ∀ (f q : Nat) (w : World) (HI : Hid (InX w ac n (clsCs cs))) (hn : Hid (cs.length = n)) (hq : q < n) (hf : f ≤ 9) (hd : depP cs q ≤ f),
    Calls Tryz.prog 22 #[(.agg #[.string s, .slice ac n cc, .slice af m cf, .int .i64 d]), .int .i64 q] w (SaysI w (lineP cs f q))
  | 0, q, w, HI, hn, hq, hf, hd => absurd hd (by have := (way_len T (k := q) (by have := hn.out; omega)).1; omega)
  | f + 1, q, w, HI, hn, hq, hf, hd => by
    have hql : q < cs.length := by have := hn.out; omega
    have hm : n ≤ 1048576 := by have := hn.out; have := T.n24; omega
    obtain ⟨x, hx⟩ : ∃ x, cs.getD q cls0 = x := ⟨_, rfl⟩
    have HFD := Lib.hid (fun w HI => cfFind_any s ac af n cc m cf d cs x.p w HI hn hm)
    obtain ⟨gb, rfl, hgt, hgl⟩ := HI.out (by omega)
    have HGT := Lib.hid hgt
    have HAB : Hid (∀ w', BX (w.alloc (Obj.cells #[.string s, .slice (some ⟨gb, 0, none⟩) n cc, .slice af m cf, .int .i64 d] 26)) w' → Aft w (Obj.cells #[.string s, .slice (some ⟨gb, 0, none⟩) n cc, .slice af m cf, .int .i64 d] 26) w') := Lib.hid (fun w' h => h)
    have HIB : Hid (∀ w', BX (w.alloc (Obj.cells #[.string s, .slice (some ⟨gb, 0, none⟩) n cc, .slice af m cf, .int .i64 d] 26)) w' → Hid (InX w' (some ⟨gb, 0, none⟩) n (clsCs cs))) := Lib.hid (fun w' h => Lib.hid (HI.out.below (HAB.out w' h).all.2))
    have hle := lineP_le T (f + 1) q hql
    have HLN : Hid (lineP cs (f + 1) q = match fnd cs x.p with | .none => 2 | .some p => lineP cs f p + 1 + (((kids cs (cs.getD p cls0).i).takeWhile (fun k => k != q)).map (sizeP cs 9)).sum) := Lib.hid (by rw [← hx]; rfl)
    obtain ⟨Z, hZ⟩ : ∃ Z, lineP cs (f + 1) q = Z := ⟨_, rfl⟩
    rw [hZ] at HLN hle ⊢
    have hd2 : ∀ p, fnd cs x.p = Option.some p → p < n ∧ depP cs p ≤ f := fun p hp => by
      rw [← hx] at hp
      have h1 := (fnd_get cs _ p hp).1
      have h2 := dep_some T hql hp
      have := hn.out
      exact ⟨by omega, by omega⟩
    have HQ : Hid (∀ w', BX (w.alloc (Obj.cells #[.string s, .slice (some ⟨gb, 0, none⟩) n cc, .slice af m cf, .int .i64 d] 26)) w' → w'.cell? ⟨w.heap.size, 0, none⟩ = some (.string s) ∧ w'.cell? ⟨w.heap.size, 1, none⟩ = some (.slice (some ⟨gb, 0, none⟩) n cc) ∧ w'.cell? ⟨w.heap.size, 2, none⟩ = some (.slice af m cf) ∧ w'.cell? ⟨w.heap.size, 3, none⟩ = some (.int .i64 d) ∧ w'.cell? ⟨gb, q * 8 + 1, none⟩ = some (.int .i64 x.p) ∧ BX (w.alloc (Obj.cells #[.string s, .slice (some ⟨gb, 0, none⟩) n cc, .slice af m cf, .int .i64 d] 26)) w') := Lib.hid (fun w' h => by
      obtain ⟨e0, e1, e2, e3, _⟩ := (HAB.out w' h).all.1
      obtain ⟨_, a1, _⟩ := (HGT.out.below (HAB.out w' h).all.2 hgl).cls q hql x hx
      exact ⟨e0, e1, e2, e3, a1, h⟩)
    cases hfn : fnd cs x.p with
    | none =>
      have HX : Hid (Z = 2) := Lib.hid (by rw [HLN.out, hfn])
      rw [fndI_none hfn] at HFD
      obtain ⟨xi, xp, xr, xe, xb, xu, xo, xl⟩ := x
      simp only at HFD HQ
      clear hfn hZ hx hle hgt hd2
      go_enter Tryz.func22, Tryz.ntmps22
      go_wp2_with fail
      refine wp_region_held_drew (S := fun w' => w'.cell? ⟨w.heap.size, 0, none⟩ = some (.string s) ∧ w'.cell? ⟨w.heap.size, 1, none⟩ = some (.slice (some ⟨gb, 0, none⟩) n cc) ∧ w'.cell? ⟨w.heap.size, 2, none⟩ = some (.slice af m cf) ∧ w'.cell? ⟨w.heap.size, 3, none⟩ = some (.int .i64 d) ∧ w'.cell? ⟨gb, q * 8 + 1, none⟩ = some (.int .i64 xp) ∧ BX (w.alloc (Obj.cells #[.string s, .slice (some ⟨gb, 0, none⟩) n cc, .slice af m cf, .int .i64 d] 26)) w') (by kernel_rfl) ?_ (fun hHeld => ?_)
      · (try dsimp only)
        (first | (go_split_ands; refine HQ.out _ ?_; repeat' (with_reducible first | exact BX.drew0 _ | exact BX.refl _ | assumption | refine BX.call' (by assumption) ?_ | refine BX.drew ?_)))
      refine held_take (i := 0) (d := 9) (v := ?_) rfl rfl (by kernel_rfl) (by kernel_rfl) (by kernel_rfl) (fun _ _ _ h => h) (by rfl) ?_ (by assumption) ?_
      rotate_left
      · intro w hSw
        (try dsimp only at hSw)
        go_simp
        try with_reducible rfl
      try simp only [Act.put, List.setIfInBounds_toArray, List.set_cons_zero, List.set_cons_succ]
      refine held_take (i := 1) (d := 10) (v := ?_) rfl rfl (by kernel_rfl) (by kernel_rfl) (by kernel_rfl) (fun _ _ _ h => h) (by rfl) ?_ (by assumption) ?_
      rotate_left
      · intro w hSw
        (try dsimp only at hSw)
        go_simp
        try with_reducible rfl
      try simp only [Act.put, List.setIfInBounds_toArray, List.set_cons_zero, List.set_cons_succ]
      refine held_take (i := 2) (d := 11) (v := ?_) rfl rfl (by kernel_rfl) (by kernel_rfl) (by kernel_rfl) (fun _ _ _ h => h) (by rfl) ?_ (by assumption) ?_
      rotate_left
      · intro w hSw
        (try dsimp only at hSw)
        go_simp
        try with_reducible rfl
      try simp only [Act.put, List.setIfInBounds_toArray, List.set_cons_zero, List.set_cons_succ]
      refine held_take (i := 3) (d := 12) (v := ?_) rfl rfl (by kernel_rfl) (by kernel_rfl) (by kernel_rfl) (fun _ _ _ h => h) (by rfl) ?_ (by assumption) ?_
      rotate_left
      · intro w hSw
        (try dsimp only at hSw)
        go_simp
        try with_reducible rfl
      try simp only [Act.put, List.setIfInBounds_toArray, List.set_cons_zero, List.set_cons_succ]
      refine held_take (i := 4) (d := 13) (v := ?_) rfl rfl (by kernel_rfl) (by kernel_rfl) (by kernel_rfl) (fun _ _ _ h => h) (by rfl) ?_ (by assumption) ?_
      rotate_left
      · intro w hSw
        (try dsimp only at hSw)
        go_simp
        try with_reducible rfl
      try simp only [Act.put, List.setIfInBounds_toArray, List.set_cons_zero, List.set_cons_succ]
      refine held_take (i := 5) (d := 14) (v := ?_) rfl rfl (by kernel_rfl) (by kernel_rfl) (by kernel_rfl) (fun _ _ _ h => h) (by rfl) ?_ (by assumption) ?_
      rotate_left
      · intro w hSw
        (try dsimp only at hSw)
        go_simp
        try with_reducible rfl
      try simp only [Act.put, List.setIfInBounds_toArray, List.set_cons_zero, List.set_cons_succ]
      refine held_take (i := 6) (d := 15) (v := ?_) rfl rfl (by kernel_rfl) (by kernel_rfl) (by kernel_rfl) (fun _ _ _ h => h) (by rfl) ?_ (by assumption) ?_
      rotate_left
      · intro w hSw
        (try dsimp only at hSw)
        go_simp
        try with_reducible rfl
      try simp only [Act.put, List.setIfInBounds_toArray, List.set_cons_zero, List.set_cons_succ]
      refine wpAnyH_ready (rs := [7]) (by kernel_rfl) (by simp) ?_
      refine AllReadyH.cons rfl (fun K' hK => ?_) AllReadyH.nil
      go_simp
      (go_split_ands; (with_reducible refine (HFD.out _ (HIB.out _ (by assumption))).mono ?_); rintro e w4 ⟨rfl, b4⟩)
      refine hK.out _ _ ?_ (fun hHeld => ?_)
      · (try dsimp only)
        (first | (go_split_ands; refine HQ.out _ ?_; repeat' (with_reducible first | exact BX.drew0 _ | exact BX.refl _ | assumption | refine BX.call' (by assumption) ?_ | refine BX.drew ?_)))
      clear hK K'
      try simp only [Act.put, List.setIfInBounds_toArray, List.set_cons_zero, List.set_cons_succ]
      refine held_take (i := 8) (d := 5) (v := ?_) rfl rfl (by kernel_rfl) (by kernel_rfl) (by kernel_rfl) (fun _ _ _ h => h) (by rfl) ?_ (by assumption) ?_
      rotate_left
      · intro w hSw
        (try dsimp only at hSw)
        go_simp
        try with_reducible rfl
      try simp only [Act.put, List.setIfInBounds_toArray, List.set_cons_zero, List.set_cons_succ]
      refine wpAnyH_done (by kernel_rfl) ?_ _
      go_split_ands
      go_wp2_with fail
      go_ret
      exact ⟨ret_int (by rw [HX.out]; rfl), (HAB.out _ (by assumption)).all.2⟩
    | some p =>
      have hp := hd2 p hfn
      have hpn := hp.1
      have HX : Hid (Z = lineP cs f p + 1 + (((kids cs (cs.getD p cls0).i).takeWhile (fun k => k != q)).map (sizeP cs 9)).sum) := Lib.hid (by rw [HLN.out, hfn])
      have HRC := Lib.hid (fun w HI => prLine_any s (some ⟨gb, 0, none⟩) af n cc m cf d cs T f p w HI hn hpn (by omega) hp.2)
      have HKD := Lib.hid (fun w HI => cfKids_any s (some ⟨gb, 0, none⟩) af n cc m cf d cs p w HI hn hm hpn)
      have HKM := Lib.hid (fun k (h : k < (kids cs (cs.getD p cls0).i).length) => kids_at_lt cs (cs.getD p cls0).i k h)
      have HSZ : Hid (∀ j ∈ kids cs (cs.getD p cls0).i, j < n ∧ ∀ w, Hid (InX w (some ⟨gb, 0, none⟩) n (clsCs cs)) → Calls Tryz.prog 23 #[.agg #[.string s, .slice (some ⟨gb, 0, none⟩) n cc, .slice af m cf, .int .i64 d], .int .i64 j] w (SaysI w (sizeP cs 9 j))) := Lib.hid (fun j hj => by
        have hj1 := (kids_mem hj).1
        have hjn : j < n := by have := hn.out; omega
        exact ⟨hjn, fun w HI => prSize_any s (some ⟨gb, 0, none⟩) af n cc m cf d cs T 9 j w HI hn hjn (Nat.le_refl _) (by omega)⟩)
      have hKn := kids_len24 T (cs.getD p cls0).i
      rw [fndI_some hfn] at HFD
      have hl2 := lineP_le T f p (by have := hn.out; omega)
      generalize lineP cs f p = lp at HX HRC hl2
      generalize kids cs (cs.getD p cls0).i = K at HKD HX HKM HSZ hKn
      have hlp : lp ≤ 500000000 := by omega
      have hzb : Z ≤ 550000000 := by omega
      have d0 : decide ((p : Int) < 0) = false := not_lt (by omega)
      obtain ⟨xi, xp, xr, xe, xb, xu, xo, xl⟩ := x
      simp only at HFD HQ
      clear hfn hZ hx hle hgt hd2 hl2 hp
      go_enter Tryz.func22, Tryz.ntmps22
      go_wp2_with fail
      refine wp_region_held_drew (S := fun w' => w'.cell? ⟨w.heap.size, 0, none⟩ = some (.string s) ∧ w'.cell? ⟨w.heap.size, 1, none⟩ = some (.slice (some ⟨gb, 0, none⟩) n cc) ∧ w'.cell? ⟨w.heap.size, 2, none⟩ = some (.slice af m cf) ∧ w'.cell? ⟨w.heap.size, 3, none⟩ = some (.int .i64 d) ∧ w'.cell? ⟨gb, q * 8 + 1, none⟩ = some (.int .i64 xp) ∧ BX (w.alloc (Obj.cells #[.string s, .slice (some ⟨gb, 0, none⟩) n cc, .slice af m cf, .int .i64 d] 26)) w') (by kernel_rfl) ?_ (fun hHeld => ?_)
      · (try dsimp only)
        (first | (go_split_ands; refine HQ.out _ ?_; repeat' (with_reducible first | exact BX.drew0 _ | exact BX.refl _ | assumption | refine BX.call' (by assumption) ?_ | refine BX.drew ?_)))
      refine held_take (i := 0) (d := 9) (v := ?_) rfl rfl (by kernel_rfl) (by kernel_rfl) (by kernel_rfl) (fun _ _ _ h => h) (by rfl) ?_ (by assumption) ?_
      rotate_left
      · intro w hSw
        (try dsimp only at hSw)
        go_simp
        try with_reducible rfl
      try simp only [Act.put, List.setIfInBounds_toArray, List.set_cons_zero, List.set_cons_succ]
      refine held_take (i := 1) (d := 10) (v := ?_) rfl rfl (by kernel_rfl) (by kernel_rfl) (by kernel_rfl) (fun _ _ _ h => h) (by rfl) ?_ (by assumption) ?_
      rotate_left
      · intro w hSw
        (try dsimp only at hSw)
        go_simp
        try with_reducible rfl
      try simp only [Act.put, List.setIfInBounds_toArray, List.set_cons_zero, List.set_cons_succ]
      refine held_take (i := 2) (d := 11) (v := ?_) rfl rfl (by kernel_rfl) (by kernel_rfl) (by kernel_rfl) (fun _ _ _ h => h) (by rfl) ?_ (by assumption) ?_
      rotate_left
      · intro w hSw
        (try dsimp only at hSw)
        go_simp
        try with_reducible rfl
      try simp only [Act.put, List.setIfInBounds_toArray, List.set_cons_zero, List.set_cons_succ]
      refine held_take (i := 3) (d := 12) (v := ?_) rfl rfl (by kernel_rfl) (by kernel_rfl) (by kernel_rfl) (fun _ _ _ h => h) (by rfl) ?_ (by assumption) ?_
      rotate_left
      · intro w hSw
        (try dsimp only at hSw)
        go_simp
        try with_reducible rfl
      try simp only [Act.put, List.setIfInBounds_toArray, List.set_cons_zero, List.set_cons_succ]
      refine held_take (i := 4) (d := 13) (v := ?_) rfl rfl (by kernel_rfl) (by kernel_rfl) (by kernel_rfl) (fun _ _ _ h => h) (by rfl) ?_ (by assumption) ?_
      rotate_left
      · intro w hSw
        (try dsimp only at hSw)
        go_simp
        try with_reducible rfl
      try simp only [Act.put, List.setIfInBounds_toArray, List.set_cons_zero, List.set_cons_succ]
      refine held_take (i := 5) (d := 14) (v := ?_) rfl rfl (by kernel_rfl) (by kernel_rfl) (by kernel_rfl) (fun _ _ _ h => h) (by rfl) ?_ (by assumption) ?_
      rotate_left
      · intro w hSw
        (try dsimp only at hSw)
        go_simp
        try with_reducible rfl
      try simp only [Act.put, List.setIfInBounds_toArray, List.set_cons_zero, List.set_cons_succ]
      refine held_take (i := 6) (d := 15) (v := ?_) rfl rfl (by kernel_rfl) (by kernel_rfl) (by kernel_rfl) (fun _ _ _ h => h) (by rfl) ?_ (by assumption) ?_
      rotate_left
      · intro w hSw
        (try dsimp only at hSw)
        go_simp
        try with_reducible rfl
      try simp only [Act.put, List.setIfInBounds_toArray, List.set_cons_zero, List.set_cons_succ]
      refine wpAnyH_ready (rs := [7]) (by kernel_rfl) (by simp) ?_
      refine AllReadyH.cons rfl (fun K' hK => ?_) AllReadyH.nil
      go_simp
      (go_split_ands; (with_reducible refine (HFD.out _ (HIB.out _ (by assumption))).mono ?_); rintro e w4 ⟨rfl, b4⟩)
      refine hK.out _ _ ?_ (fun hHeld => ?_)
      · (try dsimp only)
        (first | (go_split_ands; refine HQ.out _ ?_; repeat' (with_reducible first | exact BX.drew0 _ | exact BX.refl _ | assumption | refine BX.call' (by assumption) ?_ | refine BX.drew ?_)))
      clear hK K'
      try simp only [Act.put, List.setIfInBounds_toArray, List.set_cons_zero, List.set_cons_succ]
      refine held_take (i := 8) (d := 5) (v := ?_) rfl rfl (by kernel_rfl) (by kernel_rfl) (by kernel_rfl) (fun _ _ _ h => h) (by rfl) ?_ (by assumption) ?_
      rotate_left
      · intro w hSw
        (try dsimp only at hSw)
        go_simp
        try with_reducible rfl
      try simp only [Act.put, List.setIfInBounds_toArray, List.set_cons_zero, List.set_cons_succ]
      refine wpAnyH_done (by kernel_rfl) ?_ _
      go_split_ands
      have A4 := Lib.hid (HAB.out w4 (by assumption))
      go_wp2_with (go_at_call 22; refine (HRC.out _ (HIB.out _ A4.out)).mono ?_; rintro e w1 ⟨rfl, b1⟩; have A1 := Lib.hid (A4.out.on b1); obtain ⟨c0, c1, c2, c3, _⟩ := A1.out.all.1; clear b1; refine Hid.out ?_)
      refine Lib.hid ?_
      go_wp2_with (go_at_call 50; refine (HKD.out _ (HIB.out _ A1.out)).mono ?_; rintro e w2 ⟨v, rfl, o2, b2⟩; have A2 := Lib.hid (A1.out.on b2); obtain ⟨ad, cK, rfl, iK⟩ := own_in o2; have HIK := Lib.hid iK; clear b2 o2 iK)
      go_loopw [6, 27] (fun a i wr => (∃ (k z : Nat), k ≤ K.length ∧ i = .int .i64 k ∧ a = .int .i64 z ∧ Hid (z + (((K.drop k).takeWhile (fun j => j != q)).map (sizeP cs 9)).sum = Z)) ∧ Aft w (Obj.cells #[.string s, .slice (some ⟨gb, 0, none⟩) n cc, .slice af m cf, .int .i64 d] 26) wr ∧ Below w2.heap.size w2 wr) (fun _ i _ => K.length - (intOf i).toNat)
      case atStart => exact ⟨⟨0, lp + 1, Nat.zero_le _, rfl, by go_num, by rw [List.drop_zero]; exact Lib.hid HX.out.symm⟩, A2.out, Below.refl _ _⟩
      case round =>
        obtain ⟨⟨k, z, hk, rfl, rfl, HP⟩, hb, h2⟩ := hrel
        have HB := Lib.hid hb
        have H2 := Lib.hid h2
        have hIKr := HIK.out.below h2
        clear h2
        by_cases hlt : k < K.length
        · obtain ⟨gk, rfl, hkt, hkg⟩ := hIKr (by omega)
          obtain ⟨j, hj⟩ : ∃ j, K.getD k 0 = j := ⟨_, rfl⟩
          have e0 := hkt.nat k hlt j hj
          have hjm := HKM.out k hlt
          rw [hj] at hjm
          have HSJ := Lib.hid (HSZ.out j hjm).2
          have hjn := (HSZ.out j hjm).1
          by_cases hjq : j = q
          · have HE : Hid (z = Z) := Lib.hid (by have := HP.out; rw [take_drop_end q (sizeP cs 9) K k hlt (by rw [hj, hjq])] at this; omega)
            have dq : ((j : Int) == (q : Int)) = true := by simp [hjq]
            clear hkt hj hjm hb hjq HSJ
            go_wp2_with fail
            go_ret
            exact ⟨ret_int (by rw [HE.out]), HB.out.all.2⟩
          · have HE := Lib.hid (take_drop_go q (sizeP cs 9) K k hlt (by rw [hj]; exact hjq))
            rw [hj] at HE
            generalize sizeP cs 9 j = zj at HSJ HE
            have HX2 : Hid (z + zj + (((K.drop (k + 1)).takeWhile (fun j => j != q)).map (sizeP cs 9)).sum = Z) := Lib.hid (by have := HP.out; have := HE.out; omega)
            have hzz : z + zj ≤ 550000000 := by have := HX2.out; omega
            have dq : ((j : Int) == (q : Int)) = false := by simp; omega
            obtain ⟨q0, q1, q2, q3, _⟩ := hb.all.1
            have HIr := HIB.out _ hb
            clear hkt hj hjm hb hjq
            go_wp2_with (go_at_call 23; refine (HSJ.out _ HIr).mono ?_; rintro e w3 ⟨rfl, b3⟩; have B3 := Lib.hid b3; clear b3)
            go_roundw
            case rel => exact ⟨⟨k + 1, z + zj, by omega, by go_num, by go_num, HX2⟩, HB.out.on B3.out, H2.out.trans (B3.out.mono H2.out.size)⟩
            case measure => simp [intOf]; omega
        · have HX2 : Hid (z = Z) := Lib.hid (by have := HP.out; rw [List.drop_eq_nil_of_le (by omega)] at this; simpa using this)
          clear hb
          go_wp2_with fail
          go_ret
          exact ⟨ret_int (by rw [HX2.out]), HB.out.all.2⟩
end Go.Proofs.YthgbhnedfdnfpaaGreatDoor
