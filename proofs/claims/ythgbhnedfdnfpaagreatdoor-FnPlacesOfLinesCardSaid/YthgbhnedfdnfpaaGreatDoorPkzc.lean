import Derived.Test.YthgbhnedfdnfpaaGreatDoorPkzb
import Derived.Deep.CutBlock
/- What a law draws of configurations: any configuration, mostly a valid one: a filter changed. -/
namespace Go.Proofs.YthgbhnedfdnfpaaGreatDoor
set_option maxRecDepth 100000
open Go.RowKit
set_option linter.unusedVariables false
set_option linter.unusedSimpArgs false
set_option maxRecDepth 100000

set_option maxHeartbeats 12800000 in
theorem any_11 {code : Code} (hcode : (Tryz.f42.body).bind (blk 0) = some code) {w W v4 : World} {a : Option Addr} {n cap t t1 t3 t4 N b1 p gC cc cf : Nat} {zs : List Int} {af : Option Addr} {s0 : ByteArray} {L : List Cls} {M : List Flt} {dd r : Int}
    (HD : Hid (Dr w W a n cap zs t)) (HL : Hid (zs.length = n)) (hn : n ≤ 9223372036854775807) (ht : t ≤ 700000) (ht1 : t1 ≤ t + 1000) (ht3 : t3 ≤ t1 + 2) (ht4 : t4 ≤ t3 + 2) (hf16 : M.length ≤ 16) (hs8 : s0.size ≤ 8) (HLV : Hid (0 < (leaves L).length)) (HN : Hid (L.length = N)) (hc24 : N ≤ 24) (hc1 : 1 ≤ N) (hp : p < N)
    (K4 : Hid (KC w W a n cap t4 b1 s0 (.slice (some ⟨gC, 0, none⟩) N cc) (.slice af M.length cf) (.slice none 0 0) dd L M [] v4)) (hr : r = 11)
    {s1 s5 s6 s7 s8 s9 s10 s11 s12 s13 s14 s15 s16 s17 s18 s19 s20 s21 s22 s24 s25 s26 s27 s28 s29 s30 s31 s32 s33 s34 s35 s36 s37 s38 s39 s40 s41 s42 s43 s44 s45 s46 s47 s48 s49 s50 s51 s52 s53 s54 s55 s56 s57 s58 s59 s60 s61 s62 s63 s64 s65 s66 s67 s68 s69 s70 s71 s72 s73 s74 s75 s76 s77 s78 s79 s80 s81 s82 s83 s84 s85 s86 s87 s88 s89 s90 s91 s92 s93 s94 s95 s96 s97 s98 s99 s100 s101 s102 s103 s104 s105 s106 s107 s108 s109 s110 s111 s112 s113 s114 s115 s116 s117 s118 s119 s120 s121 s122 s123 s124 s125 s126 s127 s128 s129 s130 s131 s132 s133 s134 s135 s136 s137 s138 s139 s140 s141 s142 s143 s144 s145 s146 s147 s148 s149 s150 s151 s152 s153 s154 s155 s156 s157 s158 s159 s160 s161 s162 s163 s164 s165 s166 s167 s168 s169 s170 s171 s172 s173 s174 s175 s176 s177 s178 s179 s180 s181 s182 s183 s184 s185 s186 s187 s188 s189 s190 s191 s192 s193 s194 s195 s196 s197 s198 s199 s200 s201 s202 s203 s204 s205 s206 s207 s208 s209 s210 s211 s212 s213 s214 s215 s216 s217 s218 s219 s220 s221 s222 s223 s224 s225 s226 s227 s228 s229 s230 s231 s232 s233 s234 s235 s236 s237 s238 s239 s240 s241 s242 s243 s244 s245 s246 s247 s248 s249 s250 s251 : Value} {J K' : Act → World → Prop}
    (hJ : Hid (∀ a' w', AnyEnd w W a n cap (t1 + 60) b1 s1 s251 a' w' → J a' w')) (hK : ∀ a' w', Met J a' w' → K' a' w') :
    Code.wp Tryz.prog code (Exit.then K' (bodyPost Tryz.prog Tryz.f42 (DrAny w W a n cap zs t 1100 25 17))) ⟨#[.pointer (some ⟨w.heap.size, 0, none⟩), s1, .pointer (some ⟨W.heap.size, 0, none⟩), .pointer (some ⟨b1, 0, none⟩), .pointer (some ⟨gC, p * 8, none⟩), s5, s6, s7, s8, s9, s10, s11, s12, s13, s14, s15, s16, s17, s18, s19, s20, s21, s22, .int .i64 r, s24, s25, s26, s27, s28, s29, s30, s31, s32, s33, s34, s35, s36, s37, s38, s39, s40, s41, s42, s43, s44, s45, s46, s47, s48, s49, s50, s51, s52, s53, s54, s55, s56, s57, s58, s59, s60, s61, s62, s63, s64, s65, s66, s67, s68, s69, s70, s71, s72, s73, s74, s75, s76, s77, s78, s79, s80, s81, s82, s83, s84, s85, s86, s87, s88, s89, s90, s91, s92, s93, s94, s95, s96, s97, s98, s99, s100, s101, s102, s103, s104, s105, s106, s107, s108, s109, s110, s111, s112, s113, s114, s115, s116, s117, s118, s119, s120, s121, s122, s123, s124, s125, s126, s127, s128, s129, s130, s131, s132, s133, s134, s135, s136, s137, s138, s139, s140, s141, s142, s143, s144, s145, s146, s147, s148, s149, s150, s151, s152, s153, s154, s155, s156, s157, s158, s159, s160, s161, s162, s163, s164, s165, s166, s167, s168, s169, s170, s171, s172, s173, s174, s175, s176, s177, s178, s179, s180, s181, s182, s183, s184, s185, s186, s187, s188, s189, s190, s191, s192, s193, s194, s195, s196, s197, s198, s199, s200, s201, s202, s203, s204, s205, s206, s207, s208, s209, s210, s211, s212, s213, s214, s215, s216, s217, s218, s219, s220, s221, s222, s223, s224, s225, s226, s227, s228, s229, s230, s231, s232, s233, s234, s235, s236, s237, s238, s239, s240, s241, s242, s243, s244, s245, s246, s247, s248, s249, s250, s251], []⟩ v4 := by
  obtain rfl := Option.some.inj ((show (Tryz.f42.body).bind (blk 0) = some _ from rfl).symm.trans hcode)
  clear hcode
  obtain ⟨i0, hi, hz0, hz1, hz2⟩ := info_parts infoFlt
  obtain ⟨j0, hj0, hw0, hw1, hw2⟩ := info_parts infoCls
  have hw : w.heap.size < W.heap.size := HD.out.cur.lt
  have D4 := Lib.hid (K4.out.dr HD.out)
  have hpL : p < L.length := by have := HN.out; omega
  obtain ⟨e0, e1, e2, e3, e4⟩ := K4.out.box
  obtain ⟨x0, x1, x2, x3, x4, x5, x6, x7⟩ := own_eight (len_row K4.out.C HN.out) p hpL
  have fb := K4.out.fro
  have hsz4 := K4.out.bar.size
  have hmax : M.length ≤ 17 ∧ L.length ≤ 25 ∧ s0.size ≤ 9 := by have := HN.out; omega
  subst hr
  by_cases hM0 : M.length = 0
  · obtain rfl : M = [] := List.eq_nil_of_length_eq_zero hM0
    go_wp2_with fail
    have hJo := hJ.out
    go_meet
    exact ⟨trivial, s0, _, _, dd, L, [], t4, K4.out, hmax.2.1, by simp, hmax.2.2, by omega⟩
  · obtain ⟨gF, cF, ee, _, _⟩ := own_pos K4.out.F (by omega)
    injection ee with ee1 _ ee3
    subst ee1 ee3
    have hMi : (0 : Int) < M.length := by omega
    go_upto_region 30 with fail
    go_cut [6] from 128 to 134 (fun pv wx => ∃ q t5 : Nat, pv = .pointer (some ⟨gF, q * 5, none⟩) ∧ q < M.length ∧ t5 ≤ t4 + 2 ∧ KC w W a n cap t5 b1 s0 (.slice (some ⟨gC, 0, none⟩) N cc) (.slice (some ⟨gF, 0, none⟩) M.length cf) (.slice none 0 0) dd L M [] wx)
    case first =>
      focus
        have HS1 : Hid (∀ t' w', KC w W a n cap t' b1 s0 (.slice (some ⟨gC, 0, none⟩) N cc) (.slice (some ⟨gF, 0, none⟩) M.length cf) (.slice none 0 0) dd L M [] w' → (w'.cell? ⟨b1, 2, none⟩ = some (.slice (some ⟨gF, 0, none⟩) M.length cf))) := Lib.hid (fun t' w' h => h.box.2.2.1)
        have KDd : Hid (KC w W a n cap t4 b1 s0 (.slice (some ⟨gC, 0, none⟩) N cc) (.slice (some ⟨gF, 0, none⟩) M.length cf) (.slice none 0 0) dd L M [] v4.drew) := Lib.hid (K4.out.on (below_drewN (Below.refl _ _) 1))
        refine AnyL.begin (S := fun w' => w'.cell? ⟨b1, 2, none⟩ = some (.slice (some ⟨gF, 0, none⟩) M.length cf)) (T := fun _ => True) (b := 100) (by kernel_rfl) ?_
        obtain ⟨u0, hu0⟩ : ∃ u0, v4.drew = u0 := ⟨_, rfl⟩
        rw [hu0] at KDd ⊢
        clear hu0
        have hB := And.intro (HS1.out _ _ KDd.out) trivial
        refine AnyL.tS (i := 0) (d := 129) (v := ?_) rfl rfl (by kernel_rfl) (by kernel_rfl) (by kernel_rfl) (by decide) (fun _ _ _ h => h) (by rfl) ?_ (by assumption) ?_
        rotate_left
        · intro w' hSw
          (try dsimp only at hSw)
          go_simp
          try with_reducible rfl
        try simp only [Act.put, List.setIfInBounds_toArray, List.set_cons_zero, List.set_cons_succ]
        refine AnyL.tS (i := 1) (d := 130) (v := ?_) rfl rfl (by kernel_rfl) (by kernel_rfl) (by kernel_rfl) (by decide) (fun _ _ _ h => h) (by rfl) ?_ (by assumption) ?_
        rotate_left
        · intro w' hSw
          (try dsimp only at hSw)
          go_simp
          try with_reducible rfl
        try simp only [Act.put, List.setIfInBounds_toArray, List.set_cons_zero, List.set_cons_succ]
        refine AnyL.tS (i := 2) (d := 131) (v := ?_) rfl rfl (by kernel_rfl) (by kernel_rfl) (by kernel_rfl) (by decide) (fun _ _ _ h => h) (by rfl) ?_ (by assumption) ?_
        rotate_left
        · intro w' hSw
          (try dsimp only at hSw)
          go_simp
          try with_reducible rfl
        try simp only [Act.put, List.setIfInBounds_toArray, List.set_cons_zero, List.set_cons_succ]
        refine AnyL.tS (i := 3) (d := 132) (v := ?_) rfl rfl (by kernel_rfl) (by kernel_rfl) (by kernel_rfl) (by decide) (fun _ _ _ h => h) (by rfl) ?_ (by assumption) ?_
        rotate_left
        · intro w' hSw
          (try dsimp only at hSw)
          go_simp
          try with_reducible rfl
        try simp only [Act.put, List.setIfInBounds_toArray, List.set_cons_zero, List.set_cons_succ]
        refine AnyL.ready (rs := [4]) (by kernel_rfl) (by simp) ?_
        refine (AllL.consN rfl (fun K' hK => ?_) AllL.nil)
        go_simp
        go_at_call 73
        refine (dr_pick1 M.length (by omega) (by omega) (Lib.hid (KDd.out.dr HD.out)) HL hn (by omega)).mono ?_
        rintro e u4 ⟨rq, tq, rfl, ⟨rq0, rq1⟩, htq, dq, oq⟩
        have KQ := Lib.hid (KDd.out.only hw dq.cur oq)
        clear dq oq
        refine hK.out _ _ ⟨HS1.out _ _ KQ.out, trivial⟩ (fun hB => ?_)
        clear hK K'
        try simp only [Act.put, List.setIfInBounds_toArray, List.set_cons_zero, List.set_cons_succ]
        obtain ⟨q, rfl⟩ := Int.eq_ofNat_of_zero_le rq0
        have hqN : q < M.length := by omega
        refine AnyL.tS (i := 5) (d := 134) (v := ?_) rfl rfl (by kernel_rfl) (by kernel_rfl) (by kernel_rfl) (by decide) (fun _ _ _ h => h) (by rfl) ?_ (by assumption) ?_
        rotate_left
        · intro w' hSw
          (try dsimp only at hSw)
          go_simp
          try with_reducible rfl
        try simp only [Act.put, List.setIfInBounds_toArray, List.set_cons_zero, List.set_cons_succ]
        refine AnyL.tS (i := 6) (d := 6) (v := ?_) rfl rfl (by kernel_rfl) (by kernel_rfl) (by kernel_rfl) (by decide) (fun _ _ _ h => h) (by rfl) ?_ (by assumption) ?_
        rotate_left
        · intro w' hSw
          (try dsimp only at hSw)
          go_simp
          try with_reducible rfl
        try simp only [Act.put, List.setIfInBounds_toArray, List.set_cons_zero, List.set_cons_succ]
        refine AnyL.done (by kernel_rfl) ?_ _
        go_wp2_with fail
        go_meet
        exact ⟨q, tq, rfl, hqN, htq, KQ.out⟩
    case rest =>
    obtain ⟨q, t5, rfl, hq, ht5, hk5⟩ := hcut
    have K5 := Lib.hid hk5
    have D5 := Lib.hid (hk5.dr HD.out)
    clear hk5 K4 D4 e0 e1 e2 e3 e4 fb x0 x1 x2 x3 x4 x5 x6 x7
    go_upto_block 1 with (go_at_call 73; (with_reducible refine (dr_pick1 5 (by omega) (by omega) D5 HL hn (by omega)).mono ?_); rintro e v6 ⟨r6, t6, rfl, ⟨r60, r61⟩, ht6, d6, o6⟩; have K6 := Lib.hid (K5.out.only hw d6.cur o6); have D6 := Lib.hid d6; clear d6 o6)
    clear K5 D5
    obtain ⟨x0, x1, x2, x3, x4, x5, x6, x7⟩ := own_eight (len_row K6.out.C HN.out) p hpL
    obtain rfl | rfl | rfl | rfl | rfl : r6 = 0 ∨ r6 = 1 ∨ r6 = 2 ∨ r6 = 3 ∨ r6 = 4 := by omega
    · go_wp2_with (go_at_call 75; (with_reducible refine (dr_among (m := 4) (t := t6) (zs := zs) (ints_l4 v6 _ _ _ _ _) (by omega) (by omega) D6 HL hn (by omega)).mono ?_); rintro e v7 ⟨r7, t7, rfl, _, ht7, d7, o7⟩; have K7 := Lib.hid ((K6.out.on (one_new2 v6 _)).only hw d7.cur o7); clear d7 o7; have fz := World.ownsRow.frozenAt K7.out.F (q * 5); obtain ⟨z0, z1, z2, z3, z4⟩ := own_five K7.out.F q hq)
      have hJo := hJ.out
      go_meet
      exact ⟨trivial, s0, _, _, dd, L, _, t7, K7.out.updF rfl hw q 0 _ hq (by decide), hmax.2.1, by rw [List.length_set]; exact hmax.1, hmax.2.2, by omega⟩
    · go_wp2_with (go_at_call 75; (with_reducible refine (dr_among (m := 3) (t := t6) (zs := zs) (ints_l3 v6 _ _ _ _) (by omega) (by omega) D6 HL hn (by omega)).mono ?_); rintro e v7 ⟨r7, t7, rfl, _, ht7, d7, o7⟩; have K7 := Lib.hid ((K6.out.on (one_new2 v6 _)).only hw d7.cur o7); clear d7 o7; have fz := World.ownsRow.frozenAt K7.out.F (q * 5 + 1); obtain ⟨z0, z1, z2, z3, z4⟩ := own_five K7.out.F q hq)
      have hJo := hJ.out
      go_meet
      exact ⟨trivial, s0, _, _, dd, L, _, t7, K7.out.updF rfl hw q 1 _ hq (by decide), hmax.2.1, by rw [List.length_set]; exact hmax.1, hmax.2.2, by omega⟩
    · go_wp2_with (go_at_call 75; (with_reducible refine (dr_among (m := 4) (t := t6) (zs := zs) (ints_l4 v6 _ _ _ _ _) (by omega) (by omega) D6 HL hn (by omega)).mono ?_); rintro e v7 ⟨r7, t7, rfl, _, ht7, d7, o7⟩; have K7 := Lib.hid ((K6.out.on (one_new2 v6 _)).only hw d7.cur o7); clear d7 o7; have fz := World.ownsRow.frozenAt K7.out.F (q * 5 + 2); obtain ⟨z0, z1, z2, z3, z4⟩ := own_five K7.out.F q hq)
      have hJo := hJ.out
      go_meet
      exact ⟨trivial, s0, _, _, dd, L, _, t7, K7.out.updF rfl hw q 2 _ hq (by decide), hmax.2.1, by rw [List.length_set]; exact hmax.1, hmax.2.2, by omega⟩
    · go_wp2_with (go_at_call 75; (with_reducible refine (dr_among (m := 3) (t := t6) (zs := zs) (ints_l3 v6 _ _ _ _) (by omega) (by omega) D6 HL hn (by omega)).mono ?_); rintro e v7 ⟨r7, t7, rfl, _, ht7, d7, o7⟩; have K7 := Lib.hid ((K6.out.on (one_new2 v6 _)).only hw d7.cur o7); clear d7 o7; have fz := World.ownsRow.frozenAt K7.out.F (q * 5 + 3); obtain ⟨z0, z1, z2, z3, z4⟩ := own_five K7.out.F q hq)
      have hJo := hJ.out
      go_meet
      exact ⟨trivial, s0, _, _, dd, L, _, t7, K7.out.updF rfl hw q 3 _ hq (by decide), hmax.2.1, by rw [List.length_set]; exact hmax.1, hmax.2.2, by omega⟩
    · go_wp2_with (go_at_call 75; (with_reducible refine (dr_among (m := 3) (t := t6) (zs := zs) (ints_l3 v6 _ _ _ _) (by omega) (by omega) D6 HL hn (by omega)).mono ?_); rintro e v7 ⟨r7, t7, rfl, _, ht7, d7, o7⟩; have K7 := Lib.hid ((K6.out.on (one_new2 v6 _)).only hw d7.cur o7); clear d7 o7; have fz := World.ownsRow.frozenAt K7.out.F (q * 5 + 4); obtain ⟨z0, z1, z2, z3, z4⟩ := own_five K7.out.F q hq)
      have hJo := hJ.out
      go_meet
      exact ⟨trivial, s0, _, _, dd, L, _, t7, K7.out.updF rfl hw q 4 _ hq (by decide), hmax.2.1, by rw [List.length_set]; exact hmax.1, hmax.2.2, by omega⟩
set_option maxHeartbeats 12800000 in
theorem any_12 {code : Code} (hcode : (Tryz.f42.body).bind (blk 0) = some code) {w W v4 : World} {a : Option Addr} {n cap t t1 t3 t4 N b1 p gC cc cf : Nat} {zs : List Int} {af : Option Addr} {s0 : ByteArray} {L : List Cls} {M : List Flt} {dd r : Int}
    (HD : Hid (Dr w W a n cap zs t)) (HL : Hid (zs.length = n)) (hn : n ≤ 9223372036854775807) (ht : t ≤ 700000) (ht1 : t1 ≤ t + 1000) (ht3 : t3 ≤ t1 + 2) (ht4 : t4 ≤ t3 + 2) (hf16 : M.length ≤ 16) (hs8 : s0.size ≤ 8) (HLV : Hid (0 < (leaves L).length)) (HN : Hid (L.length = N)) (hc24 : N ≤ 24) (hc1 : 1 ≤ N) (hp : p < N)
    (K4 : Hid (KC w W a n cap t4 b1 s0 (.slice (some ⟨gC, 0, none⟩) N cc) (.slice af M.length cf) (.slice none 0 0) dd L M [] v4)) (hr : r = 12)
    {s1 s5 s6 s7 s8 s9 s10 s11 s12 s13 s14 s15 s16 s17 s18 s19 s20 s21 s22 s24 s25 s26 s27 s28 s29 s30 s31 s32 s33 s34 s35 s36 s37 s38 s39 s40 s41 s42 s43 s44 s45 s46 s47 s48 s49 s50 s51 s52 s53 s54 s55 s56 s57 s58 s59 s60 s61 s62 s63 s64 s65 s66 s67 s68 s69 s70 s71 s72 s73 s74 s75 s76 s77 s78 s79 s80 s81 s82 s83 s84 s85 s86 s87 s88 s89 s90 s91 s92 s93 s94 s95 s96 s97 s98 s99 s100 s101 s102 s103 s104 s105 s106 s107 s108 s109 s110 s111 s112 s113 s114 s115 s116 s117 s118 s119 s120 s121 s122 s123 s124 s125 s126 s127 s128 s129 s130 s131 s132 s133 s134 s135 s136 s137 s138 s139 s140 s141 s142 s143 s144 s145 s146 s147 s148 s149 s150 s151 s152 s153 s154 s155 s156 s157 s158 s159 s160 s161 s162 s163 s164 s165 s166 s167 s168 s169 s170 s171 s172 s173 s174 s175 s176 s177 s178 s179 s180 s181 s182 s183 s184 s185 s186 s187 s188 s189 s190 s191 s192 s193 s194 s195 s196 s197 s198 s199 s200 s201 s202 s203 s204 s205 s206 s207 s208 s209 s210 s211 s212 s213 s214 s215 s216 s217 s218 s219 s220 s221 s222 s223 s224 s225 s226 s227 s228 s229 s230 s231 s232 s233 s234 s235 s236 s237 s238 s239 s240 s241 s242 s243 s244 s245 s246 s247 s248 s249 s250 s251 : Value} {J K' : Act → World → Prop}
    (hJ : Hid (∀ a' w', AnyEnd w W a n cap (t1 + 60) b1 s1 s251 a' w' → J a' w')) (hK : ∀ a' w', Met J a' w' → K' a' w') :
    Code.wp Tryz.prog code (Exit.then K' (bodyPost Tryz.prog Tryz.f42 (DrAny w W a n cap zs t 1100 25 17))) ⟨#[.pointer (some ⟨w.heap.size, 0, none⟩), s1, .pointer (some ⟨W.heap.size, 0, none⟩), .pointer (some ⟨b1, 0, none⟩), .pointer (some ⟨gC, p * 8, none⟩), s5, s6, s7, s8, s9, s10, s11, s12, s13, s14, s15, s16, s17, s18, s19, s20, s21, s22, .int .i64 r, s24, s25, s26, s27, s28, s29, s30, s31, s32, s33, s34, s35, s36, s37, s38, s39, s40, s41, s42, s43, s44, s45, s46, s47, s48, s49, s50, s51, s52, s53, s54, s55, s56, s57, s58, s59, s60, s61, s62, s63, s64, s65, s66, s67, s68, s69, s70, s71, s72, s73, s74, s75, s76, s77, s78, s79, s80, s81, s82, s83, s84, s85, s86, s87, s88, s89, s90, s91, s92, s93, s94, s95, s96, s97, s98, s99, s100, s101, s102, s103, s104, s105, s106, s107, s108, s109, s110, s111, s112, s113, s114, s115, s116, s117, s118, s119, s120, s121, s122, s123, s124, s125, s126, s127, s128, s129, s130, s131, s132, s133, s134, s135, s136, s137, s138, s139, s140, s141, s142, s143, s144, s145, s146, s147, s148, s149, s150, s151, s152, s153, s154, s155, s156, s157, s158, s159, s160, s161, s162, s163, s164, s165, s166, s167, s168, s169, s170, s171, s172, s173, s174, s175, s176, s177, s178, s179, s180, s181, s182, s183, s184, s185, s186, s187, s188, s189, s190, s191, s192, s193, s194, s195, s196, s197, s198, s199, s200, s201, s202, s203, s204, s205, s206, s207, s208, s209, s210, s211, s212, s213, s214, s215, s216, s217, s218, s219, s220, s221, s222, s223, s224, s225, s226, s227, s228, s229, s230, s231, s232, s233, s234, s235, s236, s237, s238, s239, s240, s241, s242, s243, s244, s245, s246, s247, s248, s249, s250, s251], []⟩ v4 := by
  obtain rfl := Option.some.inj ((show (Tryz.f42.body).bind (blk 0) = some _ from rfl).symm.trans hcode)
  clear hcode
  obtain ⟨i0, hi, hz0, hz1, hz2⟩ := info_parts infoFlt
  obtain ⟨j0, hj0, hw0, hw1, hw2⟩ := info_parts infoCls
  have hw : w.heap.size < W.heap.size := HD.out.cur.lt
  have D4 := Lib.hid (K4.out.dr HD.out)
  have hpL : p < L.length := by have := HN.out; omega
  obtain ⟨e0, e1, e2, e3, e4⟩ := K4.out.box
  obtain ⟨x0, x1, x2, x3, x4, x5, x6, x7⟩ := own_eight (len_row K4.out.C HN.out) p hpL
  have fb := K4.out.fro
  have hsz4 := K4.out.bar.size
  have hmax : M.length ≤ 17 ∧ L.length ≤ 25 ∧ s0.size ≤ 9 := by have := HN.out; omega
  subst hr
  by_cases hM0 : M.length = 0
  · obtain rfl : M = [] := List.eq_nil_of_length_eq_zero hM0
    go_wp2_with fail
    have hJo := hJ.out
    go_meet
    exact ⟨trivial, s0, _, _, dd, L, [], t4, K4.out, hmax.2.1, by simp, hmax.2.2, by omega⟩
  · obtain ⟨gF, cF, ee, _, _⟩ := own_pos K4.out.F (by omega)
    injection ee with ee1 _ ee3
    subst ee1 ee3
    have hMi : (0 : Int) < M.length := by omega
    go_upto_region 30 with fail
    go_cut [6] from 128 to 134 (fun pv wx => ∃ q t5 : Nat, pv = .pointer (some ⟨gF, q * 5, none⟩) ∧ q < M.length ∧ t5 ≤ t4 + 2 ∧ KC w W a n cap t5 b1 s0 (.slice (some ⟨gC, 0, none⟩) N cc) (.slice (some ⟨gF, 0, none⟩) M.length cf) (.slice none 0 0) dd L M [] wx)
    case first =>
      focus
        have HS1 : Hid (∀ t' w', KC w W a n cap t' b1 s0 (.slice (some ⟨gC, 0, none⟩) N cc) (.slice (some ⟨gF, 0, none⟩) M.length cf) (.slice none 0 0) dd L M [] w' → (w'.cell? ⟨b1, 2, none⟩ = some (.slice (some ⟨gF, 0, none⟩) M.length cf))) := Lib.hid (fun t' w' h => h.box.2.2.1)
        have KDd : Hid (KC w W a n cap t4 b1 s0 (.slice (some ⟨gC, 0, none⟩) N cc) (.slice (some ⟨gF, 0, none⟩) M.length cf) (.slice none 0 0) dd L M [] v4.drew) := Lib.hid (K4.out.on (below_drewN (Below.refl _ _) 1))
        refine AnyL.begin (S := fun w' => w'.cell? ⟨b1, 2, none⟩ = some (.slice (some ⟨gF, 0, none⟩) M.length cf)) (T := fun _ => True) (b := 100) (by kernel_rfl) ?_
        obtain ⟨u0, hu0⟩ : ∃ u0, v4.drew = u0 := ⟨_, rfl⟩
        rw [hu0] at KDd ⊢
        clear hu0
        have hB := And.intro (HS1.out _ _ KDd.out) trivial
        refine AnyL.tS (i := 0) (d := 129) (v := ?_) rfl rfl (by kernel_rfl) (by kernel_rfl) (by kernel_rfl) (by decide) (fun _ _ _ h => h) (by rfl) ?_ (by assumption) ?_
        rotate_left
        · intro w' hSw
          (try dsimp only at hSw)
          go_simp
          try with_reducible rfl
        try simp only [Act.put, List.setIfInBounds_toArray, List.set_cons_zero, List.set_cons_succ]
        refine AnyL.tS (i := 1) (d := 130) (v := ?_) rfl rfl (by kernel_rfl) (by kernel_rfl) (by kernel_rfl) (by decide) (fun _ _ _ h => h) (by rfl) ?_ (by assumption) ?_
        rotate_left
        · intro w' hSw
          (try dsimp only at hSw)
          go_simp
          try with_reducible rfl
        try simp only [Act.put, List.setIfInBounds_toArray, List.set_cons_zero, List.set_cons_succ]
        refine AnyL.tS (i := 2) (d := 131) (v := ?_) rfl rfl (by kernel_rfl) (by kernel_rfl) (by kernel_rfl) (by decide) (fun _ _ _ h => h) (by rfl) ?_ (by assumption) ?_
        rotate_left
        · intro w' hSw
          (try dsimp only at hSw)
          go_simp
          try with_reducible rfl
        try simp only [Act.put, List.setIfInBounds_toArray, List.set_cons_zero, List.set_cons_succ]
        refine AnyL.tS (i := 3) (d := 132) (v := ?_) rfl rfl (by kernel_rfl) (by kernel_rfl) (by kernel_rfl) (by decide) (fun _ _ _ h => h) (by rfl) ?_ (by assumption) ?_
        rotate_left
        · intro w' hSw
          (try dsimp only at hSw)
          go_simp
          try with_reducible rfl
        try simp only [Act.put, List.setIfInBounds_toArray, List.set_cons_zero, List.set_cons_succ]
        refine AnyL.ready (rs := [4]) (by kernel_rfl) (by simp) ?_
        refine (AllL.consN rfl (fun K' hK => ?_) AllL.nil)
        go_simp
        go_at_call 73
        refine (dr_pick1 M.length (by omega) (by omega) (Lib.hid (KDd.out.dr HD.out)) HL hn (by omega)).mono ?_
        rintro e u4 ⟨rq, tq, rfl, ⟨rq0, rq1⟩, htq, dq, oq⟩
        have KQ := Lib.hid (KDd.out.only hw dq.cur oq)
        clear dq oq
        refine hK.out _ _ ⟨HS1.out _ _ KQ.out, trivial⟩ (fun hB => ?_)
        clear hK K'
        try simp only [Act.put, List.setIfInBounds_toArray, List.set_cons_zero, List.set_cons_succ]
        obtain ⟨q, rfl⟩ := Int.eq_ofNat_of_zero_le rq0
        have hqN : q < M.length := by omega
        refine AnyL.tS (i := 5) (d := 134) (v := ?_) rfl rfl (by kernel_rfl) (by kernel_rfl) (by kernel_rfl) (by decide) (fun _ _ _ h => h) (by rfl) ?_ (by assumption) ?_
        rotate_left
        · intro w' hSw
          (try dsimp only at hSw)
          go_simp
          try with_reducible rfl
        try simp only [Act.put, List.setIfInBounds_toArray, List.set_cons_zero, List.set_cons_succ]
        refine AnyL.tS (i := 6) (d := 6) (v := ?_) rfl rfl (by kernel_rfl) (by kernel_rfl) (by kernel_rfl) (by decide) (fun _ _ _ h => h) (by rfl) ?_ (by assumption) ?_
        rotate_left
        · intro w' hSw
          (try dsimp only at hSw)
          go_simp
          try with_reducible rfl
        try simp only [Act.put, List.setIfInBounds_toArray, List.set_cons_zero, List.set_cons_succ]
        refine AnyL.done (by kernel_rfl) ?_ _
        go_wp2_with fail
        go_meet
        exact ⟨q, tq, rfl, hqN, htq, KQ.out⟩
    case rest =>
    obtain ⟨q, t5, rfl, hq, ht5, hk5⟩ := hcut
    have K5 := Lib.hid hk5
    have D5 := Lib.hid (hk5.dr HD.out)
    clear hk5 K4 D4 e0 e1 e2 e3 e4 fb x0 x1 x2 x3 x4 x5 x6 x7
    go_upto_block 1 with (go_at_call 73; (with_reducible refine (dr_pick1 5 (by omega) (by omega) D5 HL hn (by omega)).mono ?_); rintro e v6 ⟨r6, t6, rfl, ⟨r60, r61⟩, ht6, d6, o6⟩; have K6 := Lib.hid (K5.out.only hw d6.cur o6); have D6 := Lib.hid d6; clear d6 o6)
    clear K5 D5
    obtain ⟨x0, x1, x2, x3, x4, x5, x6, x7⟩ := own_eight (len_row K6.out.C HN.out) p hpL
    obtain rfl | rfl | rfl | rfl | rfl : r6 = 0 ∨ r6 = 1 ∨ r6 = 2 ∨ r6 = 3 ∨ r6 = 4 := by omega
    · go_wp2_with (go_at_call 75; (with_reducible refine (dr_among (m := 4) (t := t6) (zs := zs) (ints_l4 v6 _ _ _ _ _) (by omega) (by omega) D6 HL hn (by omega)).mono ?_); rintro e v7 ⟨r7, t7, rfl, _, ht7, d7, o7⟩; have K7 := Lib.hid ((K6.out.on (one_new2 v6 _)).only hw d7.cur o7); clear d7 o7; have fz := World.ownsRow.frozenAt K7.out.F (q * 5); obtain ⟨z0, z1, z2, z3, z4⟩ := own_five K7.out.F q hq)
      have hJo := hJ.out
      go_meet
      exact ⟨trivial, s0, _, _, dd, L, _, t7, K7.out.updF rfl hw q 0 _ hq (by decide), hmax.2.1, by rw [List.length_set]; exact hmax.1, hmax.2.2, by omega⟩
    · go_wp2_with (go_at_call 75; (with_reducible refine (dr_among (m := 3) (t := t6) (zs := zs) (ints_l3 v6 _ _ _ _) (by omega) (by omega) D6 HL hn (by omega)).mono ?_); rintro e v7 ⟨r7, t7, rfl, _, ht7, d7, o7⟩; have K7 := Lib.hid ((K6.out.on (one_new2 v6 _)).only hw d7.cur o7); clear d7 o7; have fz := World.ownsRow.frozenAt K7.out.F (q * 5 + 1); obtain ⟨z0, z1, z2, z3, z4⟩ := own_five K7.out.F q hq)
      have hJo := hJ.out
      go_meet
      exact ⟨trivial, s0, _, _, dd, L, _, t7, K7.out.updF rfl hw q 1 _ hq (by decide), hmax.2.1, by rw [List.length_set]; exact hmax.1, hmax.2.2, by omega⟩
    · go_wp2_with (go_at_call 75; (with_reducible refine (dr_among (m := 4) (t := t6) (zs := zs) (ints_l4 v6 _ _ _ _ _) (by omega) (by omega) D6 HL hn (by omega)).mono ?_); rintro e v7 ⟨r7, t7, rfl, _, ht7, d7, o7⟩; have K7 := Lib.hid ((K6.out.on (one_new2 v6 _)).only hw d7.cur o7); clear d7 o7; have fz := World.ownsRow.frozenAt K7.out.F (q * 5 + 2); obtain ⟨z0, z1, z2, z3, z4⟩ := own_five K7.out.F q hq)
      have hJo := hJ.out
      go_meet
      exact ⟨trivial, s0, _, _, dd, L, _, t7, K7.out.updF rfl hw q 2 _ hq (by decide), hmax.2.1, by rw [List.length_set]; exact hmax.1, hmax.2.2, by omega⟩
    · go_wp2_with (go_at_call 75; (with_reducible refine (dr_among (m := 3) (t := t6) (zs := zs) (ints_l3 v6 _ _ _ _) (by omega) (by omega) D6 HL hn (by omega)).mono ?_); rintro e v7 ⟨r7, t7, rfl, _, ht7, d7, o7⟩; have K7 := Lib.hid ((K6.out.on (one_new2 v6 _)).only hw d7.cur o7); clear d7 o7; have fz := World.ownsRow.frozenAt K7.out.F (q * 5 + 3); obtain ⟨z0, z1, z2, z3, z4⟩ := own_five K7.out.F q hq)
      have hJo := hJ.out
      go_meet
      exact ⟨trivial, s0, _, _, dd, L, _, t7, K7.out.updF rfl hw q 3 _ hq (by decide), hmax.2.1, by rw [List.length_set]; exact hmax.1, hmax.2.2, by omega⟩
    · go_wp2_with (go_at_call 75; (with_reducible refine (dr_among (m := 3) (t := t6) (zs := zs) (ints_l3 v6 _ _ _ _) (by omega) (by omega) D6 HL hn (by omega)).mono ?_); rintro e v7 ⟨r7, t7, rfl, _, ht7, d7, o7⟩; have K7 := Lib.hid ((K6.out.on (one_new2 v6 _)).only hw d7.cur o7); clear d7 o7; have fz := World.ownsRow.frozenAt K7.out.F (q * 5 + 4); obtain ⟨z0, z1, z2, z3, z4⟩ := own_five K7.out.F q hq)
      have hJo := hJ.out
      go_meet
      exact ⟨trivial, s0, _, _, dd, L, _, t7, K7.out.updF rfl hw q 4 _ hq (by decide), hmax.2.1, by rw [List.length_set]; exact hmax.1, hmax.2.2, by omega⟩
end Go.Proofs.YthgbhnedfdnfpaaGreatDoor
