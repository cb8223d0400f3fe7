import Derived.Test.YthgbhnedfdnfpaaGreatDoorPkzb
import Derived.Deep.CutBlock
/- What a law draws of configurations: any configuration, mostly a valid one: one filter more than there can be. -/
namespace Go.Proofs.YthgbhnedfdnfpaaGreatDoor
set_option maxRecDepth 100000
open Go.RowKit
set_option linter.unusedVariables false
set_option linter.unusedSimpArgs false
set_option maxRecDepth 100000

set_option maxHeartbeats 12800000 in
theorem any_13 {code : Code} (hcode : (Tryz.f42.body).bind (blk 0) = some code) {w W v4 : World} {a : Option Addr} {n cap t t1 t3 t4 N b1 p gC cc cf : Nat} {zs : List Int} {af : Option Addr} {s0 : ByteArray} {L : List Cls} {M : List Flt} {dd r : Int}
    (HD : Hid (Dr w W a n cap zs t)) (HL : Hid (zs.length = n)) (hn : n ≤ 9223372036854775807) (ht : t ≤ 700000) (ht1 : t1 ≤ t + 1000) (ht3 : t3 ≤ t1 + 2) (ht4 : t4 ≤ t3 + 2) (hf16 : M.length ≤ 16) (hs8 : s0.size ≤ 8) (HLV : Hid (0 < (leaves L).length)) (HN : Hid (L.length = N)) (hc24 : N ≤ 24) (hc1 : 1 ≤ N) (hp : p < N)
    (K4 : Hid (KC w W a n cap t4 b1 s0 (.slice (some ⟨gC, 0, none⟩) N cc) (.slice af M.length cf) (.slice none 0 0) dd L M [] v4)) (hr : r = 13)
    {s1 s5 s6 s7 s8 s9 s10 s11 s12 s13 s14 s15 s16 s17 s18 s19 s20 s21 s22 s24 s25 s26 s27 s28 s29 s30 s31 s32 s33 s34 s35 s36 s37 s38 s39 s40 s41 s42 s43 s44 s45 s46 s47 s48 s49 s50 s51 s52 s53 s54 s55 s56 s57 s58 s59 s60 s61 s62 s63 s64 s65 s66 s67 s68 s69 s70 s71 s72 s73 s74 s75 s76 s77 s78 s79 s80 s81 s82 s83 s84 s85 s86 s87 s88 s89 s90 s91 s92 s93 s94 s95 s96 s97 s98 s99 s100 s101 s102 s103 s104 s105 s106 s107 s108 s109 s110 s111 s112 s113 s114 s115 s116 s117 s118 s119 s120 s121 s122 s123 s124 s125 s126 s127 s128 s129 s130 s131 s132 s133 s134 s135 s136 s137 s138 s139 s140 s141 s142 s143 s144 s145 s146 s147 s148 s149 s150 s151 s152 s153 s154 s155 s156 s157 s158 s159 s160 s161 s162 s163 s164 s165 s166 s167 s168 s169 s170 s171 s172 s173 s174 s175 s176 s177 s178 s179 s180 s181 s182 s183 s184 s185 s186 s187 s188 s189 s190 s191 s192 s193 s194 s195 s196 s197 s198 s199 s200 s201 s202 s203 s204 s205 s206 s207 s208 s209 s210 s211 s212 s213 s214 s215 s216 s217 s218 s219 s220 s221 s222 s223 s224 s225 s226 s227 s228 s229 s230 s231 s232 s233 s234 s235 s236 s237 s238 s239 s240 s241 s242 s243 s244 s245 s246 s247 s248 s249 s250 s251 : Value} {J K' : Act → World → Prop}
    (hJ : Hid (∀ a' w', AnyEnd w W a n cap (t1 + 60) b1 s1 s251 a' w' → J a' w')) (hK : ∀ a' w', Met J a' w' → K' a' w') :
    Code.wp Tryz.prog code (Exit.then K' (bodyPost Tryz.prog Tryz.f42 (DrAny w W a n cap zs t 1100 25 17))) ⟨#[.pointer (some ⟨w.heap.size, 0, none⟩), s1, .pointer (some ⟨W.heap.size, 0, none⟩), .pointer (some ⟨b1, 0, none⟩), .pointer (some ⟨gC, p * 8, none⟩), s5, s6, s7, s8, s9, s10, s11, s12, s13, s14, s15, s16, s17, s18, s19, s20, s21, s22, .int .i64 r, s24, s25, s26, s27, s28, s29, s30, s31, s32, s33, s34, s35, s36, s37, s38, s39, s40, s41, s42, s43, s44, s45, s46, s47, s48, s49, s50, s51, s52, s53, s54, s55, s56, s57, s58, s59, s60, s61, s62, s63, s64, s65, s66, s67, s68, s69, s70, s71, s72, s73, s74, s75, s76, s77, s78, s79, s80, s81, s82, s83, s84, s85, s86, s87, s88, s89, s90, s91, s92, s93, s94, s95, s96, s97, s98, s99, s100, s101, s102, s103, s104, s105, s106, s107, s108, s109, s110, s111, s112, s113, s114, s115, s116, s117, s118, s119, s120, s121, s122, s123, s124, s125, s126, s127, s128, s129, s130, s131, s132, s133, s134, s135, s136, s137, s138, s139, s140, s141, s142, s143, s144, s145, s146, s147, s148, s149, s150, s151, s152, s153, s154, s155, s156, s157, s158, s159, s160, s161, s162, s163, s164, s165, s166, s167, s168, s169, s170, s171, s172, s173, s174, s175, s176, s177, s178, s179, s180, s181, s182, s183, s184, s185, s186, s187, s188, s189, s190, s191, s192, s193, s194, s195, s196, s197, s198, s199, s200, s201, s202, s203, s204, s205, s206, s207, s208, s209, s210, s211, s212, s213, s214, s215, s216, s217, s218, s219, s220, s221, s222, s223, s224, s225, s226, s227, s228, s229, s230, s231, s232, s233, s234, s235, s236, s237, s238, s239, s240, s241, s242, s243, s244, s245, s246, s247, s248, s249, s250, s251], []⟩ v4 := by
  obtain rfl := Option.some.inj ((show (Tryz.f42.body).bind (blk 0) = some _ from rfl).symm.trans hcode)
  clear hcode
  obtain ⟨i0, hi, hz0, hz1, hz2⟩ := info_parts infoFlt
  obtain ⟨j0, hj0, hw0, hw1, hw2⟩ := info_parts infoCls
  have hw : w.heap.size < W.heap.size := HD.out.cur.lt
  have D4 := Lib.hid (K4.out.dr HD.out)
  have hpL : p < L.length := by have := HN.out; omega
  obtain ⟨e0, e1, e2, e3, e4⟩ := K4.out.box
  obtain ⟨x0, x1, x2, x3, x4, x5, x6, x7⟩ := own_eight (len_row K4.out.C HN.out) p hpL
  have fb := K4.out.fro
  have hsz4 := K4.out.bar.size
  have hmax : M.length ≤ 17 ∧ L.length ≤ 25 ∧ s0.size ≤ 9 := by have := HN.out; omega
  subst hr
  go_wp2_with fail
  go_loopw [7] (fun kv wr => ∃ (M : List Flt) (vF : Value) (t9 : Nat), kv = .int .i64 (M.length : Nat) ∧ M.length ≤ 17 ∧ t9 ≤ t4 ∧ KC w W a n cap t9 b1 s0 (.slice (some ⟨gC, 0, none⟩) N cc) vF (.slice none 0 0) dd L M [] wr) (fun kv _ => 17 - (intOf kv).toNat)
  case atStart => exact ⟨M, _, t4, rfl, hmax.1, Nat.le_refl _, K4.out⟩
  case round =>
    focus
      obtain ⟨M, vF, t9, rfl, hM17, ht9, hk9⟩ := hrel
      obtain ⟨af, cf, rfl, _⟩ := own_in hk9.F
      have K9 := Lib.hid hk9
      clear hk9 K4 D4 e0 e1 e2 e3 e4 fb x0 x1 x2 x3 x4 x5 x6 x7
      by_cases hlt : M.length ≤ 16
      · have hlti : (M.length : Int) ≤ 16 := by omega
        go_upto_region 45 with fail
        have HS1 : Hid (∀ t' vF' vl' M' K' w', KC w W a n cap t' b1 s0 (.slice (some ⟨gC, 0, none⟩) N cc) vF' vl' dd L M' K' w' → (∀ q, q < N → w'.cell? ⟨gC, q * 8, none⟩ = some (.int .i64 (L.getD q cls0).i))) := Lib.hid (fun t' vF' vl' M' K' w' h q hq => (own_eight (len_row h.C HN.out) q (by have := HN.out; omega)).1)
        have HT1 : Hid (∀ t' vl' K' w', KC w W a n cap t' b1 s0 (.slice (some ⟨gC, 0, none⟩) N cc) (.slice af M.length cf) vl' dd L M K' w' → (w'.cell? ⟨b1, 0, none⟩ = some (.string s0) ∧ w'.cell? ⟨b1, 1, none⟩ = some (.slice (some ⟨gC, 0, none⟩) N cc) ∧ w'.cell? ⟨b1, 2, none⟩ = some (.slice af M.length cf) ∧ w'.cell? ⟨b1, 3, none⟩ = some (.int .i64 dd))) := Lib.hid (fun t' vl' K' w' h => ⟨h.box.1, h.box.2.1, h.box.2.2.1, h.box.2.2.2.1⟩)
        have KDd : Hid (KC w W a n cap t9 b1 s0 (.slice (some ⟨gC, 0, none⟩) N cc) (.slice af M.length cf) (.slice none 0 0) dd L M [] wr.drew) := Lib.hid (K9.out.on (below_drewN (Below.refl _ _) 1))
        refine AnyL.begin (S := fun w' => ∀ q, q < N → w'.cell? ⟨gC, q * 8, none⟩ = some (.int .i64 (L.getD q cls0).i)) (T := fun w' => w'.cell? ⟨b1, 0, none⟩ = some (.string s0) ∧ w'.cell? ⟨b1, 1, none⟩ = some (.slice (some ⟨gC, 0, none⟩) N cc) ∧ w'.cell? ⟨b1, 2, none⟩ = some (.slice af M.length cf) ∧ w'.cell? ⟨b1, 3, none⟩ = some (.int .i64 dd)) (b := 17) (by kernel_rfl) ?_
        obtain ⟨u0, hu0⟩ : ∃ u0, wr.drew = u0 := ⟨_, rfl⟩
        rw [hu0] at KDd ⊢
        clear hu0
        have hB := And.intro (HS1.out _ _ _ _ _ _ KDd.out) (HT1.out _ _ _ _ KDd.out)
        refine AnyL.tS (i := 0) (d := 188) (v := ?_) rfl rfl (by kernel_rfl) (by kernel_rfl) (by kernel_rfl) (by decide) (fun _ _ _ h => h) (by rfl) ?_ (by assumption) ?_
        rotate_left
        · intro w' hSw
          (try dsimp only at hSw)
          go_simp
          try with_reducible rfl
        try simp only [Act.put, List.setIfInBounds_toArray, List.set_cons_zero, List.set_cons_succ]
        refine AnyL.tT (i := 1) (d := 189) (v := ?_) rfl rfl (by kernel_rfl) (by kernel_rfl) (by kernel_rfl) (by decide) (by kernel_rfl) (by kernel_rfl) (fun _ _ _ h => h) (by rfl) ?_ (by assumption) ?_
        rotate_left
        · intro w' hSw
          (try dsimp only at hSw)
          go_simp
          try with_reducible rfl
        try simp only [Act.put, List.setIfInBounds_toArray, List.set_cons_zero, List.set_cons_succ]
        refine AnyL.tS (i := 2) (d := 190) (v := ?_) rfl rfl (by kernel_rfl) (by kernel_rfl) (by kernel_rfl) (by decide) (fun _ _ _ h => h) (by rfl) ?_ (by assumption) ?_
        rotate_left
        · intro w' hSw
          (try dsimp only at hSw)
          go_simp
          try with_reducible rfl
        try simp only [Act.put, List.setIfInBounds_toArray, List.set_cons_zero, List.set_cons_succ]
        refine AnyL.tS (i := 3) (d := 191) (v := ?_) rfl rfl (by kernel_rfl) (by kernel_rfl) (by kernel_rfl) (by decide) (fun _ _ _ h => h) (by rfl) ?_ (by assumption) ?_
        rotate_left
        · intro w' hSw
          (try dsimp only at hSw)
          go_simp
          try with_reducible rfl
        try simp only [Act.put, List.setIfInBounds_toArray, List.set_cons_zero, List.set_cons_succ]
        refine AnyL.tS (i := 4) (d := 192) (v := ?_) rfl rfl (by kernel_rfl) (by kernel_rfl) (by kernel_rfl) (by decide) (fun _ _ _ h => h) (by rfl) ?_ (by assumption) ?_
        rotate_left
        · intro w' hSw
          (try dsimp only at hSw)
          go_simp
          try with_reducible rfl
        try simp only [Act.put, List.setIfInBounds_toArray, List.set_cons_zero, List.set_cons_succ]
        refine AnyL.tT (i := 5) (d := 193) (v := ?_) rfl rfl (by kernel_rfl) (by kernel_rfl) (by kernel_rfl) (by decide) (by kernel_rfl) (by kernel_rfl) (fun _ _ _ h => h) (by rfl) ?_ (by assumption) ?_
        rotate_left
        · intro w' hSw
          (try dsimp only at hSw)
          go_simp
          try with_reducible rfl
        try simp only [Act.put, List.setIfInBounds_toArray, List.set_cons_zero, List.set_cons_succ]
        refine AnyL.tT (i := 6) (d := 194) (v := ?_) rfl rfl (by kernel_rfl) (by kernel_rfl) (by kernel_rfl) (by decide) (by kernel_rfl) (by kernel_rfl) (fun _ _ _ h => h) (by rfl) ?_ (by assumption) ?_
        rotate_left
        · intro w' hSw
          (try dsimp only at hSw)
          go_simp
          try with_reducible rfl
        try simp only [Act.put, List.setIfInBounds_toArray, List.set_cons_zero, List.set_cons_succ]
        refine AnyL.ready (rs := [7]) (by kernel_rfl) (by simp) ?_
        refine (AllL.consN rfl (fun K' hK => ?_) AllL.nil)
        go_simp
        go_at_call 76
        refine (cfLeaves_any s0 (some ⟨gC, 0, none⟩) af N cc M.length cf dd L u0 (Lib.hid (own_inx (len_row KDd.out.C HN.out))) HN (by omega)).mono ?_
        rintro e u1 ⟨vl, rfl, o8, b8⟩
        have K1 := Lib.hid (KDd.out.newl b8 o8)
        obtain ⟨gl, cl, rfl, _, _⟩ := own_pos o8 HLV.out
        clear o8 b8
        refine hK.out _ _ ⟨HS1.out _ _ _ _ _ _ K1.out, HT1.out _ _ _ _ K1.out⟩ (fun hB => ?_)
        clear hK K'
        try simp only [Act.put, List.setIfInBounds_toArray, List.set_cons_zero, List.set_cons_succ]
        have hx := own_nat K1.out.l 0 HLV.out
        have hpN : (leaves L).getD 0 0 < N := by have := leaf_lt L 0 HLV.out; have := HN.out; omega
        have hl0 := HLV.out
        generalize (leaves L).getD 0 0 = p2 at hx hpN
        obtain ⟨zi, hzi⟩ : ∃ z, (L.getD p2 cls0).i = z := ⟨_, rfl⟩
        refine AnyL.tS (i := 8) (d := 196) (v := ?_) rfl rfl (by kernel_rfl) (by kernel_rfl) (by kernel_rfl) (by decide) (fun _ _ _ h => h) (by rfl) ?_ (by assumption) ?_
        rotate_left
        · intro w' hSw
          (try dsimp only at hSw)
          go_simp
          try with_reducible rfl
        try simp only [Act.put, List.setIfInBounds_toArray, List.set_cons_zero, List.set_cons_succ]
        refine AnyL.ready (rs := [9]) (by kernel_rfl) (by simp) ?_
        refine (AllL.consN rfl (fun K' hK => ?_) AllL.nil)
        go_simp
        refine hK.out _ _ ⟨HS1.out _ _ _ _ _ _ K1.out, HT1.out _ _ _ _ K1.out⟩ (fun hB => ?_)
        clear hK K' hx
        try simp only [Act.put, List.setIfInBounds_toArray, List.set_cons_zero, List.set_cons_succ]
        refine AnyL.tS (i := 10) (d := 198) (v := ?_) rfl rfl (by kernel_rfl) (by kernel_rfl) (by kernel_rfl) (by decide) (fun _ _ _ h => h) (by rfl) ?_ (by assumption) ?_
        rotate_left
        · intro w' hSw
          (try dsimp only at hSw)
          go_simp
          try with_reducible rfl
        try simp only [Act.put, List.setIfInBounds_toArray, List.set_cons_zero, List.set_cons_succ]
        refine AnyL.tS (i := 11) (d := 199) (v := ?_) rfl rfl (by kernel_rfl) (by kernel_rfl) (by kernel_rfl) (by decide) (fun _ _ _ h => h) (by rfl) ?_ (by assumption) ?_
        rotate_left
        · intro w' hSw
          (try dsimp only at hSw)
          go_simp
          try with_reducible rfl
        try simp only [Act.put, List.setIfInBounds_toArray, List.set_cons_zero, List.set_cons_succ]
        refine AnyL.tS (i := 12) (d := 200) (v := ?_) rfl rfl (by kernel_rfl) (by kernel_rfl) (by kernel_rfl) (by decide) (fun _ _ _ h => h) (by rfl) ?_ (by assumption) ?_
        rotate_left
        · intro w' hSw
          (try dsimp only at hSw)
          have hy := hSw p2 hpN
          rw [hzi] at hy
          clear hSw
          go_simp
          try with_reducible rfl
        try simp only [Act.put, List.setIfInBounds_toArray, List.set_cons_zero, List.set_cons_succ]
        refine AnyL.tS (i := 13) (d := 201) (v := ?_) rfl rfl (by kernel_rfl) (by kernel_rfl) (by kernel_rfl) (by decide) (fun _ _ _ h => h) (by rfl) ?_ (by assumption) ?_
        rotate_left
        · intro w' hSw
          (try dsimp only at hSw)
          go_simp
          try with_reducible rfl
        try simp only [Act.put, List.setIfInBounds_toArray, List.set_cons_zero, List.set_cons_succ]
        refine AnyL.ready (rs := [14]) (by kernel_rfl) (by simp) ?_
        refine (AllL.consN rfl (fun K' hK => ?_) AllL.nil)
        go_simp
        have KA := Lib.hid (fun y : Flt => K1.out.on (one_new2 u1 (.cells #[.int .i64 y.o, .int .i64 y.f, .int .i64 y.m, .int .i64 y.v, .int .i64 y.t] 82)))
        refine hK.out _ _ ⟨HS1.out _ _ _ _ _ _ (KA.out ⟨_, 0, 0, 0, zi⟩), HT1.out _ _ _ _ (KA.out ⟨_, 0, 0, 0, zi⟩)⟩ (fun hB => ?_)
        clear hK K'
        try simp only [Act.put, List.setIfInBounds_toArray, List.set_cons_zero, List.set_cons_succ]
        refine AnyL.ready (rs := [15]) (by kernel_rfl) (by simp) ?_
        refine (AllL.consN rfl (fun K' hK => ?_) AllL.nil)
        refine step_append_src _ rfl (.tmp 189) (.tmp 202) 24 rfl (W.heap.size + 1) 82 i0 (.agg #[.int .i64 0, .int .i64 0, .int .i64 0, .int .i64 0, .int .i64 0]) 5 40 Tryz.underlying24 hi hz0 hz1 hz2 rfl (by decide) (.slice af M.length cf) M.length (fltCs M) (by rfl) (KA.out ⟨_, 0, 0, 0, zi⟩).F 0 (.slice (some ⟨u1.heap.size, 0, none⟩) 1 1) 1 (fltC ⟨_, 0, 0, 0, zi⟩) (by rfl) (lit_flt u1 0 (Nat.zero_le _) ⟨_, 0, 0, 0, zi⟩) (fltC_one _) (by unfold maxLen; omega) (by omega) (Nat.le_trans (Nat.succ_le_of_lt (KA.out ⟨_, 0, 0, 0, zi⟩).zer.1.2.2.2.2) (Nat.le_refl _)) ?_
        intro vF2 u6 hown hgrow hat
        obtain ⟨aF2, cF2, rfl, _⟩ := own_in hown
        obtain ⟨m1, m2, m3, m4⟩ := (KA.out ⟨_, 0, 0, 0, zi⟩).mid hw hgrow
        have KN := Lib.hid ((KA.out ⟨_, 0, 0, 0, zi⟩).appF hw ⟨_, 0, 0, 0, zi⟩ hgrow hown hat)
        clear hown hgrow hat
        refine hK.out _ _ ⟨fun q hq => (own_eight (len_row m3 HN.out) q (by have := HN.out; omega)).1, m1.1, m1.2.1, m1.2.2.1, m1.2.2.2.1⟩ (fun hB => ?_)
        clear hK K'
        try simp only [Act.put, List.setIfInBounds_toArray, List.set_cons_zero, List.set_cons_succ]
        obtain ⟨g0, g1, g2, g3, g4⟩ := m1
        have fz := m2 2
        refine AnyL.tS (i := 16) (d := 204) (v := ?_) rfl rfl (by kernel_rfl) (by kernel_rfl) (by kernel_rfl) (by decide) (fun _ _ _ h => h) (by rfl) ?_ (by assumption) ?_
        rotate_left
        · intro w' hSw
          (try dsimp only at hSw)
          go_simp
          try with_reducible rfl
        try simp only [Act.put, List.setIfInBounds_toArray, List.set_cons_zero, List.set_cons_succ]
        refine AnyL.ready (rs := [17]) (by kernel_rfl) (by simp) ?_
        refine (AllL.consB rfl (by kernel_rfl) (fun K' hK => ?_) AllL.nil)
        go_simp
        refine hK.out _ _ (HS1.out _ _ _ _ _ _ KN.out) ?_
        clear hK K'
        try simp only [Act.put, List.setIfInBounds_toArray, List.set_cons_zero, List.set_cons_succ]
        refine AnyL.done (by kernel_rfl) ?_ _
        go_wp2_with fail
        go_roundw
        case rel => exact ⟨_, _, t9, by simp, by simp; try omega, ht9, KN.out.forget⟩
        case measure => simp [intOf]; omega
      · have hlti : ¬ (M.length : Int) ≤ 16 := by omega
        go_wp2_with fail
        have hJo := hJ.out
        go_meet
        exact ⟨trivial, s0, _, _, dd, L, M, t9, K9.out, hmax.2.1, hM17, hmax.2.2, by omega⟩
end Go.Proofs.YthgbhnedfdnfpaaGreatDoor

/- What a law draws of configurations: any configuration, mostly a valid one: one class more than there can be, or one level more. -/
namespace Go.Proofs.YthgbhnedfdnfpaaGreatDoor
set_option maxRecDepth 100000
open Go.RowKit
set_option linter.unusedVariables false
set_option linter.unusedSimpArgs false
set_option maxRecDepth 100000

set_option maxHeartbeats 12800000 in
theorem any_14 {code : Code} (hcode : (Tryz.f42.body).bind (blk 0) = some code) {w W v4 : World} {a : Option Addr} {n cap t t1 t3 t4 N b1 p gC cc cf : Nat} {zs : List Int} {af : Option Addr} {s0 : ByteArray} {L : List Cls} {M : List Flt} {dd r : Int}
    (HD : Hid (Dr w W a n cap zs t)) (HL : Hid (zs.length = n)) (hn : n ≤ 9223372036854775807) (ht : t ≤ 700000) (ht1 : t1 ≤ t + 1000) (ht3 : t3 ≤ t1 + 2) (ht4 : t4 ≤ t3 + 2) (hf16 : M.length ≤ 16) (hs8 : s0.size ≤ 8) (HLV : Hid (0 < (leaves L).length)) (HN : Hid (L.length = N)) (hc24 : N ≤ 24) (hc1 : 1 ≤ N) (hp : p < N)
    (K4 : Hid (KC w W a n cap t4 b1 s0 (.slice (some ⟨gC, 0, none⟩) N cc) (.slice af M.length cf) (.slice none 0 0) dd L M [] v4)) (hr : r = 14)
    {s1 s5 s6 s7 s8 s9 s10 s11 s12 s13 s14 s15 s16 s17 s18 s19 s20 s21 s22 s24 s25 s26 s27 s28 s29 s30 s31 s32 s33 s34 s35 s36 s37 s38 s39 s40 s41 s42 s43 s44 s45 s46 s47 s48 s49 s50 s51 s52 s53 s54 s55 s56 s57 s58 s59 s60 s61 s62 s63 s64 s65 s66 s67 s68 s69 s70 s71 s72 s73 s74 s75 s76 s77 s78 s79 s80 s81 s82 s83 s84 s85 s86 s87 s88 s89 s90 s91 s92 s93 s94 s95 s96 s97 s98 s99 s100 s101 s102 s103 s104 s105 s106 s107 s108 s109 s110 s111 s112 s113 s114 s115 s116 s117 s118 s119 s120 s121 s122 s123 s124 s125 s126 s127 s128 s129 s130 s131 s132 s133 s134 s135 s136 s137 s138 s139 s140 s141 s142 s143 s144 s145 s146 s147 s148 s149 s150 s151 s152 s153 s154 s155 s156 s157 s158 s159 s160 s161 s162 s163 s164 s165 s166 s167 s168 s169 s170 s171 s172 s173 s174 s175 s176 s177 s178 s179 s180 s181 s182 s183 s184 s185 s186 s187 s188 s189 s190 s191 s192 s193 s194 s195 s196 s197 s198 s199 s200 s201 s202 s203 s204 s205 s206 s207 s208 s209 s210 s211 s212 s213 s214 s215 s216 s217 s218 s219 s220 s221 s222 s223 s224 s225 s226 s227 s228 s229 s230 s231 s232 s233 s234 s235 s236 s237 s238 s239 s240 s241 s242 s243 s244 s245 s246 s247 s248 s249 s250 s251 : Value} {J K' : Act → World → Prop}
    (hJ : Hid (∀ a' w', AnyEnd w W a n cap (t1 + 60) b1 s1 s251 a' w' → J a' w')) (hK : ∀ a' w', Met J a' w' → K' a' w') :
    Code.wp Tryz.prog code (Exit.then K' (bodyPost Tryz.prog Tryz.f42 (DrAny w W a n cap zs t 1100 25 17))) ⟨#[.pointer (some ⟨w.heap.size, 0, none⟩), s1, .pointer (some ⟨W.heap.size, 0, none⟩), .pointer (some ⟨b1, 0, none⟩), .pointer (some ⟨gC, p * 8, none⟩), s5, s6, s7, s8, s9, s10, s11, s12, s13, s14, s15, s16, s17, s18, s19, s20, s21, s22, .int .i64 r, s24, s25, s26, s27, s28, s29, s30, s31, s32, s33, s34, s35, s36, s37, s38, s39, s40, s41, s42, s43, s44, s45, s46, s47, s48, s49, s50, s51, s52, s53, s54, s55, s56, s57, s58, s59, s60, s61, s62, s63, s64, s65, s66, s67, s68, s69, s70, s71, s72, s73, s74, s75, s76, s77, s78, s79, s80, s81, s82, s83, s84, s85, s86, s87, s88, s89, s90, s91, s92, s93, s94, s95, s96, s97, s98, s99, s100, s101, s102, s103, s104, s105, s106, s107, s108, s109, s110, s111, s112, s113, s114, s115, s116, s117, s118, s119, s120, s121, s122, s123, s124, s125, s126, s127, s128, s129, s130, s131, s132, s133, s134, s135, s136, s137, s138, s139, s140, s141, s142, s143, s144, s145, s146, s147, s148, s149, s150, s151, s152, s153, s154, s155, s156, s157, s158, s159, s160, s161, s162, s163, s164, s165, s166, s167, s168, s169, s170, s171, s172, s173, s174, s175, s176, s177, s178, s179, s180, s181, s182, s183, s184, s185, s186, s187, s188, s189, s190, s191, s192, s193, s194, s195, s196, s197, s198, s199, s200, s201, s202, s203, s204, s205, s206, s207, s208, s209, s210, s211, s212, s213, s214, s215, s216, s217, s218, s219, s220, s221, s222, s223, s224, s225, s226, s227, s228, s229, s230, s231, s232, s233, s234, s235, s236, s237, s238, s239, s240, s241, s242, s243, s244, s245, s246, s247, s248, s249, s250, s251], []⟩ v4 := by
  obtain rfl := Option.some.inj ((show (Tryz.f42.body).bind (blk 0) = some _ from rfl).symm.trans hcode)
  clear hcode
  obtain ⟨i0, hi, hz0, hz1, hz2⟩ := info_parts infoFlt
  obtain ⟨j0, hj0, hw0, hw1, hw2⟩ := info_parts infoCls
  have hw : w.heap.size < W.heap.size := HD.out.cur.lt
  have D4 := Lib.hid (K4.out.dr HD.out)
  have hpL : p < L.length := by have := HN.out; omega
  obtain ⟨e0, e1, e2, e3, e4⟩ := K4.out.box
  obtain ⟨x0, x1, x2, x3, x4, x5, x6, x7⟩ := own_eight (len_row K4.out.C HN.out) p hpL
  have fb := K4.out.fro
  have hsz4 := K4.out.bar.size
  have hmax : M.length ≤ 17 ∧ L.length ≤ 25 ∧ s0.size ≤ 9 := by have := HN.out; omega
  subst hr
  have f0 := fb 0
  have f1 := fb 1
  have f2 := fb 2
  have f3 := fb 3
  have KR := Lib.hid (K4.out.reset hw ⟨#[97]⟩)
  go_upto_region 48 with fail
  obtain ⟨wz, hwz⟩ : ∃ u, (((v4.setCell ⟨b1, 0, none⟩ (.string ⟨#[97]⟩)).setCell ⟨b1, 1, none⟩ (.slice none 0 0)).setCell ⟨b1, 2, none⟩ (.slice none 0 0)).setCell ⟨b1, 3, none⟩ (.int .i64 0) = u := ⟨_, rfl⟩
  rw [hwz] at KR ⊢
  clear hwz f0 f1 f2 f3 e0 e1 e2 e3 e4 fb x0 x1 x2 x3 x4 x5 x6 x7 D4 K4
  have DR := Lib.hid (KR.out.dr HD.out)
  go_upto_if 213 with (first | (go_at_call 73; (with_reducible refine (dr_pick1 2 (by omega) (by omega) DR HL hn (by omega)).mono ?_); rintro e v5 ⟨r5, t5, rfl, ⟨r50, r51⟩, ht5, d5, o5⟩; have K5 := Lib.hid (KR.out.only hw d5.cur o5); have D5 := Lib.hid d5; clear d5 o5) | (go_at_call 77; (with_reducible refine (dr_one 2 (by omega) (by omega) D5 HL hn (by omega)).mono ?_); rintro e v6 ⟨b6, t6, rfl, ht6, d6, o6⟩; have K6 := Lib.hid (K5.out.only hw d6.cur o6); have D6 := Lib.hid d6; clear d6 o6))
  obtain ⟨n5, rfl⟩ := Int.eq_ofNat_of_zero_le r50
  go_cut [8] from 214 to 216 (fun nv wx => ∃ (m t7 : Nat), nv = .int .i64 (m : Int) ∧ m ≤ 25 ∧ t7 ≤ t6 + 2 ∧ KC w W a n cap t7 b1 ⟨#[97]⟩ (.slice none 0 0) (.slice none 0 0) (.slice none 0 0) 0 [] [] [] wx)
  case first =>
    cases b6
    · go_wp2_with fail
      go_meet
      exact ⟨24 + n5, t6, by go_num, by omega, by omega, K6.out⟩
    · go_wp2_with (go_at_call 73; (with_reducible refine (dr_pick1 2 (by omega) (by omega) D6 HL hn (by omega)).mono ?_); rintro e v7 ⟨r7, t7, rfl, ⟨r70, r71⟩, ht7, d7, o7⟩; have K7 := Lib.hid (K6.out.only hw d7.cur o7); clear d7 o7)
      obtain ⟨n7, rfl⟩ := Int.eq_ofNat_of_zero_le r70
      go_meet
      exact ⟨8 + n7, t7, by go_num, by omega, ht7, K7.out⟩
  case rest =>
  obtain ⟨m, t7, rfl, hm25, ht7, hk7⟩ := hcut
  have K7 := Lib.hid hk7
  clear hk7 KR DR K5 D5 K6 D6
  go_wp2_with fail
  go_loopw [10] (fun iv wr => ∃ (L2 : List Cls) (vC : Value), iv = .int .i64 (L2.length : Nat) ∧ L2.length ≤ m ∧ KC w W a n cap t7 b1 ⟨#[97]⟩ vC (.slice none 0 0) (.slice none 0 0) 0 L2 [] [] wr) (fun iv _ => m - (intOf iv).toNat)
  case atStart => exact ⟨[], _, rfl, Nat.zero_le _, K7.out⟩
  case round =>
    focus
      obtain ⟨L2, vC, rfl, hLm, hk8⟩ := hrel
      obtain ⟨aC2, cC2, rfl, _⟩ := own_in hk8.C
      have K8 := Lib.hid hk8
      clear hk8 K7
      obtain ⟨k2, hk2⟩ : ∃ k, L2.length = k := ⟨_, rfl⟩
      have HK2 := Lib.hid hk2
      rw [hk2] at hLm ⊢
      clear hk2
      by_cases hlt : k2 < m
      · have hlti : (k2 : Int) < m := by omega
        go_upto_if 225 with fail
        obtain ⟨wy, hwy⟩ : ∃ u, wr.alloc (.cells #[.int .i64 ((k2 : Int) + 1), .int .i64 1, .int .i64 10, .int .i64 10, .int .i64 2000, .int .i64 2000, .int .i64 0, .int .i64 5] 41) = u := ⟨_, rfl⟩
        have Y0 : Hid (YBox wr wy ⟨(k2 : Int) + 1, 1, 10, 10, 2000, 2000, 0, 5⟩) := Lib.hid (by rw [← hwy]; exact YBox.new wr ⟨(k2 : Int) + 1, 1, 10, 10, 2000, 2000, 0, 5⟩)
        rw [hwy]
        clear hwy
        go_cut [225] from 226 to 227 (fun c wx => True ∧ ∃ y, YBox wr wx y)
        case first =>
          focus
            cases b6
            · go_wp2_with fail
              go_meet
              exact ⟨trivial, _, Y0.out⟩
            · obtain ⟨_, h1, _, _, _, _, _, _⟩ := Y0.out.2.1
              have fz := Y0.out.2.2.1 1
              go_wp2_with fail
              go_meet
              exact ⟨trivial, _, Y0.out.st 1 _ (eight_set Y0.out.2.1 _).1⟩
        case rest =>
        obtain ⟨_, y1, hy1⟩ := hcut
        have Y1 := Lib.hid hy1
        clear hy1 Y0
        go_upto_if 229 with fail
        go_cut [229] from 230 to 232 (fun c wx => True ∧ ∃ y, YBox wr wx y)
        case first =>
          focus
            obtain ⟨_, h1, h2, h3, _, _, _, _⟩ := Y1.out.2.1
            have fz1 := Y1.out.2.2.1 1
            have fz2 := Y1.out.2.2.1 2
            have fz3 := Y1.out.2.2.1 3
            by_cases hk0 : k2 = 0
            · have hkb : ((k2 : Int) == 0) = true := by simp; exact hk0
              go_wp2_with fail
              go_meet
              have A1 := Y1.out.st 1 (.int .i64 0) (eight_set Y1.out.2.1 0).1
              have A2 := A1.st 2 (.int .i64 1000) (eight_set A1.2.1 1000).2.1
              exact ⟨trivial, _, A2.st 3 (.int .i64 1000) (eight_set A2.2.1 1000).2.2.1⟩
            · have hkb : ((k2 : Int) == 0) = false := by simp; exact hk0
              go_wp2_with fail
              go_meet
              exact ⟨trivial, _, Y1.out⟩
        case rest =>
        obtain ⟨_, y2, hy2⟩ := hcut
        have Y2 := Lib.hid hy2
        clear hy2 Y1
        go_upto_region 61 with fail
        go_cut [243] from 233 to 243 (fun c wx => (∃ b, c = .bool b) ∧ wx = wc)
        case first =>
          focus
            rcases Bool.eq_false_or_eq_true ((k2 : Int) == 0) with hkb | hkb
            · go_wp2_with fail
              go_meet
              exact ⟨⟨_, rfl⟩, rfl⟩
            · cases b6
              · go_wp2_with fail
                go_meet
                exact ⟨⟨_, rfl⟩, rfl⟩
              · go_wp2_with fail
                go_meet
                exact ⟨⟨_, rfl⟩, rfl⟩
        case rest =>
        obtain ⟨⟨b9, rfl⟩, rfl⟩ := hcut
        go_upto_if 243 with fail
        go_cut [243] from 244 to 244 (fun c wx => True ∧ ∃ y, YBox wr wx y)
        case first =>
          focus
            obtain ⟨_, _, _, _, _, _, _, h7⟩ := Y2.out.2.1
            have fz7 := Y2.out.2.2.1 7
            cases b9
            · go_wp2_with fail
              go_meet
              exact ⟨trivial, _, Y2.out⟩
            · go_wp2_with fail
              go_meet
              exact ⟨trivial, _, Y2.out.st 7 _ (eight_set Y2.out.2.1 _).2.2.2⟩
        case rest =>
        obtain ⟨_, y3, hy3⟩ := hcut
        have Y3 := Lib.hid hy3
        clear hy3 Y2
        obtain ⟨yi, yp, yr, ye, yb, yu, yo, yl⟩ := y3
        obtain ⟨h0, h1, h2, h3, h4, h5, h6, h7⟩ := Y3.out.2.1
        simp only at h0 h1 h2 h3 h4 h5 h6 h7
        have KY := Lib.hid (K8.out.on Y3.out.1)
        obtain ⟨g0, g1, g2, g3, g4⟩ := KY.out.box
        have KA := Lib.hid (KY.out.on (one_new2 wc (.cells #[.int .i64 yi, .int .i64 yp, .int .i64 yr, .int .i64 ye, .int .i64 yb, .int .i64 yu, .int .i64 yo, .int .i64 yl] 41)))
        obtain ⟨i0', i1', i2', i3', i4'⟩ := KA.out.box
        go_wp2_with (at_builtin; refine wpList_append_own_at _ rfl _ _ 23 rfl (W.heap.size + 1) 41 j0 (.agg #[.int .i64 0, .int .i64 0, .int .i64 0, .int .i64 0, .int .i64 0, .int .i64 0, .int .i64 0, .int .i64 0]) 8 64 Tryz.underlying23 hj0 hw0 hw1 hw2 rfl (by decide) (.slice aC2 L2.length cC2) L2.length (clsCs L2) (by rfl) KA.out.C ⟨wc.heap.size, 0, none⟩ 1 1 (clsC ⟨yi, yp, yr, ye, yb, yu, yo, yl⟩) (by rfl) rfl (eight_cells wc ⟨yi, yp, yr, ye, yb, yu, yo, yl⟩ _) (clsC_one _) (by have := HK2.out; unfold maxLen; omega) (by have := HK2.out; omega) (Nat.succ_le_of_lt KA.out.zer.1.2.2.2.2) ?_; intro v' w9 hown hgrow _ hat; obtain ⟨ar, cr, rfl, _⟩ := own_in hown; have KN := Lib.hid (KA.out.appC hw ⟨yi, yp, yr, ye, yb, yu, yo, yl⟩ hgrow hown hat); have GR := KA.out.grown hw hgrow (fun k q => (World.ownsRow.lt KA.out.C k q).1) (fun q => KA.out.nC b1 q rfl); obtain ⟨_, _, _, ⟨j0', j1', j2', j3', j4'⟩, fx⟩ := GR; have fz := fx 1; clear hown hgrow hat)
        go_roundw
        case rel => exact ⟨_, _, by simp [HK2.out], by simp [HK2.out]; omega, KN.out⟩
        case measure => simp [intOf]; omega
      · have hlti : ¬ (k2 : Int) < m := by omega
        go_wp2_with fail
        have hJo := hJ.out
        go_meet
        exact ⟨trivial, ⟨#[97]⟩, _, _, 0, L2, [], t7, K8.out, by rw [HK2.out]; omega, by simp, by decide, by omega⟩
end Go.Proofs.YthgbhnedfdnfpaaGreatDoor
