import Derived.Test.YthgbhnedfdnfpaaDoorPkzd
import Derived.Deep.CutBlock
/- What a law draws of configurations: any configuration, mostly a valid one: one filter more than there can be. -/
namespace Go.Proofs.YthgbhnedfdnfpaaDoor
set_option maxRecDepth 100000
open Go.RowKit
set_option linter.unusedVariables false
set_option linter.unusedSimpArgs false
set_option maxRecDepth 100000

set_option maxHeartbeats 12800000 in
theorem any_13 {code : Code} (hcode : (Tryd.f35.body).bind (blk 0) = some code) {w W v4 : World} {a : Option Addr} {n cap t t1 t3 t4 N b1 p gC cc cf : Nat} {zs : List Int} {af : Option Addr} {s0 : ByteArray} {L : List Cls} {M : List Flt} {dd r : Int}
    (HD : Hid (Dr w W a n cap zs t)) (HL : Hid (zs.length = n)) (hn : n ≤ 9223372036854775807) (ht : t ≤ 700000) (ht1 : t1 ≤ t + 1000) (ht3 : t3 ≤ t1 + 2) (ht4 : t4 ≤ t3 + 2) (hf16 : M.length ≤ 16) (hs8 : s0.size ≤ 8) (HLV : Hid (0 < (leaves L).length)) (HN : Hid (L.length = N)) (hc24 : N ≤ 24) (hc1 : 1 ≤ N) (hp : p < N)
    (K4 : Hid (KC w W a n cap t4 b1 s0 (.slice (some ⟨gC, 0, none⟩) N cc) (.slice af M.length cf) (.slice none 0 0) dd L M [] v4)) (hr : r = 13)
    {s1 s5 s6 s7 s8 s9 s10 s11 s12 s13 s14 s15 s16 s17 s18 s19 s20 s21 s22 s24 s25 s26 s27 s28 s29 s30 s31 s32 s33 s34 s35 s36 s37 s38 s39 s40 s41 s42 s43 s44 s45 s46 s47 s48 s49 s50 s51 s52 s53 s54 s55 s56 s57 s58 s59 s60 s61 s62 s63 s64 s65 s66 s67 s68 s69 s70 s71 s72 s73 s74 s75 s76 s77 s78 s79 s80 s81 s82 s83 s84 s85 s86 s87 s88 s89 s90 s91 s92 s93 s94 s95 s96 s97 s98 s99 s100 s101 s102 s103 s104 s105 s106 s107 s108 s109 s110 s111 s112 s113 s114 s115 s116 s117 s118 s119 s120 s121 s122 s123 s124 s125 s126 s127 s128 s129 s130 s131 s132 s133 s134 s135 s136 s137 s138 s139 s140 s141 s142 s143 s144 s145 s146 s147 s148 s149 s150 s151 s152 s153 s154 s155 s156 s157 s158 s159 s160 s161 s162 s163 s164 s165 s166 s167 s168 s169 s170 s171 s172 s173 s174 s175 s176 s177 s178 s179 s180 s181 s182 s183 s184 s185 s186 s187 s188 s189 s190 s191 s192 s193 s194 s195 s196 s197 s198 s199 s200 s201 s202 s203 s204 s205 s206 s207 s208 s209 s210 s211 s212 s213 s214 s215 s216 s217 s218 s219 s220 s221 s222 s223 s224 s225 s226 s227 s228 s229 s230 s231 s232 s233 s234 s235 s236 s237 s238 s239 s240 s241 s242 s243 s244 s245 s246 s247 s248 s249 s250 s251 : Value} {J K' : Act → World → Prop}
    (hJ : Hid (∀ a' w', AnyEnd w W a n cap (t1 + 60) b1 s1 s251 a' w' → J a' w')) (hK : ∀ a' w', Met J a' w' → K' a' w') :
    Code.wp Tryd.prog code (Exit.then K' (bodyPost Tryd.prog Tryd.f35 (DrAny w W a n cap zs t 1100 25 17))) ⟨#[.pointer (some ⟨w.heap.size, 0, none⟩), s1, .pointer (some ⟨W.heap.size, 0, none⟩), .pointer (some ⟨b1, 0, none⟩), .pointer (some ⟨gC, p * 8, none⟩), s5, s6, s7, s8, s9, s10, s11, s12, s13, s14, s15, s16, s17, s18, s19, s20, s21, s22, .int .i64 r, s24, s25, s26, s27, s28, s29, s30, s31, s32, s33, s34, s35, s36, s37, s38, s39, s40, s41, s42, s43, s44, s45, s46, s47, s48, s49, s50, s51, s52, s53, s54, s55, s56, s57, s58, s59, s60, s61, s62, s63, s64, s65, s66, s67, s68, s69, s70, s71, s72, s73, s74, s75, s76, s77, s78, s79, s80, s81, s82, s83, s84, s85, s86, s87, s88, s89, s90, s91, s92, s93, s94, s95, s96, s97, s98, s99, s100, s101, s102, s103, s104, s105, s106, s107, s108, s109, s110, s111, s112, s113, s114, s115, s116, s117, s118, s119, s120, s121, s122, s123, s124, s125, s126, s127, s128, s129, s130, s131, s132, s133, s134, s135, s136, s137, s138, s139, s140, s141, s142, s143, s144, s145, s146, s147, s148, s149, s150, s151, s152, s153, s154, s155, s156, s157, s158, s159, s160, s161, s162, s163, s164, s165, s166, s167, s168, s169, s170, s171, s172, s173, s174, s175, s176, s177, s178, s179, s180, s181, s182, s183, s184, s185, s186, s187, s188, s189, s190, s191, s192, s193, s194, s195, s196, s197, s198, s199, s200, s201, s202, s203, s204, s205, s206, s207, s208, s209, s210, s211, s212, s213, s214, s215, s216, s217, s218, s219, s220, s221, s222, s223, s224, s225, s226, s227, s228, s229, s230, s231, s232, s233, s234, s235, s236, s237, s238, s239, s240, s241, s242, s243, s244, s245, s246, s247, s248, s249, s250, s251], []⟩ v4 := by
  obtain rfl := Option.some.inj ((show (Tryd.f35.body).bind (blk 0) = some _ from rfl).symm.trans hcode)
  clear hcode
  obtain ⟨i0, hi, hz0, hz1, hz2⟩ := info_parts infoFlt
  obtain ⟨j0, hj0, hw0, hw1, hw2⟩ := info_parts infoCls
  have hw : w.heap.size < W.heap.size := HD.out.cur.lt
  have D4 := Lib.hid (K4.out.dr HD.out)
  have hpL : p < L.length := by have := HN.out; omega
  obtain ⟨e0, e1, e2, e3, e4⟩ := K4.out.box
  obtain ⟨x0, x1, x2, x3, x4, x5, x6, x7⟩ := own_eight (len_row K4.out.C HN.out) p hpL
  have fb := K4.out.fro
  have hsz4 := K4.out.bar.size
  have hmax : M.length ≤ 17 ∧ L.length ≤ 25 ∧ s0.size ≤ 9 := by have := HN.out; omega
  subst hr
  go_wp2_with fail
  go_loopw [7] (fun kv wr => ∃ (M : List Flt) (vF : Value) (t9 : Nat), kv = .int .i64 (M.length : Nat) ∧ M.length ≤ 17 ∧ t9 ≤ t4 ∧ KC w W a n cap t9 b1 s0 (.slice (some ⟨gC, 0, none⟩) N cc) vF (.slice none 0 0) dd L M [] wr) (fun kv _ => 17 - (intOf kv).toNat)
  case atStart => exact ⟨M, _, t4, rfl, hmax.1, Nat.le_refl _, K4.out⟩
  case round =>
    focus
      obtain ⟨M, vF, t9, rfl, hM17, ht9, hk9⟩ := hrel
      obtain ⟨af, cf, rfl, _⟩ := own_in hk9.F
      have K9 := Lib.hid hk9
      clear hk9 K4 D4 e0 e1 e2 e3 e4 fb x0 x1 x2 x3 x4 x5 x6 x7
      by_cases hlt : M.length ≤ 16
      · have hlti : (M.length : Int) ≤ 16 := by omega
        go_upto_region 45 with fail
        have HS1 : Hid (∀ t' vF' vl' M' K' w', KC w W a n cap t' b1 s0 (.slice (some ⟨gC, 0, none⟩) N cc) vF' vl' dd L M' K' w' → (∀ q, q < N → w'.cell? ⟨gC, q * 8, none⟩ = some (.int .i64 (L.getD q cls0).i))) := Lib.hid (fun t' vF' vl' M' K' w' h q hq => (own_eight (len_row h.C HN.out) q (by have := HN.out; omega)).1)
        have HT1 : Hid (∀ t' vl' K' w', KC w W a n cap t' b1 s0 (.slice (some ⟨gC, 0, none⟩) N cc) (.slice af M.length cf) vl' dd L M K' w' → (w'.cell? ⟨b1, 0, none⟩ = some (.string s0) ∧ w'.cell? ⟨b1, 1, none⟩ = some (.slice (some ⟨gC, 0, none⟩) N cc) ∧ w'.cell? ⟨b1, 2, none⟩ = some (.slice af M.length cf) ∧ w'.cell? ⟨b1, 3, none⟩ = some (.int .i64 dd))) := Lib.hid (fun t' vl' K' w' h => ⟨h.box.1, h.box.2.1, h.box.2.2.1, h.box.2.2.2.1⟩)
        have KDd : Hid (KC w W a n cap t9 b1 s0 (.slice (some ⟨gC, 0, none⟩) N cc) (.slice af M.length cf) (.slice none 0 0) dd L M [] wr.drew) := Lib.hid (K9.out.on (below_drewN (Below.refl _ _) 1))
        refine AnyL.begin (S := fun w' => ∀ q, q < N → w'.cell? ⟨gC, q * 8, none⟩ = some (.int .i64 (L.getD q cls0).i)) (T := fun w' => w'.cell? ⟨b1, 0, none⟩ = some (.string s0) ∧ w'.cell? ⟨b1, 1, none⟩ = some (.slice (some ⟨gC, 0, none⟩) N cc) ∧ w'.cell? ⟨b1, 2, none⟩ = some (.slice af M.length cf) ∧ w'.cell? ⟨b1, 3, none⟩ = some (.int .i64 dd)) (b := 17) (by kernel_rfl) ?_
        obtain ⟨u0, hu0⟩ : ∃ u0, wr.drew = u0 := ⟨_, rfl⟩
        rw [hu0] at KDd ⊢
        clear hu0
        have hB := And.intro (HS1.out _ _ _ _ _ _ KDd.out) (HT1.out _ _ _ _ KDd.out)
        refine AnyL.tS (i := 0) (d := 188) (v := ?_) rfl rfl (by kernel_rfl) (by kernel_rfl) (by kernel_rfl) (by decide) (fun _ _ _ h => h) (by rfl) ?_ (by assumption) ?_
        rotate_left
        · intro w' hSw
          (try dsimp only at hSw)
          go_simp
          try with_reducible rfl
        try simp only [Act.put, List.setIfInBounds_toArray, List.set_cons_zero, List.set_cons_succ]
        refine AnyL.tT (i := 1) (d := 189) (v := ?_) rfl rfl (by kernel_rfl) (by kernel_rfl) (by kernel_rfl) (by decide) (by kernel_rfl) (by kernel_rfl) (fun _ _ _ h => h) (by rfl) ?_ (by assumption) ?_
        rotate_left
        · intro w' hSw
          (try dsimp only at hSw)
          go_simp
          try with_reducible rfl
        try simp only [Act.put, List.setIfInBounds_toArray, List.set_cons_zero, List.set_cons_succ]
        refine AnyL.tS (i := 2) (d := 190) (v := ?_) rfl rfl (by kernel_rfl) (by kernel_rfl) (by kernel_rfl) (by decide) (fun _ _ _ h => h) (by rfl) ?_ (by assumption) ?_
        rotate_left
        · intro w' hSw
          (try dsimp only at hSw)
          go_simp
          try with_reducible rfl
        try simp only [Act.put, List.setIfInBounds_toArray, List.set_cons_zero, List.set_cons_succ]
        refine AnyL.tS (i := 3) (d := 191) (v := ?_) rfl rfl (by kernel_rfl) (by kernel_rfl) (by kernel_rfl) (by decide) (fun _ _ _ h => h) (by rfl) ?_ (by assumption) ?_
        rotate_left
        · intro w' hSw
          (try dsimp only at hSw)
          go_simp
          try with_reducible rfl
        try simp only [Act.put, List.setIfInBounds_toArray, List.set_cons_zero, List.set_cons_succ]
        refine AnyL.tS (i := 4) (d := 192) (v := ?_) rfl rfl (by kernel_rfl) (by kernel_rfl) (by kernel_rfl) (by decide) (fun _ _ _ h => h) (by rfl) ?_ (by assumption) ?_
        rotate_left
        · intro w' hSw
          (try dsimp only at hSw)
          go_simp
          try with_reducible rfl
        try simp only [Act.put, List.setIfInBounds_toArray, List.set_cons_zero, List.set_cons_succ]
        refine AnyL.tT (i := 5) (d := 193) (v := ?_) rfl rfl (by kernel_rfl) (by kernel_rfl) (by kernel_rfl) (by decide) (by kernel_rfl) (by kernel_rfl) (fun _ _ _ h => h) (by rfl) ?_ (by assumption) ?_
        rotate_left
        · intro w' hSw
          (try dsimp only at hSw)
          go_simp
          try with_reducible rfl
        try simp only [Act.put, List.setIfInBounds_toArray, List.set_cons_zero, List.set_cons_succ]
        refine AnyL.tT (i := 6) (d := 194) (v := ?_) rfl rfl (by kernel_rfl) (by kernel_rfl) (by kernel_rfl) (by decide) (by kernel_rfl) (by kernel_rfl) (fun _ _ _ h => h) (by rfl) ?_ (by assumption) ?_
        rotate_left
        · intro w' hSw
          (try dsimp only at hSw)
          go_simp
          try with_reducible rfl
        try simp only [Act.put, List.setIfInBounds_toArray, List.set_cons_zero, List.set_cons_succ]
        refine AnyL.ready (rs := [7]) (by kernel_rfl) (by simp) ?_
        refine (AllL.consN rfl (fun K' hK => ?_) AllL.nil)
        go_simp
        go_at_call 32
        refine (cfLeaves_any s0 (some ⟨gC, 0, none⟩) af N cc M.length cf dd L u0 (Lib.hid (own_inx (len_row KDd.out.C HN.out))) HN (by omega)).mono ?_
        rintro e u1 ⟨vl, rfl, o8, b8⟩
        have K1 := Lib.hid (KDd.out.newl b8 o8)
        obtain ⟨gl, cl, rfl, _, _⟩ := own_pos o8 HLV.out
        clear o8 b8
        refine hK.out _ _ ⟨HS1.out _ _ _ _ _ _ K1.out, HT1.out _ _ _ _ K1.out⟩ (fun hB => ?_)
        clear hK K'
        try simp only [Act.put, List.setIfInBounds_toArray, List.set_cons_zero, List.set_cons_succ]
        have hx := own_nat K1.out.l 0 HLV.out
        have hpN : (leaves L).getD 0 0 < N := by have := leaf_lt L 0 HLV.out; have := HN.out; omega
        have hl0 := HLV.out
        generalize (leaves L).getD 0 0 = p2 at hx hpN
        obtain ⟨zi, hzi⟩ : ∃ z, (L.getD p2 cls0).i = z := ⟨_, rfl⟩
        refine AnyL.tS (i := 8) (d := 196) (v := ?_) rfl rfl (by kernel_rfl) (by kernel_rfl) (by kernel_rfl) (by decide) (fun _ _ _ h => h) (by rfl) ?_ (by assumption) ?_
        rotate_left
        · intro w' hSw
          (try dsimp only at hSw)
          go_simp
          try with_reducible rfl
        try simp only [Act.put, List.setIfInBounds_toArray, List.set_cons_zero, List.set_cons_succ]
        refine AnyL.ready (rs := [9]) (by kernel_rfl) (by simp) ?_
        refine (AllL.consN rfl (fun K' hK => ?_) AllL.nil)
        go_simp
        refine hK.out _ _ ⟨HS1.out _ _ _ _ _ _ K1.out, HT1.out _ _ _ _ K1.out⟩ (fun hB => ?_)
        clear hK K' hx
        try simp only [Act.put, List.setIfInBounds_toArray, List.set_cons_zero, List.set_cons_succ]
        refine AnyL.tS (i := 10) (d := 198) (v := ?_) rfl rfl (by kernel_rfl) (by kernel_rfl) (by kernel_rfl) (by decide) (fun _ _ _ h => h) (by rfl) ?_ (by assumption) ?_
        rotate_left
        · intro w' hSw
          (try dsimp only at hSw)
          go_simp
          try with_reducible rfl
        try simp only [Act.put, List.setIfInBounds_toArray, List.set_cons_zero, List.set_cons_succ]
        refine AnyL.tS (i := 11) (d := 199) (v := ?_) rfl rfl (by kernel_rfl) (by kernel_rfl) (by kernel_rfl) (by decide) (fun _ _ _ h => h) (by rfl) ?_ (by assumption) ?_
        rotate_left
        · intro w' hSw
          (try dsimp only at hSw)
          go_simp
          try with_reducible rfl
        try simp only [Act.put, List.setIfInBounds_toArray, List.set_cons_zero, List.set_cons_succ]
        refine AnyL.tS (i := 12) (d := 200) (v := ?_) rfl rfl (by kernel_rfl) (by kernel_rfl) (by kernel_rfl) (by decide) (fun _ _ _ h => h) (by rfl) ?_ (by assumption) ?_
        rotate_left
        · intro w' hSw
          (try dsimp only at hSw)
          have hy := hSw p2 hpN
          rw [hzi] at hy
          clear hSw
          go_simp
          try with_reducible rfl
        try simp only [Act.put, List.setIfInBounds_toArray, List.set_cons_zero, List.set_cons_succ]
        refine AnyL.tS (i := 13) (d := 201) (v := ?_) rfl rfl (by kernel_rfl) (by kernel_rfl) (by kernel_rfl) (by decide) (fun _ _ _ h => h) (by rfl) ?_ (by assumption) ?_
        rotate_left
        · intro w' hSw
          (try dsimp only at hSw)
          go_simp
          try with_reducible rfl
        try simp only [Act.put, List.setIfInBounds_toArray, List.set_cons_zero, List.set_cons_succ]
        refine AnyL.ready (rs := [14]) (by kernel_rfl) (by simp) ?_
        refine (AllL.consN rfl (fun K' hK => ?_) AllL.nil)
        go_simp
        have KA := Lib.hid (fun y : Flt => K1.out.on (one_new2 u1 (.cells #[.int .i64 y.o, .int .i64 y.f, .int .i64 y.m, .int .i64 y.v, .int .i64 y.t] 77)))
        refine hK.out _ _ ⟨HS1.out _ _ _ _ _ _ (KA.out ⟨_, 0, 0, 0, zi⟩), HT1.out _ _ _ _ (KA.out ⟨_, 0, 0, 0, zi⟩)⟩ (fun hB => ?_)
        clear hK K'
        try simp only [Act.put, List.setIfInBounds_toArray, List.set_cons_zero, List.set_cons_succ]
        refine AnyL.ready (rs := [15]) (by kernel_rfl) (by simp) ?_
        refine (AllL.consN rfl (fun K' hK => ?_) AllL.nil)
        refine step_append_src _ rfl (.tmp 189) (.tmp 202) 24 rfl (W.heap.size + 1) 77 i0 (.agg #[.int .i64 0, .int .i64 0, .int .i64 0, .int .i64 0, .int .i64 0]) 5 40 Tryd.underlying24 hi hz0 hz1 hz2 rfl (by decide) (.slice af M.length cf) M.length (fltCs M) (by rfl) (KA.out ⟨_, 0, 0, 0, zi⟩).F 0 (.slice (some ⟨u1.heap.size, 0, none⟩) 1 1) 1 (fltC ⟨_, 0, 0, 0, zi⟩) (by rfl) (lit_flt u1 0 (Nat.zero_le _) ⟨_, 0, 0, 0, zi⟩) (fltC_one _) (by unfold maxLen; omega) (by omega) (Nat.le_trans (Nat.succ_le_of_lt (KA.out ⟨_, 0, 0, 0, zi⟩).zer.1.2.2.2.2) (Nat.le_refl _)) ?_
        intro vF2 u6 hown hgrow hat
        obtain ⟨aF2, cF2, rfl, _⟩ := own_in hown
        obtain ⟨m1, m2, m3, m4⟩ := (KA.out ⟨_, 0, 0, 0, zi⟩).mid hw hgrow
        have KN := Lib.hid ((KA.out ⟨_, 0, 0, 0, zi⟩).appF hw ⟨_, 0, 0, 0, zi⟩ hgrow hown hat)
        clear hown hgrow hat
        refine hK.out _ _ ⟨fun q hq => (own_eight (len_row m3 HN.out) q (by have := HN.out; omega)).1, m1.1, m1.2.1, m1.2.2.1, m1.2.2.2.1⟩ (fun hB => ?_)
        clear hK K'
        try simp only [Act.put, List.setIfInBounds_toArray, List.set_cons_zero, List.set_cons_succ]
        obtain ⟨g0, g1, g2, g3, g4⟩ := m1
        have fz := m2 2
        refine AnyL.tS (i := 16) (d := 204) (v := ?_) rfl rfl (by kernel_rfl) (by kernel_rfl) (by kernel_rfl) (by decide) (fun _ _ _ h => h) (by rfl) ?_ (by assumption) ?_
        rotate_left
        · intro w' hSw
          (try dsimp only at hSw)
          go_simp
          try with_reducible rfl
        try simp only [Act.put, List.setIfInBounds_toArray, List.set_cons_zero, List.set_cons_succ]
        refine AnyL.ready (rs := [17]) (by kernel_rfl) (by simp) ?_
        refine (AllL.consB rfl (by kernel_rfl) (fun K' hK => ?_) AllL.nil)
        go_simp
        refine hK.out _ _ (HS1.out _ _ _ _ _ _ KN.out) ?_
        clear hK K'
        try simp only [Act.put, List.setIfInBounds_toArray, List.set_cons_zero, List.set_cons_succ]
        refine AnyL.done (by kernel_rfl) ?_ _
        go_wp2_with fail
        go_roundw
        case rel => exact ⟨_, _, t9, by simp, by simp; try omega, ht9, KN.out.forget⟩
        case measure => simp [intOf]; omega
      · have hlti : ¬ (M.length : Int) ≤ 16 := by omega
        go_wp2_with fail
        have hJo := hJ.out
        go_meet
        exact ⟨trivial, s0, _, _, dd, L, M, t9, K9.out, hmax.2.1, hM17, hmax.2.2, by omega⟩
end Go.Proofs.YthgbhnedfdnfpaaDoor
