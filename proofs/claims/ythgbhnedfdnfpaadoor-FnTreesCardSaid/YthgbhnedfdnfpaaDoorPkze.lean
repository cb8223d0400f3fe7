import Derived.Test.YthgbhnedfdnfpaaDoorPkzd
import Derived.Deep.CutBlock
/- What a law draws of configurations: any configuration, mostly a valid one: its small changes. -/
namespace Go.Proofs.YthgbhnedfdnfpaaDoor
set_option maxRecDepth 100000
open Go.RowKit
set_option linter.unusedVariables false
set_option linter.unusedSimpArgs false
set_option maxRecDepth 100000

set_option maxHeartbeats 12800000 in
theorem any_small {code : Code} (hcode : (Tryd.f35.body).bind (blk 0) = some code) {w W v4 : World} {a : Option Addr} {n cap t t1 t3 t4 N b1 p gC cc cf : Nat} {zs : List Int} {af : Option Addr} {s0 : ByteArray} {L : List Cls} {M : List Flt} {dd r : Int}
    (HD : Hid (Dr w W a n cap zs t)) (HL : Hid (zs.length = n)) (hn : n ≤ 9223372036854775807) (ht : t ≤ 700000) (ht1 : t1 ≤ t + 1000) (ht3 : t3 ≤ t1 + 2) (ht4 : t4 ≤ t3 + 2) (hf16 : M.length ≤ 16) (hs8 : s0.size ≤ 8) (HLV : Hid (0 < (leaves L).length)) (HN : Hid (L.length = N)) (hc24 : N ≤ 24) (hc1 : 1 ≤ N) (hp : p < N)
    (K4 : Hid (KC w W a n cap t4 b1 s0 (.slice (some ⟨gC, 0, none⟩) N cc) (.slice af M.length cf) (.slice none 0 0) dd L M [] v4)) (hr : 0 ≤ r ∧ r ≤ 10)
    {s1 s5 s6 s7 s8 s9 s10 s11 s12 s13 s14 s15 s16 s17 s18 s19 s20 s21 s22 s24 s25 s26 s27 s28 s29 s30 s31 s32 s33 s34 s35 s36 s37 s38 s39 s40 s41 s42 s43 s44 s45 s46 s47 s48 s49 s50 s51 s52 s53 s54 s55 s56 s57 s58 s59 s60 s61 s62 s63 s64 s65 s66 s67 s68 s69 s70 s71 s72 s73 s74 s75 s76 s77 s78 s79 s80 s81 s82 s83 s84 s85 s86 s87 s88 s89 s90 s91 s92 s93 s94 s95 s96 s97 s98 s99 s100 s101 s102 s103 s104 s105 s106 s107 s108 s109 s110 s111 s112 s113 s114 s115 s116 s117 s118 s119 s120 s121 s122 s123 s124 s125 s126 s127 s128 s129 s130 s131 s132 s133 s134 s135 s136 s137 s138 s139 s140 s141 s142 s143 s144 s145 s146 s147 s148 s149 s150 s151 s152 s153 s154 s155 s156 s157 s158 s159 s160 s161 s162 s163 s164 s165 s166 s167 s168 s169 s170 s171 s172 s173 s174 s175 s176 s177 s178 s179 s180 s181 s182 s183 s184 s185 s186 s187 s188 s189 s190 s191 s192 s193 s194 s195 s196 s197 s198 s199 s200 s201 s202 s203 s204 s205 s206 s207 s208 s209 s210 s211 s212 s213 s214 s215 s216 s217 s218 s219 s220 s221 s222 s223 s224 s225 s226 s227 s228 s229 s230 s231 s232 s233 s234 s235 s236 s237 s238 s239 s240 s241 s242 s243 s244 s245 s246 s247 s248 s249 s250 s251 : Value} {J K' : Act → World → Prop}
    (hJ : Hid (∀ a' w', AnyEnd w W a n cap (t1 + 60) b1 s1 s251 a' w' → J a' w')) (hK : ∀ a' w', Met J a' w' → K' a' w') :
    Code.wp Tryd.prog code (Exit.then K' (bodyPost Tryd.prog Tryd.f35 (DrAny w W a n cap zs t 1100 25 17))) ⟨#[.pointer (some ⟨w.heap.size, 0, none⟩), s1, .pointer (some ⟨W.heap.size, 0, none⟩), .pointer (some ⟨b1, 0, none⟩), .pointer (some ⟨gC, p * 8, none⟩), s5, s6, s7, s8, s9, s10, s11, s12, s13, s14, s15, s16, s17, s18, s19, s20, s21, s22, .int .i64 r, s24, s25, s26, s27, s28, s29, s30, s31, s32, s33, s34, s35, s36, s37, s38, s39, s40, s41, s42, s43, s44, s45, s46, s47, s48, s49, s50, s51, s52, s53, s54, s55, s56, s57, s58, s59, s60, s61, s62, s63, s64, s65, s66, s67, s68, s69, s70, s71, s72, s73, s74, s75, s76, s77, s78, s79, s80, s81, s82, s83, s84, s85, s86, s87, s88, s89, s90, s91, s92, s93, s94, s95, s96, s97, s98, s99, s100, s101, s102, s103, s104, s105, s106, s107, s108, s109, s110, s111, s112, s113, s114, s115, s116, s117, s118, s119, s120, s121, s122, s123, s124, s125, s126, s127, s128, s129, s130, s131, s132, s133, s134, s135, s136, s137, s138, s139, s140, s141, s142, s143, s144, s145, s146, s147, s148, s149, s150, s151, s152, s153, s154, s155, s156, s157, s158, s159, s160, s161, s162, s163, s164, s165, s166, s167, s168, s169, s170, s171, s172, s173, s174, s175, s176, s177, s178, s179, s180, s181, s182, s183, s184, s185, s186, s187, s188, s189, s190, s191, s192, s193, s194, s195, s196, s197, s198, s199, s200, s201, s202, s203, s204, s205, s206, s207, s208, s209, s210, s211, s212, s213, s214, s215, s216, s217, s218, s219, s220, s221, s222, s223, s224, s225, s226, s227, s228, s229, s230, s231, s232, s233, s234, s235, s236, s237, s238, s239, s240, s241, s242, s243, s244, s245, s246, s247, s248, s249, s250, s251], []⟩ v4 := by
  obtain rfl := Option.some.inj ((show (Tryd.f35.body).bind (blk 0) = some _ from rfl).symm.trans hcode)
  clear hcode
  obtain ⟨i0, hi, hz0, hz1, hz2⟩ := info_parts infoFlt
  obtain ⟨j0, hj0, hw0, hw1, hw2⟩ := info_parts infoCls
  have hw : w.heap.size < W.heap.size := HD.out.cur.lt
  have D4 := Lib.hid (K4.out.dr HD.out)
  have hpL : p < L.length := by have := HN.out; omega
  obtain ⟨e0, e1, e2, e3, e4⟩ := K4.out.box
  obtain ⟨x0, x1, x2, x3, x4, x5, x6, x7⟩ := own_eight (len_row K4.out.C HN.out) p hpL
  have fb := K4.out.fro
  have hsz4 := K4.out.bar.size
  have hmax : M.length ≤ 17 ∧ L.length ≤ 25 ∧ s0.size ≤ 9 := by have := HN.out; omega
  obtain rfl | rfl | rfl | rfl | rfl | rfl | rfl | rfl | rfl | rfl | rfl : r = 0 ∨ r = 1 ∨ r = 2 ∨ r = 3 ∨ r = 4 ∨ r = 5 ∨ r = 6 ∨ r = 7 ∨ r = 8 ∨ r = 9 ∨ r = 10 := by omega
  · go_wp2_with (go_at_call 58; (with_reducible refine (dr_ofL (m := 8) (M := 9) (t := t4) (zs := zs) (Lib.hid (strL_of v4 _ _ 8 9 (by decide))) (by omega) (by omega) (by omega) (Lib.hid (D4.out.alloc _)) HL hn (by omega)).mono ?_); rintro e v5 ⟨x, t5, rfl, hx9, ht5, d5, o5⟩; have K5 := Lib.hid ((K4.out.on (one_new2 v4 _)).only hw d5.cur o5); clear d5 o5; have fz := K5.out.fro 0; have y0 := K5.out.box.1)
    have hJo := hJ.out
    go_meet
    exact ⟨trivial, x, _, _, dd, L, M, t5, K5.out.setS hw x, hmax.2.1, hmax.1, hx9, by omega⟩
  · have fz := fb 1
    go_wp2_with fail
    have hJo := hJ.out
    go_meet
    exact ⟨trivial, s0, _, _, dd, [], M, t4, K4.out.setNil hw, by simp, hmax.1, hmax.2.2, by omega⟩
  · go_wp2_with (go_at_call 59; (with_reducible refine (dr_among (m := 5) (t := t4) (zs := zs) (ints_l5 v4 _ _ _ _ _ _) (by omega) (by omega) D4 HL hn (by omega)).mono ?_); rintro e v5 ⟨r5, t5, rfl, _, ht5, d5, o5⟩; have K5 := Lib.hid ((K4.out.on (one_new2 v4 _)).only hw d5.cur o5); clear d5 o5; have fz := World.ownsRow.frozenAt (len_row K5.out.C HN.out) (p * 8); obtain ⟨z0, z1, z2, z3, z4, z5, z6, z7⟩ := own_eight (len_row K5.out.C HN.out) p hpL)
    have hJo := hJ.out
    go_meet
    exact ⟨trivial, s0, _, _, dd, _, M, t5, K5.out.upd HN.out hw p 0 _ hpL (by decide), by rw [List.length_set]; exact hmax.2.1, hmax.1, hmax.2.2, by omega⟩
  · go_wp2_with (go_at_call 59; (with_reducible refine (dr_among (m := 5) (t := t4) (zs := zs) (ints_l5 v4 _ _ _ _ _ _) (by omega) (by omega) D4 HL hn (by omega)).mono ?_); rintro e v5 ⟨r5, t5, rfl, _, ht5, d5, o5⟩; have K5 := Lib.hid ((K4.out.on (one_new2 v4 _)).only hw d5.cur o5); clear d5 o5; have fz := World.ownsRow.frozenAt (len_row K5.out.C HN.out) (p * 8 + 1); obtain ⟨z0, z1, z2, z3, z4, z5, z6, z7⟩ := own_eight (len_row K5.out.C HN.out) p hpL)
    have hJo := hJ.out
    go_meet
    exact ⟨trivial, s0, _, _, dd, _, M, t5, K5.out.upd HN.out hw p 1 _ hpL (by decide), by rw [List.length_set]; exact hmax.2.1, hmax.1, hmax.2.2, by omega⟩
  · go_wp2_with (go_at_call 59; (with_reducible refine (dr_among (m := 5) (t := t4) (zs := zs) (ints_l5 v4 _ _ _ _ _ _) (by omega) (by omega) D4 HL hn (by omega)).mono ?_); rintro e v5 ⟨r5, t5, rfl, _, ht5, d5, o5⟩; have K5 := Lib.hid ((K4.out.on (one_new2 v4 _)).only hw d5.cur o5); clear d5 o5; have fz := World.ownsRow.frozenAt (len_row K5.out.C HN.out) (p * 8 + 2); obtain ⟨z0, z1, z2, z3, z4, z5, z6, z7⟩ := own_eight (len_row K5.out.C HN.out) p hpL)
    have hJo := hJ.out
    go_meet
    exact ⟨trivial, s0, _, _, dd, _, M, t5, K5.out.upd HN.out hw p 2 _ hpL (by decide), by rw [List.length_set]; exact hmax.2.1, hmax.1, hmax.2.2, by omega⟩
  · go_wp2_with (go_at_call 59; (with_reducible refine (dr_among (m := 3) (t := t4) (zs := zs) (ints_l3 v4 _ _ _ _) (by omega) (by omega) D4 HL hn (by omega)).mono ?_); rintro e v5 ⟨r5, t5, rfl, _, ht5, d5, o5⟩; have K5 := Lib.hid ((K4.out.on (one_new2 v4 _)).only hw d5.cur o5); clear d5 o5; have fz := World.ownsRow.frozenAt (len_row K5.out.C HN.out) (p * 8 + 3); obtain ⟨z0, z1, z2, z3, z4, z5, z6, z7⟩ := own_eight (len_row K5.out.C HN.out) p hpL)
    have hJo := hJ.out
    go_meet
    exact ⟨trivial, s0, _, _, dd, _, M, t5, K5.out.upd HN.out hw p 3 _ hpL (by decide), by rw [List.length_set]; exact hmax.2.1, hmax.1, hmax.2.2, by omega⟩
  · go_wp2_with (go_at_call 59; (with_reducible refine (dr_among (m := 4) (t := t4) (zs := zs) (ints_l4 v4 _ _ _ _ _) (by omega) (by omega) D4 HL hn (by omega)).mono ?_); rintro e v5 ⟨r5, t5, rfl, _, ht5, d5, o5⟩; have K5 := Lib.hid ((K4.out.on (one_new2 v4 _)).only hw d5.cur o5); clear d5 o5; have fz := World.ownsRow.frozenAt (len_row K5.out.C HN.out) (p * 8 + 4); obtain ⟨z0, z1, z2, z3, z4, z5, z6, z7⟩ := own_eight (len_row K5.out.C HN.out) p hpL)
    have hJo := hJ.out
    go_meet
    exact ⟨trivial, s0, _, _, dd, _, M, t5, K5.out.upd HN.out hw p 4 _ hpL (by decide), by rw [List.length_set]; exact hmax.2.1, hmax.1, hmax.2.2, by omega⟩
  · go_wp2_with (go_at_call 59; (with_reducible refine (dr_among (m := 4) (t := t4) (zs := zs) (ints_l4 v4 _ _ _ _ _) (by omega) (by omega) D4 HL hn (by omega)).mono ?_); rintro e v5 ⟨r5, t5, rfl, _, ht5, d5, o5⟩; have K5 := Lib.hid ((K4.out.on (one_new2 v4 _)).only hw d5.cur o5); clear d5 o5; have fz := World.ownsRow.frozenAt (len_row K5.out.C HN.out) (p * 8 + 5); obtain ⟨z0, z1, z2, z3, z4, z5, z6, z7⟩ := own_eight (len_row K5.out.C HN.out) p hpL)
    have hJo := hJ.out
    go_meet
    exact ⟨trivial, s0, _, _, dd, _, M, t5, K5.out.upd HN.out hw p 5 _ hpL (by decide), by rw [List.length_set]; exact hmax.2.1, hmax.1, hmax.2.2, by omega⟩
  · go_wp2_with (go_at_call 59; (with_reducible refine (dr_among (m := 3) (t := t4) (zs := zs) (ints_l3 v4 _ _ _ _) (by omega) (by omega) D4 HL hn (by omega)).mono ?_); rintro e v5 ⟨r5, t5, rfl, _, ht5, d5, o5⟩; have K5 := Lib.hid ((K4.out.on (one_new2 v4 _)).only hw d5.cur o5); clear d5 o5; have fz := World.ownsRow.frozenAt (len_row K5.out.C HN.out) (p * 8 + 6); obtain ⟨z0, z1, z2, z3, z4, z5, z6, z7⟩ := own_eight (len_row K5.out.C HN.out) p hpL)
    have hJo := hJ.out
    go_meet
    exact ⟨trivial, s0, _, _, dd, _, M, t5, K5.out.upd HN.out hw p 6 _ hpL (by decide), by rw [List.length_set]; exact hmax.2.1, hmax.1, hmax.2.2, by omega⟩
  · go_wp2_with (go_at_call 59; (with_reducible refine (dr_among (m := 5) (t := t4) (zs := zs) (ints_l5 v4 _ _ _ _ _ _) (by omega) (by omega) D4 HL hn (by omega)).mono ?_); rintro e v5 ⟨r5, t5, rfl, _, ht5, d5, o5⟩; have K5 := Lib.hid ((K4.out.on (one_new2 v4 _)).only hw d5.cur o5); clear d5 o5; have fz := World.ownsRow.frozenAt (len_row K5.out.C HN.out) (p * 8 + 7); obtain ⟨z0, z1, z2, z3, z4, z5, z6, z7⟩ := own_eight (len_row K5.out.C HN.out) p hpL)
    have hJo := hJ.out
    go_meet
    exact ⟨trivial, s0, _, _, dd, _, M, t5, K5.out.upd HN.out hw p 7 _ hpL (by decide), by rw [List.length_set]; exact hmax.2.1, hmax.1, hmax.2.2, by omega⟩
  · have fz := fb 3
    go_wp2_with (go_at_call 59; (with_reducible refine (dr_among (m := 4) (t := t4) (zs := zs) (ints_l4 v4 _ _ _ _ _) (by omega) (by omega) D4 HL hn (by omega)).mono ?_); rintro e v5 ⟨r5, t5, rfl, _, ht5, d5, o5⟩; have K5 := Lib.hid ((K4.out.on (one_new2 v4 _)).only hw d5.cur o5); clear d5 o5; have fz := K5.out.fro 3; have y3 := K5.out.box.2.2.2.1)
    have hJo := hJ.out
    go_meet
    exact ⟨trivial, s0, _, _, _, L, M, t5, K5.out.setD hw _, hmax.2.1, hmax.1, hmax.2.2, by omega⟩
set_option maxHeartbeats 12800000 in
theorem any_none {code : Code} (hcode : (Tryd.f35.body).bind (blk 0) = some code) {w W v4 : World} {a : Option Addr} {n cap t t1 t3 t4 N b1 p gC cc cf : Nat} {zs : List Int} {af : Option Addr} {s0 : ByteArray} {L : List Cls} {M : List Flt} {dd r : Int}
    (HD : Hid (Dr w W a n cap zs t)) (HL : Hid (zs.length = n)) (hn : n ≤ 9223372036854775807) (ht : t ≤ 700000) (ht1 : t1 ≤ t + 1000) (ht3 : t3 ≤ t1 + 2) (ht4 : t4 ≤ t3 + 2) (hf16 : M.length ≤ 16) (hs8 : s0.size ≤ 8) (HLV : Hid (0 < (leaves L).length)) (HN : Hid (L.length = N)) (hc24 : N ≤ 24) (hc1 : 1 ≤ N) (hp : p < N)
    (K4 : Hid (KC w W a n cap t4 b1 s0 (.slice (some ⟨gC, 0, none⟩) N cc) (.slice af M.length cf) (.slice none 0 0) dd L M [] v4)) (hr : 15 ≤ r)
    {s1 s5 s6 s7 s8 s9 s10 s11 s12 s13 s14 s15 s16 s17 s18 s19 s20 s21 s22 s24 s25 s26 s27 s28 s29 s30 s31 s32 s33 s34 s35 s36 s37 s38 s39 s40 s41 s42 s43 s44 s45 s46 s47 s48 s49 s50 s51 s52 s53 s54 s55 s56 s57 s58 s59 s60 s61 s62 s63 s64 s65 s66 s67 s68 s69 s70 s71 s72 s73 s74 s75 s76 s77 s78 s79 s80 s81 s82 s83 s84 s85 s86 s87 s88 s89 s90 s91 s92 s93 s94 s95 s96 s97 s98 s99 s100 s101 s102 s103 s104 s105 s106 s107 s108 s109 s110 s111 s112 s113 s114 s115 s116 s117 s118 s119 s120 s121 s122 s123 s124 s125 s126 s127 s128 s129 s130 s131 s132 s133 s134 s135 s136 s137 s138 s139 s140 s141 s142 s143 s144 s145 s146 s147 s148 s149 s150 s151 s152 s153 s154 s155 s156 s157 s158 s159 s160 s161 s162 s163 s164 s165 s166 s167 s168 s169 s170 s171 s172 s173 s174 s175 s176 s177 s178 s179 s180 s181 s182 s183 s184 s185 s186 s187 s188 s189 s190 s191 s192 s193 s194 s195 s196 s197 s198 s199 s200 s201 s202 s203 s204 s205 s206 s207 s208 s209 s210 s211 s212 s213 s214 s215 s216 s217 s218 s219 s220 s221 s222 s223 s224 s225 s226 s227 s228 s229 s230 s231 s232 s233 s234 s235 s236 s237 s238 s239 s240 s241 s242 s243 s244 s245 s246 s247 s248 s249 s250 s251 : Value} {J K' : Act → World → Prop}
    (hJ : Hid (∀ a' w', AnyEnd w W a n cap (t1 + 60) b1 s1 s251 a' w' → J a' w')) (hK : ∀ a' w', Met J a' w' → K' a' w') :
    Code.wp Tryd.prog code (Exit.then K' (bodyPost Tryd.prog Tryd.f35 (DrAny w W a n cap zs t 1100 25 17))) ⟨#[.pointer (some ⟨w.heap.size, 0, none⟩), s1, .pointer (some ⟨W.heap.size, 0, none⟩), .pointer (some ⟨b1, 0, none⟩), .pointer (some ⟨gC, p * 8, none⟩), s5, s6, s7, s8, s9, s10, s11, s12, s13, s14, s15, s16, s17, s18, s19, s20, s21, s22, .int .i64 r, s24, s25, s26, s27, s28, s29, s30, s31, s32, s33, s34, s35, s36, s37, s38, s39, s40, s41, s42, s43, s44, s45, s46, s47, s48, s49, s50, s51, s52, s53, s54, s55, s56, s57, s58, s59, s60, s61, s62, s63, s64, s65, s66, s67, s68, s69, s70, s71, s72, s73, s74, s75, s76, s77, s78, s79, s80, s81, s82, s83, s84, s85, s86, s87, s88, s89, s90, s91, s92, s93, s94, s95, s96, s97, s98, s99, s100, s101, s102, s103, s104, s105, s106, s107, s108, s109, s110, s111, s112, s113, s114, s115, s116, s117, s118, s119, s120, s121, s122, s123, s124, s125, s126, s127, s128, s129, s130, s131, s132, s133, s134, s135, s136, s137, s138, s139, s140, s141, s142, s143, s144, s145, s146, s147, s148, s149, s150, s151, s152, s153, s154, s155, s156, s157, s158, s159, s160, s161, s162, s163, s164, s165, s166, s167, s168, s169, s170, s171, s172, s173, s174, s175, s176, s177, s178, s179, s180, s181, s182, s183, s184, s185, s186, s187, s188, s189, s190, s191, s192, s193, s194, s195, s196, s197, s198, s199, s200, s201, s202, s203, s204, s205, s206, s207, s208, s209, s210, s211, s212, s213, s214, s215, s216, s217, s218, s219, s220, s221, s222, s223, s224, s225, s226, s227, s228, s229, s230, s231, s232, s233, s234, s235, s236, s237, s238, s239, s240, s241, s242, s243, s244, s245, s246, s247, s248, s249, s250, s251], []⟩ v4 := by
  obtain rfl := Option.some.inj ((show (Tryd.f35.body).bind (blk 0) = some _ from rfl).symm.trans hcode)
  clear hcode
  obtain ⟨i0, hi, hz0, hz1, hz2⟩ := info_parts infoFlt
  obtain ⟨j0, hj0, hw0, hw1, hw2⟩ := info_parts infoCls
  have hw : w.heap.size < W.heap.size := HD.out.cur.lt
  have D4 := Lib.hid (K4.out.dr HD.out)
  have hpL : p < L.length := by have := HN.out; omega
  obtain ⟨e0, e1, e2, e3, e4⟩ := K4.out.box
  obtain ⟨x0, x1, x2, x3, x4, x5, x6, x7⟩ := own_eight (len_row K4.out.C HN.out) p hpL
  have fb := K4.out.fro
  have hsz4 := K4.out.bar.size
  have hmax : M.length ≤ 17 ∧ L.length ≤ 25 ∧ s0.size ≤ 9 := by have := HN.out; omega
  have qq : ∀ i : Int, i < 15 → (r == i) = false := fun i hi => by simp; omega
  have f0 := qq 0 (by omega)
  have f1 := qq 1 (by omega)
  have f2 := qq 2 (by omega)
  have f3 := qq 3 (by omega)
  have f4 := qq 4 (by omega)
  have f5 := qq 5 (by omega)
  have f6 := qq 6 (by omega)
  have f7 := qq 7 (by omega)
  have f8 := qq 8 (by omega)
  have f9 := qq 9 (by omega)
  have f10 := qq 10 (by omega)
  have f11 := qq 11 (by omega)
  have f12 := qq 12 (by omega)
  have f13 := qq 13 (by omega)
  have f14 := qq 14 (by omega)
  go_wp2_with fail
  have hJo := hJ.out
  go_meet
  exact ⟨trivial, s0, _, _, dd, L, M, t4, K4.out, hmax.2.1, hmax.1, hmax.2.2, by omega⟩
end Go.Proofs.YthgbhnedfdnfpaaDoor
