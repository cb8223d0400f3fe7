import Derived.Test.YthgbhnedfdnfpaaGreatDoorPkza
import Derived.Deep.CutBlock
/- What a law draws of configurations: any configuration, mostly a valid one: the start. -/
namespace Go.Proofs.YthgbhnedfdnfpaaGreatDoor
set_option maxRecDepth 100000
open Go.RowKit
set_option linter.unusedVariables false
set_option linter.unusedSimpArgs false

theorem own_cfg_parts {w : World} {B : Nat} {v : Value} {c : Cfg} (h : OwnCfg w B v c) : ∃ ac cc af cf, v = .agg #[.string c.s, .slice ac c.cs.length cc, .slice af c.fs.length cf, .int .i64 c.d] ∧ w.ownsRow B 41 8 (.slice ac c.cs.length cc) c.cs.length (clsCs c.cs) ∧ w.ownsRow B 82 5 (.slice af c.fs.length cf) c.fs.length (fltCs c.fs) ∧ ∀ g, (Value.slice ac c.cs.length cc).ownBlock = some g → (Value.slice af c.fs.length cf).ownBlock ≠ some g := by
  obtain ⟨vc, vf, hv, a, b, d⟩ := h
  obtain ⟨ac, cc, rfl, _⟩ := own_in a
  obtain ⟨af, cf, rfl, _⟩ := own_in b
  exact ⟨ac, cc, af, cf, hv, a, b, d⟩
theorem kc_from {w W v1 : World} {a : Option Addr} {n cap t : Nat} {s : ByteArray} {ac af : Option Addr} {N M cc cf : Nat} {L : List Cls} {F : List Flt} {d : Int} (hw : w.heap.size < W.heap.size) (hc : CurAt v1 w.heap.size a n cap t)
    (hb : Bar w.heap.size (W.heap.size + 1) (W.alloc (.cells #[.string ⟨#[]⟩, .slice none 0 0, .slice none 0 0, .int .i64 0] 26)) v1)
    (oC : v1.ownsRow (W.heap.size + 1) 41 8 (.slice ac N cc) L.length (clsCs L)) (oF : v1.ownsRow (W.heap.size + 1) 82 5 (.slice af M cf) F.length (fltCs F)) (hd : ∀ g, (Value.slice ac N cc).ownBlock = some g → (Value.slice af M cf).ownBlock ≠ some g) :
    KC w W a n cap t v1.heap.size s (.slice ac N cc) (.slice af M cf) (.slice none 0 0) d L F [] (v1.alloc (.cells #[.string s, .slice ac N cc, .slice af M cf, .int .i64 d] 26)) := by
  have z0 : Zer (W.alloc (.cells #[.string ⟨#[]⟩, .slice none 0 0, .slice none 0 0, .int .i64 0] 26)) W.heap.size := ⟨(box_four (Below.refl _ _)).1, fun o => by simp⟩
  have z2 := z0.same (hb.block W.heap.size (by omega) (by omega)) hb.size
  have z3 := z2.on (one_new2 v1 (.cells #[.string s, .slice ac N cc, .slice af M cf, .int .i64 d] 26))
  have hb0 : Bar w.heap.size W.heap.size W v1 := (Bar.of_below (one_new2 W _)).trans (hb.mono (by omega))
  have hv1 : W.heap.size < v1.heap.size := by have := hb.size; simp only [World.size_alloc] at this; omega
  have lC := fun g e => (World.ownsRow.lt oC g e).2
  have lF := fun g e => (World.ownsRow.lt oF g e).2
  exact ⟨hc.alloc _, hb0.trans ((Bar.of_below (one_new2 v1 _)).mono hb0.size), z3, (box_four (Below.refl _ _)).1, FroB.new v1 _ _, hv1, World.ownsRow.alloc oC _, World.ownsRow.alloc oF _, World.ownsRow_nil _ _ _ _, (fun g e => by have := lC g e; omega), (fun g e => by have := lF g e; omega), (fun g e => by cases e), hd, (fun g e q => by cases q), (fun g e q => by cases q)⟩
theorem ints_l3 (w : World) (z0 z1 z2 : Int) (ty : TypeId) : Ints (w.alloc (.cells #[.int .i64 z0, .int .i64 z1, .int .i64 z2] ty)) w.heap.size 3 := ints_of w _ ty 3 rfl
theorem ints_l4 (w : World) (z0 z1 z2 z3 : Int) (ty : TypeId) : Ints (w.alloc (.cells #[.int .i64 z0, .int .i64 z1, .int .i64 z2, .int .i64 z3] ty)) w.heap.size 4 := ints_of w _ ty 4 rfl
theorem ints_l5 (w : World) (z0 z1 z2 z3 z4 : Int) (ty : TypeId) : Ints (w.alloc (.cells #[.int .i64 z0, .int .i64 z1, .int .i64 z2, .int .i64 z3, .int .i64 z4] ty)) w.heap.size 5 := ints_of w _ ty 5 rfl
theorem KC.forget {w W wx : World} {a : Option Addr} {n cap t bo : Nat} {s : ByteArray} {vC vF vl : Value} {d : Int} {L : List Cls} {M : List Flt} {K : List Nat} (h : KC w W a n cap t bo s vC vF vl d L M K wx) : KC w W a n cap t bo s vC vF (.slice none 0 0) d L M [] wx :=
  ⟨h.cur, h.bar, h.zer, h.box, h.fro, h.rb, h.C, h.F, World.ownsRow_nil _ _ _ _, h.nC, h.nF, (fun g e => by cases e), h.CF, (fun g e q => by cases q), (fun g e q => by cases q)⟩
theorem KC.setNilF {w W wx : World} {a : Option Addr} {n cap t bo : Nat} {s : ByteArray} {vC vF vl : Value} {d : Int} {L : List Cls} {M : List Flt} {K : List Nat} (h : KC w W a n cap t bo s vC vF vl d L M K wx) (hw : w.heap.size < W.heap.size) : KC w W a n cap t bo s vC (.slice none 0 0) vl d L [] K (wx.setCell ⟨bo, 2, none⟩ (.slice none 0 0)) := by
  obtain ⟨a1, a2, a3, a4, a5, a6, a7⟩ := h.box_ hw 2 (.slice none 0 0)
  exact ⟨a1, a2, a3, h.box.set2 _, a4, h.rb, a5, World.ownsRow_nil _ _ _ _, a7, h.nC, (fun g e => by cases e), h.nl, (fun g e q => by cases q), h.Cl, (fun g e => by cases e)⟩
theorem KC.reset {w W wx : World} {a : Option Addr} {n cap t bo : Nat} {s : ByteArray} {vC vF vl : Value} {d : Int} {L : List Cls} {M : List Flt} {K : List Nat} (h : KC w W a n cap t bo s vC vF vl d L M K wx) (hw : w.heap.size < W.heap.size) (s' : ByteArray) :
    KC w W a n cap t bo s' (.slice none 0 0) (.slice none 0 0) vl 0 [] [] K ((((wx.setCell ⟨bo, 0, none⟩ (.string s')).setCell ⟨bo, 1, none⟩ (.slice none 0 0)).setCell ⟨bo, 2, none⟩ (.slice none 0 0)).setCell ⟨bo, 3, none⟩ (.int .i64 0)) :=
  (((h.setS hw s').setNil hw).setNilF hw).setD hw 0
theorem eight_set {w : World} {b : Nat} {x : Cls} (h : EightB w b x) (z : Int) : EightB (w.setCell ⟨b, 1, none⟩ (.int .i64 z)) b (updC x 1 z) ∧ EightB (w.setCell ⟨b, 2, none⟩ (.int .i64 z)) b (updC x 2 z) ∧ EightB (w.setCell ⟨b, 3, none⟩ (.int .i64 z)) b (updC x 3 z) ∧ EightB (w.setCell ⟨b, 7, none⟩ (.int .i64 z)) b (updC x 7 z) := by
  obtain ⟨h0, h1, h2, h3, h4, h5, h6, h7⟩ := h
  refine ⟨⟨?_, ?_, ?_, ?_, ?_, ?_, ?_, ?_⟩, ⟨?_, ?_, ?_, ?_, ?_, ?_, ?_, ?_⟩, ⟨?_, ?_, ?_, ?_, ?_, ?_, ?_, ?_⟩, ⟨?_, ?_, ?_, ?_, ?_, ?_, ?_, ?_⟩⟩
  all_goals first
    | (rw [World.cell?_setCell_other _ _ _ _ (by simp)]; assumption)
    | exact World.cell?_setCell_same' _ _ _ (by first | (rw [h1]; rfl) | (rw [h2]; rfl) | (rw [h3]; rfl) | (rw [h7]; rfl))
def YBox (wr wx : World) (y : Cls) : Prop := Below wr.heap.size wr wx ∧ EightB wx wr.heap.size y ∧ FroB wx wr.heap.size ∧ wr.heap.size < wx.heap.size
theorem YBox.new (wr : World) (y : Cls) : YBox wr (wr.alloc (.cells #[.int .i64 y.i, .int .i64 y.p, .int .i64 y.r, .int .i64 y.e, .int .i64 y.b, .int .i64 y.u, .int .i64 y.o, .int .i64 y.l] 41)) y :=
  ⟨one_new2 _ _, eight_new wr y _, FroB.new _ _ _, by simp⟩
theorem YBox.st {wr wx : World} {y : Cls} (h : YBox wr wx y) (j : Nat) (u : Value) {y' : Cls} (he : EightB (wx.setCell ⟨wr.heap.size, j, none⟩ u) wr.heap.size y') : YBox wr (wx.setCell ⟨wr.heap.size, j, none⟩ u) y' :=
  ⟨h.1.setCell (p := ⟨wr.heap.size, j, none⟩) (Nat.le_refl _) u, he, h.2.2.1.set _ _, by rw [Go.Deep.nblk_setCell]; exact h.2.2.2⟩
def AnyC (w W : World) (a : Option Addr) (n cap T bo : Nat) (wx : World) : Prop :=
  ∃ (s : ByteArray) (vC vF : Value) (d : Int) (L : List Cls) (M : List Flt) (t' : Nat), KC w W a n cap t' bo s vC vF (.slice none 0 0) d L M [] wx ∧ L.length ≤ 25 ∧ M.length ≤ 17 ∧ s.size ≤ 9 ∧ t' ≤ T
def DrAny (w W : World) (a : Option Addr) (n cap : Nat) (zs : List Int) (t K mc mf : Nat) (e : Ending) (w' : World) : Prop :=
  ∃ (v : Value) (c : Cfg) (t' : Nat), e = .returned v ∧ OwnCfg w' W.heap.size v c ∧ c.cs.length ≤ mc ∧ c.fs.length ≤ mf ∧ c.s.size ≤ 9 ∧ t' ≤ t + K ∧ Dr w w' a n cap zs t' ∧ Bar w.heap.size W.heap.size W w'
def blk (n : Nat) : Code → Option Code
  | .seq a b => match blk n a with
    | some c => some c
    | Option.none => blk n b
  | .cond _ a b => match blk n a with
    | some c => some c
    | Option.none => blk n b
  | .block i c => if i = n then some (.block i c) else blk n c
  | .loop c => blk n c
  | .scope c => blk n c
  | _ => Option.none
@[reducible] def AnyEnd (w W : World) (a : Option Addr) (n cap T b1 : Nat) (s1 s251 : Value) (a' : Act) (w' : World) : Prop :=
  ∃ u4 u5 u6 u7 u8 u9 u10 u11 u12 u13 u14 u15 u16 u17 u18 u19 u20 u21 u22 u23 u24 u25 u26 u27 u28 u29 u30 u31 u32 u33 u34 u35 u36 u37 u38 u39 u40 u41 u42 u43 u44 u45 u46 u47 u48 u49 u50 u51 u52 u53 u54 u55 u56 u57 u58 u59 u60 u61 u62 u63 u64 u65 u66 u67 u68 u69 u70 u71 u72 u73 u74 u75 u76 u77 u78 u79 u80 u81 u82 u83 u84 u85 u86 u87 u88 u89 u90 u91 u92 u93 u94 u95 u96 u97 u98 u99 u100 u101 u102 u103 u104 u105 u106 u107 u108 u109 u110 u111 u112 u113 u114 u115 u116 u117 u118 u119 u120 u121 u122 u123 u124 u125 u126 u127 u128 u129 u130 u131 u132 u133 u134 u135 u136 u137 u138 u139 u140 u141 u142 u143 u144 u145 u146 u147 u148 u149 u150 u151 u152 u153 u154 u155 u156 u157 u158 u159 u160 u161 u162 u163 u164 u165 u166 u167 u168 u169 u170 u171 u172 u173 u174 u175 u176 u177 u178 u179 u180 u181 u182 u183 u184 u185 u186 u187 u188 u189 u190 u191 u192 u193 u194 u195 u196 u197 u198 u199 u200 u201 u202 u203 u204 u205 u206 u207 u208 u209 u210 u211 u212 u213 u214 u215 u216 u217 u218 u219 u220 u221 u222 u223 u224 u225 u226 u227 u228 u229 u230 u231 u232 u233 u234 u235 u236 u237 u238 u239 u240 u241 u242 u243 u244 u245 u246 u247 u248 u249 u250 : Value, (True ∧ AnyC w W a n cap T b1 w') ∧ a' = Act.mk (#[.pointer (some ⟨w.heap.size, 0, none⟩), s1, .pointer (some ⟨W.heap.size, 0, none⟩), .pointer (some ⟨b1, 0, none⟩), u4, u5, u6, u7, u8, u9, u10, u11, u12, u13, u14, u15, u16, u17, u18, u19, u20, u21, u22, u23, u24, u25, u26, u27, u28, u29, u30, u31, u32, u33, u34, u35, u36, u37, u38, u39, u40, u41, u42, u43, u44, u45, u46, u47, u48, u49, u50, u51, u52, u53, u54, u55, u56, u57, u58, u59, u60, u61, u62, u63, u64, u65, u66, u67, u68, u69, u70, u71, u72, u73, u74, u75, u76, u77, u78, u79, u80, u81, u82, u83, u84, u85, u86, u87, u88, u89, u90, u91, u92, u93, u94, u95, u96, u97, u98, u99, u100, u101, u102, u103, u104, u105, u106, u107, u108, u109, u110, u111, u112, u113, u114, u115, u116, u117, u118, u119, u120, u121, u122, u123, u124, u125, u126, u127, u128, u129, u130, u131, u132, u133, u134, u135, u136, u137, u138, u139, u140, u141, u142, u143, u144, u145, u146, u147, u148, u149, u150, u151, u152, u153, u154, u155, u156, u157, u158, u159, u160, u161, u162, u163, u164, u165, u166, u167, u168, u169, u170, u171, u172, u173, u174, u175, u176, u177, u178, u179, u180, u181, u182, u183, u184, u185, u186, u187, u188, u189, u190, u191, u192, u193, u194, u195, u196, u197, u198, u199, u200, u201, u202, u203, u204, u205, u206, u207, u208, u209, u210, u211, u212, u213, u214, u215, u216, u217, u218, u219, u220, u221, u222, u223, u224, u225, u226, u227, u228, u229, u230, u231, u232, u233, u234, u235, u236, u237, u238, u239, u240, u241, u242, u243, u244, u245, u246, u247, u248, u249, u250, s251] : Array Value) []
end Go.Proofs.YthgbhnedfdnfpaaGreatDoor

/- What a law draws of configurations: any configuration, mostly a valid one: its small changes. -/
namespace Go.Proofs.YthgbhnedfdnfpaaGreatDoor
set_option maxRecDepth 100000
open Go.RowKit
set_option linter.unusedVariables false
set_option linter.unusedSimpArgs false
set_option maxRecDepth 100000

set_option maxHeartbeats 12800000 in
theorem any_small {code : Code} (hcode : (Tryz.f42.body).bind (blk 0) = some code) {w W v4 : World} {a : Option Addr} {n cap t t1 t3 t4 N b1 p gC cc cf : Nat} {zs : List Int} {af : Option Addr} {s0 : ByteArray} {L : List Cls} {M : List Flt} {dd r : Int}
    (HD : Hid (Dr w W a n cap zs t)) (HL : Hid (zs.length = n)) (hn : n ≤ 9223372036854775807) (ht : t ≤ 700000) (ht1 : t1 ≤ t + 1000) (ht3 : t3 ≤ t1 + 2) (ht4 : t4 ≤ t3 + 2) (hf16 : M.length ≤ 16) (hs8 : s0.size ≤ 8) (HLV : Hid (0 < (leaves L).length)) (HN : Hid (L.length = N)) (hc24 : N ≤ 24) (hc1 : 1 ≤ N) (hp : p < N)
    (K4 : Hid (KC w W a n cap t4 b1 s0 (.slice (some ⟨gC, 0, none⟩) N cc) (.slice af M.length cf) (.slice none 0 0) dd L M [] v4)) (hr : 0 ≤ r ∧ r ≤ 10)
    {s1 s5 s6 s7 s8 s9 s10 s11 s12 s13 s14 s15 s16 s17 s18 s19 s20 s21 s22 s24 s25 s26 s27 s28 s29 s30 s31 s32 s33 s34 s35 s36 s37 s38 s39 s40 s41 s42 s43 s44 s45 s46 s47 s48 s49 s50 s51 s52 s53 s54 s55 s56 s57 s58 s59 s60 s61 s62 s63 s64 s65 s66 s67 s68 s69 s70 s71 s72 s73 s74 s75 s76 s77 s78 s79 s80 s81 s82 s83 s84 s85 s86 s87 s88 s89 s90 s91 s92 s93 s94 s95 s96 s97 s98 s99 s100 s101 s102 s103 s104 s105 s106 s107 s108 s109 s110 s111 s112 s113 s114 s115 s116 s117 s118 s119 s120 s121 s122 s123 s124 s125 s126 s127 s128 s129 s130 s131 s132 s133 s134 s135 s136 s137 s138 s139 s140 s141 s142 s143 s144 s145 s146 s147 s148 s149 s150 s151 s152 s153 s154 s155 s156 s157 s158 s159 s160 s161 s162 s163 s164 s165 s166 s167 s168 s169 s170 s171 s172 s173 s174 s175 s176 s177 s178 s179 s180 s181 s182 s183 s184 s185 s186 s187 s188 s189 s190 s191 s192 s193 s194 s195 s196 s197 s198 s199 s200 s201 s202 s203 s204 s205 s206 s207 s208 s209 s210 s211 s212 s213 s214 s215 s216 s217 s218 s219 s220 s221 s222 s223 s224 s225 s226 s227 s228 s229 s230 s231 s232 s233 s234 s235 s236 s237 s238 s239 s240 s241 s242 s243 s244 s245 s246 s247 s248 s249 s250 s251 : Value} {J K' : Act → World → Prop}
    (hJ : Hid (∀ a' w', AnyEnd w W a n cap (t1 + 60) b1 s1 s251 a' w' → J a' w')) (hK : ∀ a' w', Met J a' w' → K' a' w') :
    Code.wp Tryz.prog code (Exit.then K' (bodyPost Tryz.prog Tryz.f42 (DrAny w W a n cap zs t 1100 25 17))) ⟨#[.pointer (some ⟨w.heap.size, 0, none⟩), s1, .pointer (some ⟨W.heap.size, 0, none⟩), .pointer (some ⟨b1, 0, none⟩), .pointer (some ⟨gC, p * 8, none⟩), s5, s6, s7, s8, s9, s10, s11, s12, s13, s14, s15, s16, s17, s18, s19, s20, s21, s22, .int .i64 r, s24, s25, s26, s27, s28, s29, s30, s31, s32, s33, s34, s35, s36, s37, s38, s39, s40, s41, s42, s43, s44, s45, s46, s47, s48, s49, s50, s51, s52, s53, s54, s55, s56, s57, s58, s59, s60, s61, s62, s63, s64, s65, s66, s67, s68, s69, s70, s71, s72, s73, s74, s75, s76, s77, s78, s79, s80, s81, s82, s83, s84, s85, s86, s87, s88, s89, s90, s91, s92, s93, s94, s95, s96, s97, s98, s99, s100, s101, s102, s103, s104, s105, s106, s107, s108, s109, s110, s111, s112, s113, s114, s115, s116, s117, s118, s119, s120, s121, s122, s123, s124, s125, s126, s127, s128, s129, s130, s131, s132, s133, s134, s135, s136, s137, s138, s139, s140, s141, s142, s143, s144, s145, s146, s147, s148, s149, s150, s151, s152, s153, s154, s155, s156, s157, s158, s159, s160, s161, s162, s163, s164, s165, s166, s167, s168, s169, s170, s171, s172, s173, s174, s175, s176, s177, s178, s179, s180, s181, s182, s183, s184, s185, s186, s187, s188, s189, s190, s191, s192, s193, s194, s195, s196, s197, s198, s199, s200, s201, s202, s203, s204, s205, s206, s207, s208, s209, s210, s211, s212, s213, s214, s215, s216, s217, s218, s219, s220, s221, s222, s223, s224, s225, s226, s227, s228, s229, s230, s231, s232, s233, s234, s235, s236, s237, s238, s239, s240, s241, s242, s243, s244, s245, s246, s247, s248, s249, s250, s251], []⟩ v4 := by
  obtain rfl := Option.some.inj ((show (Tryz.f42.body).bind (blk 0) = some _ from rfl).symm.trans hcode)
  clear hcode
  obtain ⟨i0, hi, hz0, hz1, hz2⟩ := info_parts infoFlt
  obtain ⟨j0, hj0, hw0, hw1, hw2⟩ := info_parts infoCls
  have hw : w.heap.size < W.heap.size := HD.out.cur.lt
  have D4 := Lib.hid (K4.out.dr HD.out)
  have hpL : p < L.length := by have := HN.out; omega
  obtain ⟨e0, e1, e2, e3, e4⟩ := K4.out.box
  obtain ⟨x0, x1, x2, x3, x4, x5, x6, x7⟩ := own_eight (len_row K4.out.C HN.out) p hpL
  have fb := K4.out.fro
  have hsz4 := K4.out.bar.size
  have hmax : M.length ≤ 17 ∧ L.length ≤ 25 ∧ s0.size ≤ 9 := by have := HN.out; omega
  obtain rfl | rfl | rfl | rfl | rfl | rfl | rfl | rfl | rfl | rfl | rfl : r = 0 ∨ r = 1 ∨ r = 2 ∨ r = 3 ∨ r = 4 ∨ r = 5 ∨ r = 6 ∨ r = 7 ∨ r = 8 ∨ r = 9 ∨ r = 10 := by omega
  · go_wp2_with (go_at_call 74; (with_reducible refine (dr_ofL (m := 8) (M := 9) (t := t4) (zs := zs) (Lib.hid (strL_of v4 _ _ 8 9 (by decide))) (by omega) (by omega) (by omega) (Lib.hid (D4.out.alloc _)) HL hn (by omega)).mono ?_); rintro e v5 ⟨x, t5, rfl, hx9, ht5, d5, o5⟩; have K5 := Lib.hid ((K4.out.on (one_new2 v4 _)).only hw d5.cur o5); clear d5 o5; have fz := K5.out.fro 0; have y0 := K5.out.box.1)
    have hJo := hJ.out
    go_meet
    exact ⟨trivial, x, _, _, dd, L, M, t5, K5.out.setS hw x, hmax.2.1, hmax.1, hx9, by omega⟩
  · have fz := fb 1
    go_wp2_with fail
    have hJo := hJ.out
    go_meet
    exact ⟨trivial, s0, _, _, dd, [], M, t4, K4.out.setNil hw, by simp, hmax.1, hmax.2.2, by omega⟩
  · go_wp2_with (go_at_call 75; (with_reducible refine (dr_among (m := 5) (t := t4) (zs := zs) (ints_l5 v4 _ _ _ _ _ _) (by omega) (by omega) D4 HL hn (by omega)).mono ?_); rintro e v5 ⟨r5, t5, rfl, _, ht5, d5, o5⟩; have K5 := Lib.hid ((K4.out.on (one_new2 v4 _)).only hw d5.cur o5); clear d5 o5; have fz := World.ownsRow.frozenAt (len_row K5.out.C HN.out) (p * 8); obtain ⟨z0, z1, z2, z3, z4, z5, z6, z7⟩ := own_eight (len_row K5.out.C HN.out) p hpL)
    have hJo := hJ.out
    go_meet
    exact ⟨trivial, s0, _, _, dd, _, M, t5, K5.out.upd HN.out hw p 0 _ hpL (by decide), by rw [List.length_set]; exact hmax.2.1, hmax.1, hmax.2.2, by omega⟩
  · go_wp2_with (go_at_call 75; (with_reducible refine (dr_among (m := 5) (t := t4) (zs := zs) (ints_l5 v4 _ _ _ _ _ _) (by omega) (by omega) D4 HL hn (by omega)).mono ?_); rintro e v5 ⟨r5, t5, rfl, _, ht5, d5, o5⟩; have K5 := Lib.hid ((K4.out.on (one_new2 v4 _)).only hw d5.cur o5); clear d5 o5; have fz := World.ownsRow.frozenAt (len_row K5.out.C HN.out) (p * 8 + 1); obtain ⟨z0, z1, z2, z3, z4, z5, z6, z7⟩ := own_eight (len_row K5.out.C HN.out) p hpL)
    have hJo := hJ.out
    go_meet
    exact ⟨trivial, s0, _, _, dd, _, M, t5, K5.out.upd HN.out hw p 1 _ hpL (by decide), by rw [List.length_set]; exact hmax.2.1, hmax.1, hmax.2.2, by omega⟩
  · go_wp2_with (go_at_call 75; (with_reducible refine (dr_among (m := 5) (t := t4) (zs := zs) (ints_l5 v4 _ _ _ _ _ _) (by omega) (by omega) D4 HL hn (by omega)).mono ?_); rintro e v5 ⟨r5, t5, rfl, _, ht5, d5, o5⟩; have K5 := Lib.hid ((K4.out.on (one_new2 v4 _)).only hw d5.cur o5); clear d5 o5; have fz := World.ownsRow.frozenAt (len_row K5.out.C HN.out) (p * 8 + 2); obtain ⟨z0, z1, z2, z3, z4, z5, z6, z7⟩ := own_eight (len_row K5.out.C HN.out) p hpL)
    have hJo := hJ.out
    go_meet
    exact ⟨trivial, s0, _, _, dd, _, M, t5, K5.out.upd HN.out hw p 2 _ hpL (by decide), by rw [List.length_set]; exact hmax.2.1, hmax.1, hmax.2.2, by omega⟩
  · go_wp2_with (go_at_call 75; (with_reducible refine (dr_among (m := 3) (t := t4) (zs := zs) (ints_l3 v4 _ _ _ _) (by omega) (by omega) D4 HL hn (by omega)).mono ?_); rintro e v5 ⟨r5, t5, rfl, _, ht5, d5, o5⟩; have K5 := Lib.hid ((K4.out.on (one_new2 v4 _)).only hw d5.cur o5); clear d5 o5; have fz := World.ownsRow.frozenAt (len_row K5.out.C HN.out) (p * 8 + 3); obtain ⟨z0, z1, z2, z3, z4, z5, z6, z7⟩ := own_eight (len_row K5.out.C HN.out) p hpL)
    have hJo := hJ.out
    go_meet
    exact ⟨trivial, s0, _, _, dd, _, M, t5, K5.out.upd HN.out hw p 3 _ hpL (by decide), by rw [List.length_set]; exact hmax.2.1, hmax.1, hmax.2.2, by omega⟩
  · go_wp2_with (go_at_call 75; (with_reducible refine (dr_among (m := 4) (t := t4) (zs := zs) (ints_l4 v4 _ _ _ _ _) (by omega) (by omega) D4 HL hn (by omega)).mono ?_); rintro e v5 ⟨r5, t5, rfl, _, ht5, d5, o5⟩; have K5 := Lib.hid ((K4.out.on (one_new2 v4 _)).only hw d5.cur o5); clear d5 o5; have fz := World.ownsRow.frozenAt (len_row K5.out.C HN.out) (p * 8 + 4); obtain ⟨z0, z1, z2, z3, z4, z5, z6, z7⟩ := own_eight (len_row K5.out.C HN.out) p hpL)
    have hJo := hJ.out
    go_meet
    exact ⟨trivial, s0, _, _, dd, _, M, t5, K5.out.upd HN.out hw p 4 _ hpL (by decide), by rw [List.length_set]; exact hmax.2.1, hmax.1, hmax.2.2, by omega⟩
  · go_wp2_with (go_at_call 75; (with_reducible refine (dr_among (m := 4) (t := t4) (zs := zs) (ints_l4 v4 _ _ _ _ _) (by omega) (by omega) D4 HL hn (by omega)).mono ?_); rintro e v5 ⟨r5, t5, rfl, _, ht5, d5, o5⟩; have K5 := Lib.hid ((K4.out.on (one_new2 v4 _)).only hw d5.cur o5); clear d5 o5; have fz := World.ownsRow.frozenAt (len_row K5.out.C HN.out) (p * 8 + 5); obtain ⟨z0, z1, z2, z3, z4, z5, z6, z7⟩ := own_eight (len_row K5.out.C HN.out) p hpL)
    have hJo := hJ.out
    go_meet
    exact ⟨trivial, s0, _, _, dd, _, M, t5, K5.out.upd HN.out hw p 5 _ hpL (by decide), by rw [List.length_set]; exact hmax.2.1, hmax.1, hmax.2.2, by omega⟩
  · go_wp2_with (go_at_call 75; (with_reducible refine (dr_among (m := 3) (t := t4) (zs := zs) (ints_l3 v4 _ _ _ _) (by omega) (by omega) D4 HL hn (by omega)).mono ?_); rintro e v5 ⟨r5, t5, rfl, _, ht5, d5, o5⟩; have K5 := Lib.hid ((K4.out.on (one_new2 v4 _)).only hw d5.cur o5); clear d5 o5; have fz := World.ownsRow.frozenAt (len_row K5.out.C HN.out) (p * 8 + 6); obtain ⟨z0, z1, z2, z3, z4, z5, z6, z7⟩ := own_eight (len_row K5.out.C HN.out) p hpL)
    have hJo := hJ.out
    go_meet
    exact ⟨trivial, s0, _, _, dd, _, M, t5, K5.out.upd HN.out hw p 6 _ hpL (by decide), by rw [List.length_set]; exact hmax.2.1, hmax.1, hmax.2.2, by omega⟩
  · go_wp2_with (go_at_call 75; (with_reducible refine (dr_among (m := 5) (t := t4) (zs := zs) (ints_l5 v4 _ _ _ _ _ _) (by omega) (by omega) D4 HL hn (by omega)).mono ?_); rintro e v5 ⟨r5, t5, rfl, _, ht5, d5, o5⟩; have K5 := Lib.hid ((K4.out.on (one_new2 v4 _)).only hw d5.cur o5); clear d5 o5; have fz := World.ownsRow.frozenAt (len_row K5.out.C HN.out) (p * 8 + 7); obtain ⟨z0, z1, z2, z3, z4, z5, z6, z7⟩ := own_eight (len_row K5.out.C HN.out) p hpL)
    have hJo := hJ.out
    go_meet
    exact ⟨trivial, s0, _, _, dd, _, M, t5, K5.out.upd HN.out hw p 7 _ hpL (by decide), by rw [List.length_set]; exact hmax.2.1, hmax.1, hmax.2.2, by omega⟩
  · have fz := fb 3
    go_wp2_with (go_at_call 75; (with_reducible refine (dr_among (m := 4) (t := t4) (zs := zs) (ints_l4 v4 _ _ _ _ _) (by omega) (by omega) D4 HL hn (by omega)).mono ?_); rintro e v5 ⟨r5, t5, rfl, _, ht5, d5, o5⟩; have K5 := Lib.hid ((K4.out.on (one_new2 v4 _)).only hw d5.cur o5); clear d5 o5; have fz := K5.out.fro 3; have y3 := K5.out.box.2.2.2.1)
    have hJo := hJ.out
    go_meet
    exact ⟨trivial, s0, _, _, _, L, M, t5, K5.out.setD hw _, hmax.2.1, hmax.1, hmax.2.2, by omega⟩
set_option maxHeartbeats 12800000 in
theorem any_none {code : Code} (hcode : (Tryz.f42.body).bind (blk 0) = some code) {w W v4 : World} {a : Option Addr} {n cap t t1 t3 t4 N b1 p gC cc cf : Nat} {zs : List Int} {af : Option Addr} {s0 : ByteArray} {L : List Cls} {M : List Flt} {dd r : Int}
    (HD : Hid (Dr w W a n cap zs t)) (HL : Hid (zs.length = n)) (hn : n ≤ 9223372036854775807) (ht : t ≤ 700000) (ht1 : t1 ≤ t + 1000) (ht3 : t3 ≤ t1 + 2) (ht4 : t4 ≤ t3 + 2) (hf16 : M.length ≤ 16) (hs8 : s0.size ≤ 8) (HLV : Hid (0 < (leaves L).length)) (HN : Hid (L.length = N)) (hc24 : N ≤ 24) (hc1 : 1 ≤ N) (hp : p < N)
    (K4 : Hid (KC w W a n cap t4 b1 s0 (.slice (some ⟨gC, 0, none⟩) N cc) (.slice af M.length cf) (.slice none 0 0) dd L M [] v4)) (hr : 15 ≤ r)
    {s1 s5 s6 s7 s8 s9 s10 s11 s12 s13 s14 s15 s16 s17 s18 s19 s20 s21 s22 s24 s25 s26 s27 s28 s29 s30 s31 s32 s33 s34 s35 s36 s37 s38 s39 s40 s41 s42 s43 s44 s45 s46 s47 s48 s49 s50 s51 s52 s53 s54 s55 s56 s57 s58 s59 s60 s61 s62 s63 s64 s65 s66 s67 s68 s69 s70 s71 s72 s73 s74 s75 s76 s77 s78 s79 s80 s81 s82 s83 s84 s85 s86 s87 s88 s89 s90 s91 s92 s93 s94 s95 s96 s97 s98 s99 s100 s101 s102 s103 s104 s105 s106 s107 s108 s109 s110 s111 s112 s113 s114 s115 s116 s117 s118 s119 s120 s121 s122 s123 s124 s125 s126 s127 s128 s129 s130 s131 s132 s133 s134 s135 s136 s137 s138 s139 s140 s141 s142 s143 s144 s145 s146 s147 s148 s149 s150 s151 s152 s153 s154 s155 s156 s157 s158 s159 s160 s161 s162 s163 s164 s165 s166 s167 s168 s169 s170 s171 s172 s173 s174 s175 s176 s177 s178 s179 s180 s181 s182 s183 s184 s185 s186 s187 s188 s189 s190 s191 s192 s193 s194 s195 s196 s197 s198 s199 s200 s201 s202 s203 s204 s205 s206 s207 s208 s209 s210 s211 s212 s213 s214 s215 s216 s217 s218 s219 s220 s221 s222 s223 s224 s225 s226 s227 s228 s229 s230 s231 s232 s233 s234 s235 s236 s237 s238 s239 s240 s241 s242 s243 s244 s245 s246 s247 s248 s249 s250 s251 : Value} {J K' : Act → World → Prop}
    (hJ : Hid (∀ a' w', AnyEnd w W a n cap (t1 + 60) b1 s1 s251 a' w' → J a' w')) (hK : ∀ a' w', Met J a' w' → K' a' w') :
    Code.wp Tryz.prog code (Exit.then K' (bodyPost Tryz.prog Tryz.f42 (DrAny w W a n cap zs t 1100 25 17))) ⟨#[.pointer (some ⟨w.heap.size, 0, none⟩), s1, .pointer (some ⟨W.heap.size, 0, none⟩), .pointer (some ⟨b1, 0, none⟩), .pointer (some ⟨gC, p * 8, none⟩), s5, s6, s7, s8, s9, s10, s11, s12, s13, s14, s15, s16, s17, s18, s19, s20, s21, s22, .int .i64 r, s24, s25, s26, s27, s28, s29, s30, s31, s32, s33, s34, s35, s36, s37, s38, s39, s40, s41, s42, s43, s44, s45, s46, s47, s48, s49, s50, s51, s52, s53, s54, s55, s56, s57, s58, s59, s60, s61, s62, s63, s64, s65, s66, s67, s68, s69, s70, s71, s72, s73, s74, s75, s76, s77, s78, s79, s80, s81, s82, s83, s84, s85, s86, s87, s88, s89, s90, s91, s92, s93, s94, s95, s96, s97, s98, s99, s100, s101, s102, s103, s104, s105, s106, s107, s108, s109, s110, s111, s112, s113, s114, s115, s116, s117, s118, s119, s120, s121, s122, s123, s124, s125, s126, s127, s128, s129, s130, s131, s132, s133, s134, s135, s136, s137, s138, s139, s140, s141, s142, s143, s144, s145, s146, s147, s148, s149, s150, s151, s152, s153, s154, s155, s156, s157, s158, s159, s160, s161, s162, s163, s164, s165, s166, s167, s168, s169, s170, s171, s172, s173, s174, s175, s176, s177, s178, s179, s180, s181, s182, s183, s184, s185, s186, s187, s188, s189, s190, s191, s192, s193, s194, s195, s196, s197, s198, s199, s200, s201, s202, s203, s204, s205, s206, s207, s208, s209, s210, s211, s212, s213, s214, s215, s216, s217, s218, s219, s220, s221, s222, s223, s224, s225, s226, s227, s228, s229, s230, s231, s232, s233, s234, s235, s236, s237, s238, s239, s240, s241, s242, s243, s244, s245, s246, s247, s248, s249, s250, s251], []⟩ v4 := by
  obtain rfl := Option.some.inj ((show (Tryz.f42.body).bind (blk 0) = some _ from rfl).symm.trans hcode)
  clear hcode
  obtain ⟨i0, hi, hz0, hz1, hz2⟩ := info_parts infoFlt
  obtain ⟨j0, hj0, hw0, hw1, hw2⟩ := info_parts infoCls
  have hw : w.heap.size < W.heap.size := HD.out.cur.lt
  have D4 := Lib.hid (K4.out.dr HD.out)
  have hpL : p < L.length := by have := HN.out; omega
  obtain ⟨e0, e1, e2, e3, e4⟩ := K4.out.box
  obtain ⟨x0, x1, x2, x3, x4, x5, x6, x7⟩ := own_eight (len_row K4.out.C HN.out) p hpL
  have fb := K4.out.fro
  have hsz4 := K4.out.bar.size
  have hmax : M.length ≤ 17 ∧ L.length ≤ 25 ∧ s0.size ≤ 9 := by have := HN.out; omega
  have qq : ∀ i : Int, i < 15 → (r == i) = false := fun i hi => by simp; omega
  have f0 := qq 0 (by omega)
  have f1 := qq 1 (by omega)
  have f2 := qq 2 (by omega)
  have f3 := qq 3 (by omega)
  have f4 := qq 4 (by omega)
  have f5 := qq 5 (by omega)
  have f6 := qq 6 (by omega)
  have f7 := qq 7 (by omega)
  have f8 := qq 8 (by omega)
  have f9 := qq 9 (by omega)
  have f10 := qq 10 (by omega)
  have f11 := qq 11 (by omega)
  have f12 := qq 12 (by omega)
  have f13 := qq 13 (by omega)
  have f14 := qq 14 (by omega)
  go_wp2_with fail
  have hJo := hJ.out
  go_meet
  exact ⟨trivial, s0, _, _, dd, L, M, t4, K4.out, hmax.2.1, hmax.1, hmax.2.2, by omega⟩
end Go.Proofs.YthgbhnedfdnfpaaGreatDoor
