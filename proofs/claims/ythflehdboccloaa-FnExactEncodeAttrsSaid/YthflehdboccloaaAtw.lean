/- Attributes wrapped: contracts of both sides. -/
import Derived.Test.YthflehdboccloaaAtd
namespace Go.Proofs.Ythflehdboccloaa
open Go.RowKit
set_option linter.unusedVariables false
set_option maxRecDepth 100000

def hdA (t : Int) : At := ⟨1, t, true, ⟨#[]⟩⟩
def wrA (t : Int) (l : List At) : List At := hdA t :: mvA 1 l
theorem wrA_length (t : Int) (l : List At) : (wrA t l).length = l.length + 1 := by simp [wrA, mvA_length]
theorem wrA_get (t : Int) (l : List At) (k : Nat) (h : k < l.length) : gA (wrA t l) (k + 1) = ⟨(gA l k).d + 1, (gA l k).t, (gA l k).n, (gA l k).s⟩ := by
  unfold wrA mvA gA; simp [List.getD_eq_getElem?_getD, h]
theorem wrA_szm {t : Int} {l : List At} (h : SzM l) : SzM (wrA t l) := fun k hk => by
  rw [wrA_length] at hk
  match k, hk with
  | 0, _ => show (0 : Nat) ≤ _; omega
  | k + 1, hk => rw [wrA_get t l k (by omega)]; exact h k (by omega)
def okW (t : Int) (l : List At) : Bool := lsA l && lsA (wrA t l)
def resW (t : Int) (l : List At) : List At := if okW t l then wrA t l else []
theorem resW_len (t : Int) (l : List At) : (resW t l).length ≤ 400 := by
  unfold resW
  split
  · rename_i h
    unfold okW at h
    exact (va (Bool.and_eq_true_iff.1 h).2).len
  · simp
theorem hd_own (w : World) (t : Int) (B : Nat) (hB : B ≤ w.heap.size) : OwnA (w.alloc (.cells #[.int .i64 1, .int .i64 t, .bool true, .string ⟨#[]⟩] 56)) B (.slice (some ⟨w.heap.size, 0, none⟩) 1 1) [hdA t] :=
  World.ownsRow_lit (base := B) (e := 56) (size := 4) w #[.int .i64 1, .int .i64 t, .bool true, .string ⟨#[]⟩] 1 hB (by unfold maxLen; omega) rfl
def TwRel (w : World) (t : Int) (l : List At) (n : Nat) (out i : Value) (wr : World) : Prop :=
  ∃ k : Nat, k ≤ n ∧ i = .int .i64 k ∧ BX w wr ∧ OwnA wr w.heap.size out (wrA t (l.take k))
theorem wrA_take {l : List At} {k : Nat} (t : Int) (h : k < l.length) : wrA t (l.take (k + 1)) = wrA t (l.take k) ++ [⟨(gA l k).d + 1, (gA l k).t, (gA l k).n, (gA l k).s⟩] := by
  unfold wrA; rw [mvA_take 1 h]; rfl
set_option maxHeartbeats 12800000 in
theorem tvWrap_any (ad : Option Addr) (n cap : Nat) (t : Int) (l : List At) (w : World) (HI : Hid (InX w ad n (atCs l))) (hn : Hid (l.length = n)) (HS : Hid (Sm l)) (hm : n ≤ 400) :
    Calls Try.prog 74 #[.int .i64 t, .slice ad n cap] w (SaysA w (wrA t l)) := by
  obtain ⟨i0, hi, hz0, hz1, hz2⟩ := info_parts infoAt
  go_enter Try.func74, Try.ntmps74
  go_wp2_with fail
  have H0 := Lib.hid (hd_own w t w.heap.size (Nat.le_refl _))
  go_loopw [5, 13] (fun out i wr => TwRel w t l n out i wr) (fun _ i _ => n - (intOf i).toNat)
  case atStart => exact ⟨0, Nat.zero_le _, rfl, one_new2 _ _, H0.out⟩
  case round =>
    obtain ⟨k, hk, rfl, hb, ho⟩ := hrel
    have X1 := Lib.hid hb
    have O1 := Lib.hid ho
    clear hb ho H0
    by_cases hlt : k < n
    · obtain ⟨g, rfl, ht, hg⟩ := HI.out (by omega)
      obtain ⟨x, hx⟩ : ∃ x, gA l k = x := ⟨_, rfl⟩
      have hl1 : k < l.length := by rw [hn.out]; exact hlt
      obtain ⟨a0, a1, a2, a3⟩ := (ht.below X1.out hg).atr k hl1 x hx
      obtain ⟨hs0, hs1, hs2⟩ := HS.out k hl1
      have HT := Lib.hid (wrA_take t hl1)
      rw [hx] at hs0 hs1 hs2 HT
      have HL : Hid ((wrA t (l.take k)).length = k + 1) := Lib.hid (by rw [wrA_length, List.length_take]; omega)
      have hws := BX.size X1.out
      unfold OwnA at O1
      rw [HL.out] at O1
      generalize wrA t (l.take k) = K at HT HL O1
      obtain ⟨xd, xt, xn, s⟩ := x
      simp only at a0 a1 a2 a3 hs0 hs1 hs2 HT
      have OD := Lib.hid (World.ownsRow.alloc (w := wr) O1.out (Obj.cells #[.int .i64 (xd + 1), .int .i64 xt, .bool xn, .string s] 56))
      clear hx hl1 ht O1
      go_wp2_with (at_builtin; refine wpList_append_own _ rfl _ _ 25 rfl w.heap.size 56 i0 (.agg #[.int .i64 0, .int .i64 0, .bool false, .string ⟨#[]⟩]) 4 40 Try.underlying25 hi hz0 hz1 hz2 rfl (by decide) _ _ _ rfl (World.ownsRow.alloc (w := wr.alloc (Obj.cells #[.int .i64 (xd + 1), .int .i64 xt, .bool xn, .string s] 56)) OD.out _) ⟨wr.heap.size + 1, 0, none⟩ 1 1 (atC ⟨xd + 1, xt, xn, s⟩) rfl rfl (by have := four_cells (wr.alloc (Obj.cells #[.int .i64 (xd + 1), .int .i64 xt, .bool xn, .string s] 56)) ⟨xd + 1, xt, xn, s⟩ 56; simpa using this) (atC_one _) (by unfold maxLen; omega) (by omega) (by simp; omega) ?_; intro v' w3 hown1 hgrow1 _)
      have F := Lib.hid (snocA (x := ⟨xd + 1, xt, xn, s⟩) HL.out (Below.alloc (X1.out.alloc (Obj.cells #[.int .i64 (xd + 1), .int .i64 xt, .bool xn, .string s] 56)) (BX.size (X1.out.alloc (Obj.cells #[.int .i64 (xd + 1), .int .i64 xt, .bool xn, .string s] 56))) (Obj.cells #[.int .i64 (xd + 1), .int .i64 xt, .bool xn, .string s] 56)) hown1 (by simp; omega) hgrow1 (fun g h => (World.ownsRow.lt OD.out g h).1))
      clear hown1 hgrow1
      go_roundw
      case rel => exact ⟨k + 1, by omega, by go_num, F.out.2, by rw [HT.out]; exact F.out.1⟩
      case measure => simp [intOf]; omega
    · have hkn : k = n := by omega
      subst hkn
      go_wp2_with fail
      go_ret
      rw [List.take_of_length_le (by rw [hn.out]; exact Nat.le_refl _)] at O1
      exact ⟨_, rfl, O1.out, X1.out⟩
set_option maxHeartbeats 12800000 in
theorem specWrap_any (ad : Option Addr) (n cap : Nat) (t : Int) (l : List At) (w : World) (HI : Hid (InX w ad n (atCs l))) (hn : Hid (l.length = n)) (HM : Hid (SzM l)) (hm : n ≤ 1048576) :
    Calls Try.prog 44 #[.int .i64 t, .slice ad n cap] w (SaysAB w (resW t l) (okW t l)) := by
  have HG := Lib.hid (tvGood_any ad n cap l w HI hn HM hm)
  cases hA : lsA l
  · have hk : okW t l = false := by unfold okW; rw [hA]; rfl
    have HX : Hid (resW t l = []) := Lib.hid (by unfold resW; rw [hk]; rfl)
    rw [hA] at HG
    rw [HX.out, hk]
    clear hA hk HX
    go_enter Try.func44, Try.ntmps44
    go_wp2_with (go_at_call 47; refine (HG.out).mono ?_; rintro e w1 ⟨rfl, b⟩; have B1 := Lib.hid b; clear b)
    go_ret2
    exact ⟨_, rfl, OwnA.nil _ _, B1.out⟩
  have hsm := sm_va (va hA)
  have hlen := (va hA).len
  rw [hn.out] at hlen
  rw [hA] at HG
  have HW := Lib.hid (fun wz (b : BX w wz) => tvWrap_any ad n cap t l wz (Lib.hid (HI.out.below b)) hn (Lib.hid hsm) hlen)
  have HN2 : Hid ((wrA t l).length = n + 1) := Lib.hid (by rw [wrA_length, hn.out])
  have HG2 := Lib.hid (fun ad c wz h => tvGood_any ad (n + 1) c (wrA t l) wz (Lib.hid h) HN2 (Lib.hid (wrA_szm HM.out)) (by omega))
  have hk : okW t l = lsA (wrA t l) := by unfold okW; rw [hA]; rfl
  have HX : Hid (resW t l = if lsA (wrA t l) then wrA t l else []) := Lib.hid (by unfold resW; rw [hk])
  rw [HX.out, hk]
  generalize wrA t l = K at HW HN2 HG2 ⊢
  generalize lsA K = q at HG2 ⊢
  clear hA hk HX hsm
  cases q
  · go_enter Try.func44, Try.ntmps44
    go_wp2_with (go_at_call 47; refine (HG.out).mono ?_; rintro e w1 ⟨rfl, b⟩; have X1 : Hid (BX w w1) := Lib.hid b; clear b; refine Hid.out ?_)
    refine Lib.hid ?_
    go_wp2_with (go_at_call 74; refine (HW.out _ X1.out).mono ?_; rintro e w2 ⟨v, rfl, o, b⟩; obtain ⟨av, cv, ev, iv'⟩ := own_in o; rw [HN2.out] at ev iv'; subst ev; have X2 := Lib.hid (X1.out.call b); have I2 := Lib.hid iv'; clear b o iv'; refine Hid.out ?_)
    refine Lib.hid ?_
    go_wp2_with (go_at_call 47; refine (HG2.out _ _ _ I2.out).mono ?_; rintro e w3 ⟨rfl, b⟩; have X3 := Lib.hid (X2.out.call b); clear b)
    go_ret2
    exact ⟨_, rfl, OwnA.nil _ _, X3.out⟩
  · go_enter Try.func44, Try.ntmps44
    go_wp2_with (go_at_call 47; refine (HG.out).mono ?_; rintro e w1 ⟨rfl, b⟩; have X1 : Hid (BX w w1) := Lib.hid b; clear b; refine Hid.out ?_)
    refine Lib.hid ?_
    go_wp2_with (go_at_call 74; refine (HW.out _ X1.out).mono ?_; rintro e w2 ⟨v, rfl, o, b⟩; obtain ⟨av, cv, ev, iv'⟩ := own_in o; rw [HN2.out] at ev iv'; subst ev; have X2 := Lib.hid (X1.out.call b); have I2 := Lib.hid iv'; clear b o iv'; refine Hid.out ?_)
    refine Lib.hid ?_
    go_wp2_with (go_at_call 47; refine (HG2.out _ _ _ I2.out).mono ?_; rintro e w3 ⟨rfl, b⟩; have X3 := Lib.hid (X2.out.call b); clear b; refine Hid.out ?_)
    refine Lib.hid ?_
    go_wp2_with (go_at_call 74; refine (HW.out _ X3.out).mono ?_; rintro e w4 ⟨v, rfl, o, b⟩; have X4 := Lib.hid (X3.out.call b); have O4 : Hid (OwnA w4 w.heap.size v K) := Lib.hid (own_base o (BX.size X3.out)); clear b o)
    go_ret2
    exact ⟨_, rfl, O4.out, X4.out⟩
theorem wpList_append_src {P : Program} (w : World) {ops : Array Oper} {rest : List Oper} {o : Oper} {a : Act} {Q : Exit → Act → World → Prop} (hgd : o.guard = none) (s x : Operand) (t : TypeId)
    (ho : o.op = .call { callee := .builtin .append, args := #[s, x], argTypes := #[t, t] })
    (base : Nat) (e : TypeId) (i : TypeInfo) (z : Value) (size bytes : Nat) (ht : P.underlying t = some (.slice e)) (hi : P.info? e = some i) (hz : i.zero = some z)
    (hsize : i.size = size) (hby : i.bytes = bytes) (hzs : z.cells.size = size) (hsz : 0 < size)
    (v : Value) (n : Nat) (xs : List Value) (hs : a.eval s = v) (hown : w.ownsRow base e size v n xs)
    (B2 : Nat) (src : Value) (m : Nat) (news : List Value) (hx : a.eval x = src) (hsrc : w.ownsRow B2 e size src m news) (h1 : ∀ u ∈ news, u.oneCell' = true)
    (h63 : n + m ≤ maxLen) (hbytes : (n + m) * bytes ≤ 140737488355328) (hbase : base ≤ w.heap.size)
    (h : ∀ v' w', w'.ownsRow base e size v' (n + m) (xs ++ news) → w.grownBy w' v.ownBlock → (v'.ownBlock = v.ownBlock ∨ v'.ownBlock = some w.heap.size) → wpList P ops Q rest (a.put o.dst v') w') : wpList P ops Q (o :: rest) a w := by
  obtain ⟨v', w', hr, h2, h3, h5⟩ : ∃ v' w', (Builtin.append_ #[t, t] o.type #[v, src]).run P w = .ok v' w' ∧ w'.ownsRow base e size v' (n + m) (xs ++ news) ∧ w.grownBy w' v.ownBlock ∧ (v'.ownBlock = v.ownBlock ∨ v'.ownBlock = some w.heap.size) := by
    rcases hsrc.2 with ⟨rfl, rfl⟩ | ⟨g, cap, cur, rfl, _⟩
    · obtain rfl : news = [] := List.eq_nil_of_length_eq_zero (by have := hsrc.1; omega)
      exact ⟨v, w, run_append_owned_none w base t o.type e i size ht hi v n xs hown, by simpa using hown, ⟨rfl, rfl, rfl, Nat.le_refl _, fun _ _ _ => rfl⟩, .inl rfl⟩
    · obtain ⟨v', w', hr, h2, h3, _, h5⟩ := run_append_own_at (P := P) w base t o.type e i z size bytes ht hi hz hsize hby hzs hsz v n xs hown ⟨g, 0, none⟩ m cap news hsrc.1 (own_news hsrc) h1 h63 hbytes hbase
      exact ⟨v', w', hr, h2, h3, h5⟩
  refine wpList_plain hgd fun K hK => ?_
  unfold Oper.wp execOp
  simp only [ho, resolve, invoke, builtin, Sem.run_bind, Sem.run_pure, Result.andThen_ok, List.map_toArray, List.map_cons, List.map_nil, hs, hx, hr]
  exact hK _ _ (h v' w' h2 h3 h5)
set_option maxHeartbeats 12800000 in
theorem implWrap_any (ad : Option Addr) (n cap : Nat) (t : Int) (l : List At) (w : World) (HI : Hid (InX w ad n (atCs l))) (hn : Hid (l.length = n)) (HM : Hid (SzM l)) (hm : n ≤ 1048576) :
    Calls Try.prog 45 #[.int .i64 t, .slice ad n cap] w (SaysAB w (resW t l) (okW t l)) := by
  have HG := Lib.hid (areAttrs_any ad n cap l w HI hn HM hm)
  cases hA : lsA l
  · have hk : okW t l = false := by unfold okW; rw [hA]; rfl
    have HX : Hid (resW t l = []) := Lib.hid (by unfold resW; rw [hk]; rfl)
    rw [hA] at HG
    rw [HX.out, hk]
    clear hA hk HX
    go_enter Try.func45, Try.ntmps45
    go_wp2_with (go_at_call 17; refine (HG.out).mono ?_; rintro e w1 ⟨rfl, b⟩; have B1 := Lib.hid b; clear b)
    go_ret2
    exact ⟨_, rfl, OwnA.nil _ _, B1.out⟩
  obtain ⟨i0, hi, hz0, hz1, hz2⟩ := info_parts infoAt
  have hsm := sm_va (va hA)
  have hlen := (va hA).len
  rw [hn.out] at hlen
  rw [hA] at HG
  have HC := Lib.hid (fun wz h => movedAttrs_any ad n cap 1 l wz (Lib.hid h) hn (Lib.hid hsm) hlen (by omega) (by omega))
  have HArg := Lib.hid (fun wz (b : BX w wz) => (show ArgX wz ad n (atCs l) from fun h => by obtain ⟨g, ha, ht, hg⟩ := HI.out.below b h; exact ⟨g, 0, ha, fun j hj => by rw [Nat.zero_add]; exact ht j hj, hg⟩))
  have HN2 : Hid ((wrA t l).length = n + 1) := Lib.hid (by rw [wrA_length, hn.out])
  have HML : Hid ((mvA 1 l).length = n) := Lib.hid (by rw [mvA_length, hn.out])
  have HWr : Hid (wrA t l = [hdA t] ++ mvA 1 l) := Lib.hid rfl
  have HG2 := Lib.hid (fun ad c wz h => areAttrs_any ad (n + 1) c (wrA t l) wz (Lib.hid h) HN2 (Lib.hid (wrA_szm HM.out)) (by omega))
  have hk : okW t l = lsA (wrA t l) := by unfold okW; rw [hA]; rfl
  have HX : Hid (resW t l = if lsA (wrA t l) then wrA t l else []) := Lib.hid (by unfold resW; rw [hk])
  rw [HX.out, hk]
  generalize wrA t l = K at HN2 HG2 HWr ⊢
  generalize mvA 1 l = M at HC HML HWr
  generalize lsA K = q at HG2 ⊢
  clear hA hk HX hsm
  have HH := Lib.hid (fun w1 (b : BX w w1) => hd_own w1 t w.heap.size (BX.size b))
  cases q
  · go_enter Try.func45, Try.ntmps45
    go_wp2_with (go_at_call 17; refine (HG.out).mono ?_; rintro e w1 ⟨rfl, b⟩; have X1 : Hid (BX w w1) := Lib.hid b; have X1b : Hid (BX w (w1.alloc (Obj.cells #[.int .i64 1, .int .i64 t, .bool true, .string ⟨#[]⟩] 56))) := Lib.hid (X1.out.alloc _); have H1 := Lib.hid (HH.out _ X1.out); clear b; refine Hid.out ?_)
    refine Lib.hid ?_
    go_wp2_with (go_at_call 73; refine (HC.out _ (HArg.out _ X1b.out)).mono ?_; rintro e w2 ⟨v2, rfl, o, b⟩; have X2 := Lib.hid (X1b.out.call b); have D2 : Hid (OwnA w2 w.heap.size (.slice (some ⟨w1.heap.size, 0, none⟩) 1 1) [hdA t]) := Lib.hid (own_low H1.out b (Nat.le_refl _)); have S2 : Hid (OwnA w2 w.heap.size v2 M) := Lib.hid (own_base o (BX.size X1b.out)); have hml := HML.out; clear b o; refine Hid.out ?_)
    refine Lib.hid ?_
    go_wp2_with (at_builtin; refine wpList_append_src _ rfl _ _ 25 rfl w.heap.size 56 i0 (.agg #[.int .i64 0, .int .i64 0, .bool false, .string ⟨#[]⟩]) 4 40 Try.underlying25 hi hz0 hz1 hz2 rfl (by decide) (.slice (some ⟨w1.heap.size, 0, none⟩) 1 1) 1 (atC (hdA t)) rfl D2.out w.heap.size v2 M.length (atCs M) rfl S2.out (atCs_one _) (by unfold maxLen; omega) (by omega) (BX.size X2.out) ?_; intro v' w3 hown1 hgrow1 _; have F := Lib.hid (appA (B := w.heap.size) (K := [hdA t]) (M := M) X2.out hown1 (BX.size X2.out) hgrow1 (fun g h => (World.ownsRow.lt D2.out g h).1)); rw [← HWr.out] at F; obtain ⟨av, cv, ev, iv'⟩ := own_in F.out.1; rw [HN2.out] at ev iv'; subst ev; have I3 := Lib.hid iv'; have O3 := Lib.hid F.out.1; clear hown1 hgrow1 iv'; refine Hid.out ?_)
    refine Lib.hid ?_
    go_wp2_with (go_at_call 17; refine (HG2.out _ _ _ I3.out).mono ?_; rintro e w4 ⟨rfl, b⟩; have X4 : Hid (BX w w4) := Lib.hid (BX.call F.out.2 b); clear b)
    go_ret2
    exact ⟨_, rfl, OwnA.nil _ _, X4.out⟩
  · go_enter Try.func45, Try.ntmps45
    go_wp2_with (go_at_call 17; refine (HG.out).mono ?_; rintro e w1 ⟨rfl, b⟩; have X1 : Hid (BX w w1) := Lib.hid b; have X1b : Hid (BX w (w1.alloc (Obj.cells #[.int .i64 1, .int .i64 t, .bool true, .string ⟨#[]⟩] 56))) := Lib.hid (X1.out.alloc _); have H1 := Lib.hid (HH.out _ X1.out); clear b; refine Hid.out ?_)
    refine Lib.hid ?_
    go_wp2_with (go_at_call 73; refine (HC.out _ (HArg.out _ X1b.out)).mono ?_; rintro e w2 ⟨v2, rfl, o, b⟩; have X2 := Lib.hid (X1b.out.call b); have D2 : Hid (OwnA w2 w.heap.size (.slice (some ⟨w1.heap.size, 0, none⟩) 1 1) [hdA t]) := Lib.hid (own_low H1.out b (Nat.le_refl _)); have S2 : Hid (OwnA w2 w.heap.size v2 M) := Lib.hid (own_base o (BX.size X1b.out)); have hml := HML.out; clear b o; refine Hid.out ?_)
    refine Lib.hid ?_
    go_wp2_with (at_builtin; refine wpList_append_src _ rfl _ _ 25 rfl w.heap.size 56 i0 (.agg #[.int .i64 0, .int .i64 0, .bool false, .string ⟨#[]⟩]) 4 40 Try.underlying25 hi hz0 hz1 hz2 rfl (by decide) (.slice (some ⟨w1.heap.size, 0, none⟩) 1 1) 1 (atC (hdA t)) rfl D2.out w.heap.size v2 M.length (atCs M) rfl S2.out (atCs_one _) (by unfold maxLen; omega) (by omega) (BX.size X2.out) ?_; intro v' w3 hown1 hgrow1 _; have F := Lib.hid (appA (B := w.heap.size) (K := [hdA t]) (M := M) X2.out hown1 (BX.size X2.out) hgrow1 (fun g h => (World.ownsRow.lt D2.out g h).1)); rw [← HWr.out] at F; obtain ⟨av, cv, ev, iv'⟩ := own_in F.out.1; rw [HN2.out] at ev iv'; subst ev; have I3 := Lib.hid iv'; have O3 := Lib.hid F.out.1; clear hown1 hgrow1 iv'; refine Hid.out ?_)
    refine Lib.hid ?_
    go_wp2_with (go_at_call 17; refine (HG2.out _ _ _ I3.out).mono ?_; rintro e w4 ⟨rfl, b⟩; have X4 : Hid (BX w w4) := Lib.hid (BX.call F.out.2 b); have O4 : Hid (OwnA w4 w.heap.size (.slice av (n + 1) cv) K) := Lib.hid (own_low O3.out b (Nat.le_refl _)); clear b)
    go_ret2
    exact ⟨_, rfl, O4.out, X4.out⟩
end Go.Proofs.Ythflehdboccloaa
