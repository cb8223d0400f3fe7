/- EncodeAttrs: the program's. -/
import Derived.Test.YthflehdboccloaaAti
import Derived.Test.YthflehdboccloaaAto
import Derived.Test.YthflehdboccloaaAtw
namespace Go.Proofs.Ythflehdboccloaa
open Go.RowKit
set_option linter.unusedVariables false
set_option maxRecDepth 100000

theorem rcL_ab (l : List At) (k : Nat) : rcL l k = abL (gA l k) (inA l k) := by
  unfold rcL abL
  rw [show ((4 + (gA l k).s.size + inA l k : Nat) : Int) = 4 + ((gA l k).s.size : Int) + (inA l k : Int) by omega]
theorem enL_next (l : List At) (k : Nat) : enL l 0 (k + 1) = enL l 0 k ++ abL (gA l k) (inA l k) := by
  rw [enL_add l (Nat.zero_le k) (Nat.le_succ k), enL_one, rcL_ab]
theorem conv_own (w : World) (B : Nat) (v : Value) (X : List Int) (ho : OwnZ w B v X) : (convert 62 9 v).run Try.prog w = .ok (.string (strOfNums X)) w := by
  obtain ⟨hl, h⟩ := ho
  rcases h with ⟨rfl, hn⟩ | ⟨g, cap, cur, rfl, hb, hg, hnc, hcm, hcs, htake⟩
  · have : X = [] := List.eq_nil_of_length_eq_zero hn
    subst this
    rw [run_convert_bytes_string w 62 9 5 none 0 0 Try.underlying62 Try.underlying5 Try.underlying9]
    rfl
  · refine run_convert_bytes_arg w 62 5 Try.underlying62 Try.underlying5 g 0 X.length cap X rfl (fun i hi => ?_) 9 Try.underlying9
    rw [Nat.zero_add]
    have hown : w.ownsRow B 5 1 (.slice (some ⟨g, 0, none⟩) X.length cap) X.length (bv X) := ⟨hl, .inr ⟨g, cap, cur, rfl, hb, hg, hnc, hcm, hcs, htake⟩⟩
    exact (World.ownsRow.cellAt hown i (by omega)).trans (bv_get X i hi)
theorem OwnZ.nil (w : World) (B : Nat) : OwnZ w B (.slice none 0 0) [] := World.ownsRow_nil _ _ _ _
def ErRel (w1 : World) (l : List At) (n : Nat) (form i : Value) (wr : World) : Prop := ∃ k : Nat, k ≤ n ∧ i = .int .i64 k ∧ BX w1 wr ∧ OwnZ wr w1.heap.size form (enL l 0 k)
theorem resE_no {l : List At} (h : okE l = false) : resE l = ⟨#[]⟩ := by unfold resE; rw [h]; rfl
theorem resE_yes {l : List At} (h : okE l = true) : resE l = strOfNums (enL l 0 l.length) := by unfold resE; rw [h]; rfl
set_option maxHeartbeats 12800000 in
theorem implEncode_any (ad : Option Addr) (n cap : Nat) (l : List At) (w : World) (HI : Hid (InX w ad n (atCs l))) (hn : Hid (l.length = n)) (HM : Hid (SzM l)) (hm : n ≤ 1048576) :
    Calls Try.prog 20 #[.slice ad n cap] w (SaysT2 w (.string (resE l)) (.bool (okE l))) := by
  have HG := Lib.hid (attrOffsets_any ad n cap l w HI hn HM hm)
  unfold SaysOF at HG
  have hE : (lsA l && decide (ofA l l.length ≤ 6000)) = okE l := rfl
  rw [hE] at HG
  cases hA : okE l
  · have HX := Lib.hid (resE_no hA)
    rw [hA] at HG
    generalize resE l = R at HX ⊢
    clear hA hE
    go_enter Try.func20, Try.ntmps20
    go_wp2_with (go_at_call 53; refine (HG.out).mono ?_; rintro e w1 ⟨v, rfl, b, _⟩; have B1 := Lib.hid b; clear b)
    go_ret2
    exact ⟨ret_sb HX.out.symm rfl, B1.out⟩
  rw [hA] at HG
  have hok := hA
  unfold okE at hok
  rw [Bool.and_eq_true, decide_eq_true_eq] at hok
  obtain ⟨hl, h6⟩ := hok
  have HX := Lib.hid (resE_yes hA)
  rw [hn.out] at HX HG
  obtain ⟨i0, hi, hz0, hz1, hz2⟩ := info_parts infoU8
  have HV := Lib.hid (va hl)
  have H6 := Lib.hid h6
  have HLL := Lib.hid hl
  have hlen := HV.out.len
  rw [hn.out] at hlen
  have hol := ofs_length l n
  rw [hol] at HG
  generalize resE l = R at HX ⊢
  clear hA hE hl h6
  go_enter Try.func20, Try.ntmps20
  go_wp2_with (go_at_call 53; refine (HG.out).mono ?_; rintro e w1 ⟨v, rfl, b, o⟩; have X1 : Hid (BX w w1) := Lib.hid b; obtain ⟨av, cv, ev, hi'⟩ := own_in (o HLL.out); obtain ⟨gz, ea, htz, hgz⟩ := hi' (by omega); subst ea; subst ev; have HZt := Lib.hid htz; clear b o hi' htz)
  go_loopw [6, 19] (fun form i wr => ErRel w1 l n form i wr) (fun _ i _ => n - (intOf i).toNat)
  case atStart => exact ⟨0, Nat.zero_le _, rfl, BX.refl w1, by rw [enL_same]; exact OwnZ.nil _ _⟩
  case round =>
    obtain ⟨k, hk, rfl, hb, ho⟩ := hrel
    have X2 := Lib.hid hb
    have O2 := Lib.hid ho
    clear hb ho
    by_cases hlt : k < n
    · obtain ⟨g, rfl, ht, hg⟩ := HI.out (by omega)
      obtain ⟨x, hx⟩ : ∃ x, gA l k = x := ⟨_, rfl⟩
      have hl1 : k < l.length := by rw [hn.out]; exact hlt
      have hX12 : BX w wr := X1.out.call (X2.out.mono (Nat.le_refl _))
      obtain ⟨a0, a1, a2, a3⟩ := (ht.below hX12 hg).atr k hl1 x hx
      have HIr := Lib.hid (HI.out.below hX12)
      have hsz := HV.out.sz k hl1
      have ht0 := HV.out.t0 k hl1
      have ht1 := HV.out.t1 k hl1
      obtain ⟨e1, e2, _⟩ := enA_is hl1
      have HE := Lib.hid (fun w h => attrEnd_any (some ⟨g, 0, none⟩) n cap l k w (Lib.hid h) hn hm hlt)
      have HNx := Lib.hid (enL_next l k)
      obtain ⟨e', he'⟩ : ∃ e', enA l k = e' := ⟨_, rfl⟩
      obtain ⟨Y, hY⟩ : ∃ Y, ofA l (k + 1) = Y := ⟨_, rfl⟩
      obtain ⟨Z, hZ⟩ : ∃ Z, ofA l e' = Z := ⟨_, rfl⟩
      have hin : inA l k = Z - Y := by unfold inA; rw [he', hZ, hY]
      rw [he'] at HE e1 e2
      rw [hn.out] at e2
      have hyz : Y ≤ Z := by rw [← hY, ← hZ]; exact ofA_mono (by omega) (by rw [hn.out]; exact e2)
      have hz6 : Z ≤ 6000 := by have := H6.out; have := ofA_mono (l := l) (j := e') (k := l.length) (by rw [hn.out]; exact e2) (Nat.le_refl _); omega
      have z0 := (HZt.out.below X2.out hgz).nat e' (by omega) Z (by rw [ofs_get l n e' e2]; exact hZ)
      have z1 := (HZt.out.below X2.out hgz).nat (k + 1) (by omega) Y (by rw [ofs_get l n (k + 1) (by omega)]; exact hY)
      have hel := enL_length l (Nat.zero_le k) (by omega : k ≤ l.length)
      have hel6 : (enL l 0 k).length ≤ 6000 := by have := H6.out; have := ofA_mono (l := l) (j := k) (k := l.length) (by omega) (Nat.le_refl _); omega
      rw [hx, hin] at HNx
      rw [hx] at hsz ht0 ht1
      have hal : (abL x (Z - Y)).length ≤ 1010 := by
        have := pad_le hsz
        unfold abL prL zrL
        simp only [List.length_append, List.length_cons, List.length_nil, nmL_length, List.length_replicate]
        omega
      have HB := Lib.hid (fun w => attrBytes_any x (Z - Y) w hsz ht0 ht1 (by omega))
      rw [show ((Z - Y : Nat) : Int) = (Z : Int) - (Y : Int) by omega] at HB
      have HLow := Lib.hid (fun wz (b : Below wr.heap.size wr wz) => (own_low O2.out b (Nat.le_refl _) : OwnZ wz w1.heap.size _ _))
      generalize enL l 0 k = E at HNx hel6 HLow O2
      generalize abL x (Z - Y) = Ab at HNx hal HB
      obtain ⟨xd, xt, xn, s⟩ := x
      unfold atV at HB
      simp only at a0 a1 a2 a3 HB
      clear hx hl1 ht hX12 hel hY hZ he' hin hsz ht0 ht1
      go_wp2_with fail
      have AI := Lib.hid (atr_is wr ⟨xd, xt, xn, s⟩ 56)
      have X3 := Lib.hid (X2.out.alloc (Obj.cells #[.int .i64 xd, .int .i64 xt, .bool xn, .string s] 56))
      have O3 := Lib.hid (HLow.out _ (one_new2 wr (Obj.cells #[.int .i64 xd, .int .i64 xt, .bool xn, .string s] 56)))
      have I3 := Lib.hid (HIr.out.below (one_new2 wr (Obj.cells #[.int .i64 xd, .int .i64 xt, .bool xn, .string s] 56)))
      have hgzr : gz < wr.heap.size := Nat.lt_of_lt_of_le hgz (BX.size X2.out)
      have y0 := ((bcell (one_new2 wr (Obj.cells #[.int .i64 xd, .int .i64 xt, .bool xn, .string s] 56))).1 _ e' hgzr).trans z0
      have y1 := ((bcell (one_new2 wr (Obj.cells #[.int .i64 xd, .int .i64 xt, .bool xn, .string s] 56))).1 _ (k + 1) hgzr).trans z1
      simp only at AI
      generalize wr.alloc (Obj.cells #[.int .i64 xd, .int .i64 xt, .bool xn, .string s] 56) = wq at AI X3 O3 I3 y0 y1 ⊢
      obtain ⟨⟨c0, c1, c2, c3⟩, cl⟩ := AI.out
      simp only at c0 c1 c2 c3
      clear a0 a1 a2 a3 z0 z1 HLow
      have hkk : (k : Int) + 1 < (n : Int) + 1 := by omega
      have hee : (e' : Int) < (n : Int) + 1 := by omega
      go_quiet ((go_at_call 54; exact Calls.quiet_of (HE.out _ (I3.out.below (below_drewN (Below.refl _ _) _)))))
      have X4 : Hid (BX w1 (wq.drewN nq)) := Lib.hid (bx_drew X3.out nq)
      have O4 : Hid (OwnZ (wq.drewN nq) w1.heap.size _ E) := Lib.hid (own_low O3.out (below_drewN (Below.refl _ _) nq : Below wq.heap.size wq (wq.drewN nq)) (Nat.le_refl _))
      obtain ⟨⟨c4, c5, c6, c7⟩, cl2⟩ := AI.out.on (below_drewN (Below.refl _ _) nq : Below wq.heap.size wq (wq.drewN nq))
      simp only at c4 c5 c6 c7
      generalize wq.drewN nq = wd at X4 O4 c4 c5 c6 c7 cl2 ⊢
      clear c0 c1 c2 c3 y0 y1
      go_wp2_with (go_at_call 55; refine (HB.out _).mono ?_; rintro e w5 ⟨vb, rfl, o, b⟩; have X5 := Lib.hid (X4.out.call b); have O5 : Hid (OwnZ w5 w1.heap.size _ E) := Lib.hid (own_low O4.out b (Nat.le_refl _)); have S5 : Hid (OwnZ w5 w1.heap.size vb Ab) := Lib.hid (own_base o (BX.size X4.out)); clear o b; refine Hid.out ?_)
      refine Lib.hid ?_
      go_wp2_with (at_builtin; refine wpList_append_src _ rfl _ _ 62 rfl w1.heap.size 5 i0 (.int .u8 0) 1 1 Try.underlying62 hi hz0 hz1 hz2 rfl (by decide) _ E.length (bv E) rfl O5.out w1.heap.size vb Ab.length (bv Ab) rfl S5.out (bv_one _) (by unfold maxLen; omega) (by omega) (BX.size X5.out) ?_; intro v' w6 hown1 hgrow1 _)
      have F := Lib.hid (snocZ (X := E) (Y := Ab) rfl X5.out hown1 (BX.size X5.out) hgrow1 (fun g h => (World.ownsRow.lt O5.out g h).1))
      clear hown1 hgrow1
      go_roundw
      case rel => exact ⟨k + 1, by omega, by go_num, F.out.2, by rw [HNx.out]; exact F.out.1⟩
      case measure => simp [intOf]; omega
    · have hkn : k = n := by omega
      subst hkn
      have hcv := conv_own wr w1.heap.size _ _ O2.out
      go_wp2_with fail
      go_ret2
      exact ⟨ret_sb HX.out.symm rfl, X1.out.call (X2.out.mono (Nat.le_refl _))⟩
end Go.Proofs.Ythflehdboccloaa
