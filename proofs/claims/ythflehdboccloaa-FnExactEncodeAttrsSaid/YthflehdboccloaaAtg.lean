/- The binary form of attributes: plain functions; the model's. -/
import Derived.Test.YthflehdboccloaaAtz
import Derived.Test.YthflehdboccloaaAtn
namespace Go.Proofs.Ythflehdboccloaa
open Go.RowKit
set_option linter.unusedVariables false
set_option maxRecDepth 100000

def nmL (s : ByteArray) : List Int := s.data.toList.map (fun x => (x.toNat : Int))
theorem nmL_length (s : ByteArray) : (nmL s).length = s.size := by unfold nmL; rw [List.length_map, Array.length_toList]; rfl
theorem nmL_back (s : ByteArray) : strOfNums (nmL s) = s := by
  obtain ⟨⟨l⟩⟩ := s
  unfold strOfNums nmL
  simp [Function.comp_def]
theorem str_app (a b : List Int) : strOfNums a ++ strOfNums b = strOfNums (a ++ b) := by
  apply ByteArray.ext
  apply Array.toList_inj.1
  simp [strOfNums, ByteArray.data_append]
def prL (n : Int) : List Int := [n % 256, n / 256]
theorem prL_size (n : Int) : (strOfNums (prL n)).size = 2 := by rw [strOfNums_size]; rfl
def kdI (x : At) : Int := if x.n then x.t + 32768 else x.t
def inA (l : List At) (k : Nat) : Nat := ofA l (enA l k) - ofA l (k + 1)
def zrL (k : Nat) : List Int := List.replicate k 0
def rcL (l : List At) (k : Nat) : List Int := prL ((4 + (gA l k).s.size + inA l k : Nat) : Int) ++ prL (kdI (gA l k)) ++ nmL (gA l k).s ++ zrL (padA (4 + (gA l k).s.size) - (4 + (gA l k).s.size))
def caL (l : List At) : Nat → Nat → List Int
  | _, 0 => []
  | p, f + 1 => rcL l p ++ caL l (p + 1) f
theorem caL_add (l : List At) : ∀ a b p, caL l p (a + b) = caL l p a ++ caL l (p + a) b
  | 0, b, p => by rw [Nat.zero_add]; rfl
  | a + 1, b, p => by
    rw [show a + 1 + b = (a + b) + 1 by omega, caL, caL, caL_add l a b (p + 1), List.append_assoc, show p + 1 + a = p + (a + 1) by omega]
def enL (l : List At) (p q : Nat) : List Int := caL l p (q - p)
theorem enL_add (l : List At) {p q r : Nat} (h : p ≤ q) (h2 : q ≤ r) : enL l p r = enL l p q ++ enL l q r := by
  unfold enL
  rw [show r - p = (q - p) + (r - q) by omega, caL_add, show p + (q - p) = q by omega]
theorem enL_same (l : List At) (p : Nat) : enL l p p = [] := by unfold enL; rw [Nat.sub_self]; rfl
theorem enL_one (l : List At) (p : Nat) : enL l p (p + 1) = rcL l p := by
  unfold enL; rw [show p + 1 - p = 0 + 1 by omega, caL, caL, List.append_nil]
theorem pad_ge (n : Nat) : n ≤ padA n := by unfold padA; omega
theorem rcL_length (l : List At) (k : Nat) : (rcL l k).length = padA (4 + (gA l k).s.size) := by
  have := pad_ge (4 + (gA l k).s.size)
  unfold rcL prL zrL
  simp only [List.length_append, List.length_cons, List.length_nil, nmL_length, List.length_replicate]
  omega
theorem caL_length (l : List At) : ∀ f p, p + f ≤ l.length → (caL l p f).length + ofA l p = ofA l (p + f)
  | 0, p, _ => by simp [caL]
  | f + 1, p, h => by
    have ih := caL_length l f (p + 1) (by omega)
    have e := ofA_succ (show p < l.length by omega)
    rw [caL, List.length_append, rcL_length, show p + (f + 1) = p + 1 + f by omega]
    omega
theorem enL_length (l : List At) {p q : Nat} (h : p ≤ q) (hq : q ≤ l.length) : (enL l p q).length = ofA l q - ofA l p := by
  have := caL_length l (q - p) p (by omega)
  rw [show p + (q - p) = q by omega] at this
  unfold enL
  omega
theorem in_flat {l : List At} (V : Va l) {i : Nat} (hi : i < l.length) (hn : (gA l i).n = false) : inA l i = 0 := by
  unfold inA; rw [en_flat V hi hn]; omega
/-- one that is not nested -/
theorem one_flat {l : List At} (V : Va l) {i : Nat} (hi : i < l.length) (hn : (gA l i).n = false) :
    enL l i (enA l i) = prL ((4 + (gA l i).s.size : Nat) : Int) ++ prL (gA l i).t ++ nmL (gA l i).s ++ zrL (padA (4 + (gA l i).s.size) - (4 + (gA l i).s.size)) := by
  rw [en_flat V hi hn, enL_one]
  unfold rcL kdI
  rw [in_flat V hi hn, hn]
  simp
theorem one_nest {l : List At} (V : Va l) {i : Nat} (hi : i < l.length) (hn : (gA l i).n = true) :
    enL l i (enA l i) = prL ((4 + (enL l (i + 1) (enA l i)).length : Nat) : Int) ++ prL ((gA l i).t + 32768) ++ enL l (i + 1) (enA l i) := by
  obtain ⟨a, b, _⟩ := enA_is hi
  have hz := V.nz i hi hn
  rw [enL_add l (show i ≤ i + 1 by omega) a, enL_one, enL_length l a b]
  unfold rcL kdI inA
  rw [hn, hz]
  have e0 : nmL (gA l i).s = [] := List.eq_nil_of_length_eq_zero (by rw [nmL_length]; exact hz)
  rw [e0]
  simp [zrL, padA]
/-! The model. -/
theorem conv_two (w : World) (a b : Int) : (convert 62 9 (.slice (some ⟨w.heap.size, 0, none⟩) 2 2)).run Try.prog (w.alloc (.cells #[.int .u8 a, .int .u8 b] 5)) = .ok (.string (strOfNums [a, b])) (w.alloc (.cells #[.int .u8 a, .int .u8 b] 5)) :=
  run_convert_bytes_arg (w.alloc (.cells #[.int .u8 a, .int .u8 b] 5)) 62 5 Try.underlying62 Try.underlying5 w.heap.size 0 2 2 [a, b] rfl
    (fun i hi => by
      rcases (show i = 0 ∨ i = 1 by omega) with rfl | rfl <;> rw [World.cell?_alloc_at _ _ _ _ rfl] <;> rfl) 9 Try.underlying9
set_option maxHeartbeats 1600000 in
theorem tvWord_any (n : Int) (w : World) (h0 : 0 ≤ n) (h1 : n < 65536) : Calls Try.prog 96 #[.int .i64 n] w (SaysT w (strOfNums (prL n))) := by
  have HX : Hid (prL n = [n % 256, n / 256]) := Lib.hid rfl
  have cv := conv_two
  have e1 : IntKind.u8.wrap (n % 256) = n % 256 := IntWalk.u8_in _ (by omega)
  have e2 : IntKind.u8.wrap (n / 256) = n / 256 := IntWalk.u8_in _ (by omega)
  rw [HX.out]
  go_enter Try.func96, Try.ntmps96
  go_wp2
  go_ret
  exact ⟨rfl, one_new2 _ _⟩
theorem ofA_mod (l : List At) (k : Nat) : ofA l k % 4 = 0 := by
  unfold ofA
  generalize l.take k = m
  induction m with
  | nil => rfl
  | cons x r ih =>
    rw [List.map_cons, List.sum_cons]
    have : padA (4 + x.s.size) % 4 = 0 := by unfold padA; omega
    omega
def AllS (l : List At) (ad : Option Addr) (n cap N : Nat) : Prop := ∀ (p q : Nat) (w : World), InX w ad n (atCs l) → Thru l p q → q - p ≤ N → Calls Try.prog 76 #[.slice ad n cap, .int .i64 (p : Int), .int .i64 (q : Int)] w (SaysT w (strOfNums (enL l p q)))
def ZsRel (w : World) (X : List Int) (m : Nat) (v : Value) (wr : World) : Prop := ∃ (j : Nat) (t : ByteArray), j ≤ m ∧ v = .string t ∧ Hid (t = strOfNums (X ++ zrL j)) ∧ t.size = X.length + j ∧ BX w wr
theorem zrL_succ (k : Nat) : zrL (k + 1) = zrL k ++ [0] := by unfold zrL; rw [List.replicate_succ']
set_option maxHeartbeats 12800000 in
theorem tvOne_of (ad : Option Addr) (n cap N : Nat) (l : List At) (i : Nat) (w : World) (HL : Hid (AllS l ad n cap N)) (HI : Hid (InX w ad n (atCs l))) (hn : Hid (l.length = n)) (HV : Hid (Va l)) (h6 : Hid (ofA l l.length ≤ 6000)) (hm : n ≤ 1048576) (hi : i < n) (hN : enA l i - (i + 1) ≤ N) :
    Calls Try.prog 88 #[.slice ad n cap, .int .i64 (i : Int)] w (SaysT w (strOfNums (enL l i (enA l i)))) := by
  obtain ⟨g, rfl, ht, hg⟩ := HI.out (by omega)
  have hil : i < l.length := by rw [hn.out]; exact hi
  obtain ⟨x, hx⟩ : ∃ x, gA l i = x := ⟨_, rfl⟩
  obtain ⟨a0, a1, a2, a3⟩ := ht.atr i hil x hx
  have hsz := HV.out.sz i hil
  have ht0 := HV.out.t0 i hil
  have ht1 := HV.out.t1 i hil
  have HE := Lib.hid (fun w h => tvEnd_any (some ⟨g, 0, none⟩) n cap l i w (Lib.hid h) hn hm hi)
  rw [hx] at hsz ht0 ht1
  cases hnn : x.n
  · have HZ := Lib.hid (one_flat HV.out hil (by rw [hx]; exact hnn))
    rw [hx] at HZ
    obtain ⟨xd, xt, xn, s⟩ := x
    simp only at a0 a1 a2 a3 hsz hnn ht0 ht1 HZ
    subst hnn
    have hpg := pad_ge (4 + s.size)
    have hpl := pad_le hsz
    have HW1 := Lib.hid (fun w => tvWord_any (4 + (s.size : Int)) w (by omega) (by omega))
    have HW2 := Lib.hid (fun w => tvWord_any xt w ht0 (by omega))
    have HP := Lib.hid (fun w => tvPad_any (4 + s.size) w (by omega))
    rw [show ((4 + s.size : Nat) : Int) = 4 + (s.size : Int) by omega] at HP HZ
    obtain ⟨Pd, hPd⟩ : ∃ P, padA (4 + s.size) = P := ⟨_, rfl⟩
    rw [hPd] at HP HZ hpg hpl
    obtain ⟨X, hX⟩ : ∃ X, prL (4 + (s.size : Int)) ++ prL xt ++ nmL s = X := ⟨_, rfl⟩
    have HXl : Hid (X.length = 4 + s.size) := Lib.hid (by rw [← hX]; simp [prL, nmL_length]; omega)
    have HS : Hid (strOfNums (prL (4 + (s.size : Int))) ++ strOfNums (prL xt) ++ s = strOfNums X) := Lib.hid (by rw [← hX, ← str_app, ← str_app, nmL_back])
    rw [hX] at HZ
    rw [HZ.out]
    have hp1 := prL_size (4 + (s.size : Int))
    have hp2 := prL_size xt
    generalize strOfNums (prL (4 + (s.size : Int))) = P1 at hp1 HS HW1
    generalize strOfNums (prL xt) = P2 at hp2 HS HW2
    have hp3 : (P1 ++ P2).size = 4 := by rw [ByteArray.size_append]; omega
    clear hx ht hPd hX HZ
    go_enter Try.func88, Try.ntmps88
    go_wp2_with (first | (go_at_call 96; (with_reducible refine (HW1.out _).mono ?_); rintro _ w1 ⟨rfl, b⟩; have X1 : Hid (BX w w1) := Lib.hid b; clear b; refine Hid.out ?_))
    refine Lib.hid ?_
    go_wp2_with (go_at_call 96; refine (HW2.out _).mono ?_; rintro _ w2 ⟨rfl, b⟩; have X2 : Hid (BX w w2) := Lib.hid (X1.out.call b); clear b; refine Hid.out ?_)
    refine Lib.hid ?_
    go_wp2_with fail
    rw [HS.out]
    have HT0 : Hid (strOfNums X = strOfNums (X ++ zrL 0)) := Lib.hid (by simp [zrL])
    have HTs : (strOfNums X).size = X.length + 0 := by rw [strOfNums_size]; omega
    generalize strOfNums X = T0 at HT0 HTs ⊢
    go_loopw [8] (fun v wr => ZsRel w X (Pd - (4 + s.size)) v wr) (fun v _ => match v with | .string t => Pd - t.size | _ => 0)
    case atStart => exact ⟨0, T0, Nat.zero_le _, rfl, HT0, HTs, X2.out⟩
    case round =>
      obtain ⟨j, t, hj, rfl, HT, hts, hb⟩ := hrel
      have X3 := Lib.hid hb
      have hxl := HXl.out
      clear hb
      by_cases hlt : j < Pd - (4 + s.size)
      · have dq : decide ((t.size : Int) < (Pd : Int)) = true := is_lt (by omega)
        have HZ0 : Hid (strOfNums [0] = (⟨#[0]⟩ : ByteArray)) := Lib.hid rfl
        have HT2 : Hid (t ++ ⟨#[0]⟩ = strOfNums (X ++ zrL (j + 1))) := Lib.hid (by rw [HT.out, zrL_succ, ← List.append_assoc, ← str_app (X ++ zrL j) [0], HZ0.out])
        have hts2 : (t ++ (⟨#[0]⟩ : ByteArray)).size = X.length + (j + 1) := by rw [ByteArray.size_append, hts]; rfl
        go_wp2_with (go_at_call 86; refine (HP.out _).mono ?_; rintro e w' ⟨rfl, rfl⟩)
        generalize t ++ (⟨#[0]⟩ : ByteArray) = t2 at HT2 hts2 ⊢
        go_roundw
        case rel => exact ⟨j + 1, t2, by omega, rfl, HT2, hts2, X3.out⟩
        case measure => simp only; omega
      · have hjj : j = Pd - (4 + s.size) := by omega
        have dq : decide ((t.size : Int) < (Pd : Int)) = false := not_lt (by omega)
        go_wp2_with (go_at_call 86; refine (HP.out _).mono ?_; rintro e w' ⟨rfl, rfl⟩)
        go_ret
        exact ⟨ret_str (by rw [HT.out, hjj]), X3.out⟩
  · have hZ := one_nest HV.out hil (by rw [hx]; exact hnn)
    obtain ⟨e1, e2, _⟩ := enA_is hil
    have hbl := enL_length l (show i + 1 ≤ enA l i by omega) e2
    have hmono := ofA_mono (l := l) e2 (Nat.le_refl _)
    have h66 := h6.out
    have hm4 := ofA_mod l (enA l i)
    have hm5 := ofA_mod l (i + 1)
    have hmm := ofA_mono (l := l) (show i + 1 ≤ enA l i by omega) e2
    have HL2 := Lib.hid (fun w h => HL.out (i + 1) (enA l i) w h (thru_in hil) hN)
    rw [show ((i + 1 : Nat) : Int) = (i : Int) + 1 by omega] at HL2
    rw [hx] at hZ
    rw [hZ]
    have hpad : padA (4 + (enL l (i + 1) (enA l i)).length) = 4 + (enL l (i + 1) (enA l i)).length := by unfold padA; omega
    have hlen : (enL l (i + 1) (enA l i)).length ≤ 6000 := by omega
    clear hZ hbl hmono hm4 hm5 hmm h66
    generalize enL l (i + 1) (enA l i) = Bd at HL2 hpad hlen ⊢
    generalize enA l i = e' at HL2 HE
    obtain ⟨xd, xt, xn, s⟩ := x
    simp only at a0 a1 a2 a3 hsz hnn ht0 ht1 ⊢
    subst hnn
    have HW1 := Lib.hid (fun w => tvWord_any (4 + (Bd.length : Int)) w (by omega) (by omega))
    have HW2 := Lib.hid (fun w => tvWord_any (xt + 32768) w (by omega) (by omega))
    have HP := Lib.hid (fun w => tvPad_any (4 + Bd.length) w (by omega))
    rw [hpad] at HP
    rw [show ((4 + Bd.length : Nat) : Int) = 4 + (Bd.length : Int) by omega] at HP ⊢
    have HS : Hid (strOfNums (prL (4 + (Bd.length : Int))) ++ strOfNums (prL (xt + 32768)) ++ strOfNums Bd = strOfNums (prL (4 + (Bd.length : Int)) ++ prL (xt + 32768) ++ Bd)) := Lib.hid (by rw [← str_app, ← str_app])
    have hbs : (strOfNums Bd).size = Bd.length := strOfNums_size _
    have hp1 := prL_size (4 + (Bd.length : Int))
    have hp2 := prL_size (xt + 32768)
    generalize strOfNums (prL (4 + (Bd.length : Int)) ++ prL (xt + 32768) ++ Bd) = R at HS ⊢
    generalize strOfNums (prL (4 + (Bd.length : Int))) = P1 at hp1 HS HW1
    generalize strOfNums (prL (xt + 32768)) = P2 at hp2 HS HW2
    generalize strOfNums Bd = B at hbs HS HL2
    have hp3 : (P1 ++ P2).size = 4 := by rw [ByteArray.size_append]; omega
    have hrs : R.size = 4 + B.size := by rw [← HS.out, ByteArray.size_append]; omega
    rw [← hbs] at HP HW1 hlen
    clear hx ht hpad hbs
    go_enter Try.func88, Try.ntmps88
    go_wp2_with (go_at_call 63; refine (HE.out _ HI.out).mono ?_; rintro _ w1 ⟨rfl, q, hq⟩; have X1 : Hid (BX w w1) := Lib.hid (by rw [hq]; exact bx_drew (BX.refl w) q); clear hq; refine Hid.out ?_)
    refine Lib.hid ?_
    go_wp2_with (go_at_call 76; refine (HL2.out _ (HI.out.below X1.out)).mono ?_; rintro _ w2 ⟨rfl, b⟩; have X2 : Hid (BX w w2) := Lib.hid (X1.out.call b); clear b; refine Hid.out ?_)
    refine Lib.hid ?_
    go_wp2_with (go_at_call 96; refine (HW1.out _).mono ?_; rintro _ w3 ⟨rfl, b⟩; have X3 : Hid (BX w w3) := Lib.hid (X2.out.call b); clear b; refine Hid.out ?_)
    refine Lib.hid ?_
    go_wp2_with (go_at_call 96; refine (HW2.out _).mono ?_; rintro _ w4 ⟨rfl, b⟩; have X4 : Hid (BX w w4) := Lib.hid (X3.out.call b); clear b; refine Hid.out ?_)
    refine Lib.hid ?_
    go_wp2_with fail
    rw [HS.out]
    have dq : decide ((R.size : Int) < 4 + (B.size : Int)) = false := not_lt (by omega)
    refine wp_loop_rounds 1 ?_
    rw [rounds_succ]
    go_wp2_with (go_at_call 86; refine (HP.out _).mono ?_; rintro e w' ⟨rfl, rfl⟩)
    go_ret
    exact ⟨rfl, X4.out⟩
def AsRel (w : World) (l : List At) (p q : Nat) (t v : Value) (wr : World) : Prop := ∃ (k : Nat) (T : ByteArray), p ≤ k ∧ Hid (Thru l k q) ∧ v = .int .i64 k ∧ t = .string T ∧ Hid (T = strOfNums (enL l p k)) ∧ T.size ≤ 6000 ∧ BX w wr
set_option maxHeartbeats 6400000 in
theorem tvAll_all (ad : Option Addr) (n cap : Nat) (l : List At) (hn : Hid (l.length = n)) (HV : Hid (Va l)) (h6 : Hid (ofA l l.length ≤ 6000)) (hm : n ≤ 1048576) : ∀ N, AllS l ad n cap N
  | 0 => by
    intro p q w hI hT hN
    have hpq : q = p := by have := hT.1; omega
    subst hpq
    rw [enL_same]
    clear hT hN hI
    go_enter Try.func76, Try.ntmps76
    go_wp2_with fail
    refine wp_loop_rounds 1 ?_
    rw [rounds_succ]
    go_wp2_with fail
    go_ret
    exact ⟨rfl, Below.refl _ _⟩
  | N + 1 => by
    intro p q w hI hT hN
    have HI := Lib.hid hI
    have HT := Lib.hid hT
    have HL := Lib.hid (tvAll_all ad n cap l hn HV h6 hm N)
    have hq : q ≤ n := by rw [← hn.out]; exact hT.2.1
    clear hI hT
    go_enter Try.func76, Try.ntmps76
    go_wp2_with fail
    go_loopw [7, 8] (fun t v wr => AsRel w l p q t v wr) (fun _ v _ => n - (intOf v).toNat)
    case atStart => exact ⟨p, ⟨#[]⟩, Nat.le_refl _, HT, rfl, rfl, Lib.hid (by rw [enL_same]; rfl), Nat.zero_le _, BX.refl w⟩
    case round =>
      obtain ⟨k, T, hpk, HK, rfl, rfl, HTT, hts, hb⟩ := hrel
      have X1 := Lib.hid hb
      have hkq := HK.out.1
      clear hb
      by_cases hlt : k < q
      · have hkn : k < n := by omega
        have hkl : k < l.length := by rw [hn.out]; exact hkn
        obtain ⟨e1, e2, _⟩ := enA_is hkl
        have hek := HK.out.2.2 k (Nat.le_refl _) hlt
        have HS := Lib.hid (fun w h => tvOne_of ad n cap N l k w HL (Lib.hid h) hn HV h6 hm hkn (by omega))
        have HE := Lib.hid (fun w h => tvEnd_any ad n cap l k w (Lib.hid h) hn hm hkn)
        have HTn := Lib.hid (HK.out.next hlt)
        have HA := Lib.hid (enL_add l hpk (show k ≤ enA l k by omega))
        have hl1 := enL_length l (show k ≤ enA l k by omega) e2
        have hl2 := enL_length l (show p ≤ enA l k by omega) e2
        have hmono := ofA_mono (l := l) e2 (Nat.le_refl _)
        have h66 := h6.out
        have hl3 : (strOfNums (enL l k (enA l k))).size ≤ 6000 := by rw [strOfNums_size]; omega
        have hl4 : (strOfNums (enL l p (enA l k))).size ≤ 6000 := by rw [strOfNums_size]; omega
        have HC : Hid (T ++ strOfNums (enL l k (enA l k)) = strOfNums (enL l p (enA l k))) := Lib.hid (by rw [HTT.out, str_app, ← HA.out])
        have HLp : Hid (strOfNums (enL l p (enA l k)) = strOfNums (enL l p (enA l k))) := Lib.hid rfl
        generalize strOfNums (enL l k (enA l k)) = S1 at HS HC hl3
        generalize hT2 : strOfNums (enL l p (enA l k)) = T2 at HC hl4
        have HT2 : Hid (T2 = strOfNums (enL l p (enA l k))) := Lib.hid hT2.symm
        clear hl1 hl2 hmono h66 hT2 HLp
        generalize enA l k = e' at HE HTn HT2 e1 e2 hek
        go_wp2_with (go_at_call 88; refine (HS.out _ (HI.out.below X1.out)).mono ?_; rintro _ w1 ⟨rfl, b⟩; have X2 : Hid (BX w w1) := Lib.hid (X1.out.call b); clear b; refine Hid.out ?_)
        refine Lib.hid ?_
        go_wp2_with (go_at_call 63; refine (HE.out _ (HI.out.below X2.out)).mono ?_; rintro _ w2 ⟨rfl, q2, hq2⟩; have X3 : Hid (BX w w2) := Lib.hid (by rw [hq2]; exact bx_drew X2.out q2); clear hq2)
        rw [HC.out]
        go_roundw
        case rel => exact ⟨e', T2, by omega, HTn, rfl, rfl, HT2, hl4, X3.out⟩
        case measure => simp [intOf]; omega
      · have hkq2 : k = q := by omega
        subst hkq2
        go_wp2_with fail
        go_ret
        exact ⟨ret_str HTT.out, X1.out⟩
def okE (l : List At) : Bool := lsA l && decide (ofA l l.length ≤ 6000)
def resE (l : List At) : ByteArray := if okE l then strOfNums (enL l 0 l.length) else ⟨#[]⟩
theorem ret_sb {a b : ByteArray} {p q : Bool} (h : a = b) (h' : p = q) : Ending.returned (.tuple #[.string a, .bool p]) = .returned (.tuple #[.string b, .bool q]) := by rw [h, h']
set_option maxHeartbeats 6400000 in
theorem specEncode_any (ad : Option Addr) (n cap : Nat) (l : List At) (w : World) (HI : Hid (InX w ad n (atCs l))) (hn : Hid (l.length = n)) (HM : Hid (SzM l)) (hm : n ≤ 1048576) :
    Calls Try.prog 19 #[.slice ad n cap] w (SaysT2 w (.string (resE l)) (.bool (okE l))) := by
  have HG := Lib.hid (tvGood_any ad n cap l w HI hn HM hm)
  cases hA : lsA l
  · have hk : okE l = false := by unfold okE; rw [hA]; rfl
    have HX : Hid (resE l = ⟨#[]⟩) := Lib.hid (by unfold resE; rw [hk]; rfl)
    rw [hA] at HG
    rw [hk]
    generalize resE l = R at HX ⊢
    clear hA hk
    go_enter Try.func19, Try.ntmps19
    go_wp2_with (go_at_call 47; refine (HG.out).mono ?_; rintro e w1 ⟨rfl, b⟩; have B1 := Lib.hid b; clear b)
    go_ret2
    exact ⟨ret_sb HX.out.symm rfl, B1.out⟩
  rw [hA] at HG
  have HV := Lib.hid (va hA)
  have HL := Lib.hid (fun w h => tvLength_any ad n cap l hn HV hm 0 l.length w h (thru_all l))
  rw [ofA_zero, Nat.sub_zero] at HL
  have hb := ofA_le HV.out l.length (Nat.le_refl _)
  have hlen := HV.out.len
  have hb2 : ofA l l.length ≤ 401600 := by omega
  have HTx : Hid (∀ w, InX w ad n (atCs l) → Calls Try.prog 52 #[.slice ad n cap] w (SaysT2 w (.string (resE l)) (.bool (okE l)))) := Lib.hid (fun wz hI => by
    have HI2 := Lib.hid hI
    have hk : okE l = decide (ofA l l.length ≤ 6000) := by unfold okE; rw [hA]; rfl
    by_cases h6 : ofA l l.length ≤ 6000
    · have HA := Lib.hid (fun w h => tvAll_all ad n cap l hn HV (Lib.hid h6) hm l.length 0 l.length w h (thru_all l) (by omega))
      have HX : Hid (resE l = strOfNums (enL l 0 l.length)) := Lib.hid (by unfold resE; rw [hk, decide_eq_true h6]; rfl)
      rw [hk, decide_eq_true h6]
      have d6 : decide ((6000 : Int) < ((ofA l l.length : Nat) : Int)) = false := not_lt (by omega)
      rw [hn.out] at HL HA HX d6 hb2
      generalize resE l = R at HX ⊢
      generalize strOfNums (enL l 0 n) = T at HX HA
      generalize ofA l n = M at HL d6 hb2
      clear hI hA hk h6 hb hlen
      go_enter Try.func52, Try.ntmps52
      go_wp2_with (go_at_call 60; refine (HL.out _ HI2.out).mono ?_; rintro _ w1 ⟨rfl, q, hq⟩; have X1 : Hid (BX wz w1) := Lib.hid (by rw [hq]; exact bx_drew (BX.refl wz) q); clear hq; refine Hid.out ?_)
      refine Lib.hid ?_
      go_wp2_with (go_at_call 76; refine (HA.out _ (HI2.out.below X1.out)).mono ?_; rintro _ w2 ⟨rfl, b⟩; have X2 : Hid (BX wz w2) := Lib.hid (X1.out.call b); clear b)
      go_ret2
      exact ⟨ret_sb HX.out.symm rfl, X2.out⟩
    · have HX : Hid (resE l = ⟨#[]⟩) := Lib.hid (by unfold resE; rw [hk, decide_eq_false h6]; rfl)
      rw [hk, decide_eq_false h6]
      have d6 : decide ((6000 : Int) < ((ofA l l.length : Nat) : Int)) = true := is_lt (by omega)
      rw [hn.out] at HL d6 hb2
      generalize resE l = R at HX ⊢
      generalize ofA l n = M at HL d6 hb2
      clear hI hA hk h6 hb hlen
      go_enter Try.func52, Try.ntmps52
      go_wp2_with (go_at_call 60; refine (HL.out _ HI2.out).mono ?_; rintro _ w1 ⟨rfl, q, hq⟩; have X1 : Hid (BX wz w1) := Lib.hid (by rw [hq]; exact bx_drew (BX.refl wz) q); clear hq)
      go_ret2
      exact ⟨ret_sb HX.out.symm rfl, X1.out⟩)
  generalize resE l = R at HTx ⊢
  generalize okE l = q at HTx ⊢
  clear hA hb hlen hb2
  go_enter Try.func19, Try.ntmps19
  go_wp2_with (first | (go_at_call 47; refine (HG.out).mono ?_; rintro e w1 ⟨rfl, b⟩; have B1 := Lib.hid b; have I1 := Lib.hid (HI.out.below b); clear b) | (go_at_call 52; refine (HTx.out _ I1.out).mono ?_; rintro e w2 ⟨rfl, b⟩; have B2 := Lib.hid (B1.out.trans (b.mono B1.out.size)); clear b))
  go_ret2
  exact ⟨rfl, B2.out⟩
end Go.Proofs.Ythflehdboccloaa
