/- The text of a fault read back: numerals, pieces, the library's cut: plain facts. -/
import Derived.Test.YtdfkehgkonadhaaDoorFft
import Derived.Test.YtdfkehgkonadhaaDoorFsp
import Derived.Test.YtdfkehgkonadhaaDoorRdl
import Derived.Lib.IndexMore
import Derived.Lib.IndexLaws
namespace Go.Proofs.YtdfkehgkonadhaaDoor
set_option maxRecDepth 100000
open Go.RowKit
set_option linter.unusedVariables false
set_option linter.unusedSimpArgs false

theorem head_app {α : Type} (l m : List α) (h : l ≠ []) : (l ++ m).head? = l.head? := by cases l with | nil => exact absurd rfl h | cons a r => rfl
theorem len_pos {α : Type} {l : List α} (h : l ≠ []) : 0 < l.length := by cases l with | nil => exact absurd rfl h | cons a r => simp
/-! Numerals. -/
theorem rdN_snoc (b lim : Int) (c : UInt8) : ∀ (l : List UInt8) (t : Int), rdN b lim (l ++ [c]) t = (rdN b lim l t).bind (fun v => if 0 ≤ dg b (c.toNat : Int) ∧ v * b + dg b (c.toNat : Int) ≤ lim then Option.some (v * b + dg b (c.toNat : Int)) else none)
  | [], t => by
    simp only [List.nil_append, rdN, Option.bind_some]
  | x :: r, t => by
    simp only [List.cons_append, rdN]
    split
    · exact rdN_snoc b lim c r _
    · rfl
theorem dg_digit (d : Nat) (h : d < 10) : dg 10 ((UInt8.ofNat (48 + d)).toNat : Int) = d := by
  rw [UInt8.toNat_ofNat']
  rcases dv_cases (((48 + d) % 2 ^ 8 : Nat) : Int) with ⟨_, _⟩ | ⟨_, _, e⟩ | ⟨_, _, _⟩ | ⟨_, _, _⟩ | ⟨_, _⟩ <;> first | omega | (unfold dg; rw [e]; split <;> omega)
theorem dg_back (c : UInt8) (h : 0 ≤ dg 10 (c.toNat : Int)) : ∃ d : Nat, d < 10 ∧ c = UInt8.ofNat (48 + d) ∧ dg 10 (c.toNat : Int) = d := by
  have hc := UInt8.toNat_lt c
  have key : 48 ≤ c.toNat ∧ c.toNat ≤ 57 := by
    rcases dv_cases (c.toNat : Int) with ⟨_, e⟩ | ⟨_, _, e⟩ | ⟨_, _, e⟩ | ⟨_, _, e⟩ | ⟨_, e⟩ <;> unfold dg at h <;> rw [e] at h <;> split at h <;> omega
  refine ⟨c.toNat - 48, by omega, ?_, ?_⟩
  · apply UInt8.toNat_inj.1
    rw [UInt8.toNat_ofNat']
    omega
  · rcases dv_cases (c.toNat : Int) with ⟨_, _⟩ | ⟨_, _, e⟩ | ⟨_, _, _⟩ | ⟨_, _, _⟩ | ⟨_, _⟩ <;> first | omega | (unfold dg; rw [e]; split <;> omega)
theorem dec_small {n : Nat} (h : n < 10) : Lib.decDigits n = [UInt8.ofNat (48 + n)] := by rw [Lib.decDigits, dif_pos h]
theorem dec_big {n : Nat} (h : 10 ≤ n) : Lib.decDigits n = Lib.decDigits (n / 10) ++ [UInt8.ofNat (48 + n % 10)] := by rw [Lib.decDigits, dif_neg (by omega)]
theorem rdN_dec (lim : Int) : ∀ (n : Nat), (n : Int) ≤ lim → rdN 10 lim (Lib.decDigits n) 0 = Option.some (n : Int) := by
  intro n
  induction n using Nat.strongRecOn with
  | ind n ih =>
    intro hn
    rcases Nat.lt_or_ge n 10 with h | h
    · rw [dec_small h]
      simp only [rdN, dg_digit n h]
      rw [if_pos (by omega)]
      congr 1
      omega
    · rw [dec_big h, rdN_snoc, ih (n / 10) (by omega) (by omega), Option.bind_some, dg_digit (n % 10) (by omega), if_pos (by omega)]
      congr 1
      omega
theorem dec_ne (n : Nat) : Lib.decDigits n ≠ [] := by
  rcases Nat.lt_or_ge n 10 with h | h
  · rw [dec_small h]; simp
  · rw [dec_big h]; simp
theorem dec_head : ∀ (n : Nat), 1 ≤ n → (Lib.decDigits n).head? ≠ Option.some 48 := by
  intro n
  induction n using Nat.strongRecOn with
  | ind n ih =>
    intro hn
    rcases Nat.lt_or_ge n 10 with h | h
    · rw [dec_small h]
      simp only [List.head?_cons, ne_eq, Option.some.injEq]
      intro e
      have := congrArg UInt8.toNat e
      rw [UInt8.toNat_ofNat'] at this
      simp at this
      omega
    · rw [dec_big h, head_app _ _ (dec_ne _)]
      exact ih (n / 10) (by omega) (by omega)
theorem rdT_dec (lim : Int) (n : Nat) (h : (n : Int) ≤ lim) : rdT 10 lim (Lib.decDigits n) = Option.some (n : Int) := by
  unfold rdT
  rw [if_neg, rdN_dec lim n h]
  rintro (e | ⟨e1, e2⟩)
  · exact dec_ne n e
  · rcases Nat.eq_zero_or_pos n with h0 | h0
    · subst h0
      rw [dec_small (by decide)] at e1
      simp at e1
    · exact dec_head n h0 e2
theorem rdN_back (lim : Int) : ∀ (k : Nat) (l : List UInt8), l.length = k → l ≠ [] → ¬ (1 < l.length ∧ l.head? = Option.some 48) → ∀ v, rdN 10 lim l 0 = Option.some v → ∃ n : Nat, v = n ∧ (n : Int) ≤ lim ∧ l = Lib.decDigits n := by
  intro k
  induction k with
  | zero => intro l hl hne; exact absurd (List.eq_nil_of_length_eq_zero hl) hne
  | succ k ih =>
    intro l hl hne hz v hv
    obtain ⟨l', c, rfl⟩ : ∃ l' c, l = l' ++ [c] := ⟨l.dropLast, l.getLast hne, (List.dropLast_concat_getLast hne).symm⟩
    rw [rdN_snoc] at hv
    by_cases h0 : l' = []
    · subst h0
      simp only [rdN, Option.bind_some] at hv
      split at hv
      · rename_i hq
        obtain ⟨d, hd, hc, he⟩ := dg_back c hq.1
        rw [he] at hv hq
        cases hv
        exact ⟨d, by omega, by omega, by rw [dec_small hd, hc]; rfl⟩
      · cases hv
    · have hl' : l'.length = k := by simpa using hl
      cases hr : rdN 10 lim l' 0 with
      | none => rw [hr] at hv; cases hv
      | some v' =>
        rw [hr] at hv
        simp only [Option.bind_some] at hv
        have hz' : ¬ (1 < l'.length ∧ l'.head? = Option.some 48) := fun ⟨a, b⟩ => hz ⟨by simp; omega, by rw [head_app _ _ h0]; exact b⟩
        obtain ⟨n', e1, e2, e3⟩ := ih l' hl' h0 hz' v' hr
        have hlen : 1 < (l' ++ [c]).length := by
          have : 0 < l'.length := len_pos h0
          simp; omega
        have hn' : 1 ≤ n' := by
          rcases Nat.eq_zero_or_pos n' with q | q
          · exfalso
            apply hz
            refine ⟨hlen, ?_⟩
            rw [head_app _ _ h0, e3, q, dec_small (by decide)]
            rfl
          · exact q
        split at hv
        · rename_i hq
          obtain ⟨d, hd, hc, he⟩ := dg_back c hq.1
          rw [he] at hv hq
          cases hv
          refine ⟨n' * 10 + d, by omega, by omega, ?_⟩
          rw [dec_big (by omega), show (n' * 10 + d) / 10 = n' by omega, show (n' * 10 + d) % 10 = d by omega, ← e3, hc]
        · cases hv
theorem rdT_back (lim : Int) (l : List UInt8) (v : Int) (h : rdT 10 lim l = Option.some v) : ∃ n : Nat, v = n ∧ (n : Int) ≤ lim ∧ l = Lib.decDigits n := by
  unfold rdT at h
  split at h
  · cases h
  · rename_i hq
    exact rdN_back lim l.length l rfl (fun e => hq (.inl e)) (fun e => hq (.inr e)) v h
theorem dec_no32 : ∀ (n : Nat) (x : UInt8), x ∈ Lib.decDigits n → x ≠ 32 := by
  intro n
  induction n using Nat.strongRecOn with
  | ind n ih =>
    intro x hx
    have key : ∀ d, d < 10 → UInt8.ofNat (48 + d) ≠ 32 := fun d hd e => by
      have := congrArg UInt8.toNat e
      rw [UInt8.toNat_ofNat'] at this
      simp at this
      omega
    rcases Nat.lt_or_ge n 10 with h | h
    · rw [dec_small h, List.mem_singleton] at hx
      subst hx
      exact key n h
    · rw [dec_big h] at hx
      rcases List.mem_append.1 hx with hx | hx
      · exact ih (n / 10) (by omega) x hx
      · rw [List.mem_singleton] at hx
        subst hx
        exact key _ (by omega)
/-! Pieces and the cut. -/
theorem kn_no32 (k : Nat) (hk : k < 8) : ∀ x ∈ (kn k).data.toList, x ≠ 32 := by
  rcases (show k = 0 ∨ k = 1 ∨ k = 2 ∨ k = 3 ∨ k = 4 ∨ k = 5 ∨ k = 6 ∨ k = 7 by omega) with rfl | rfl | rfl | rfl | rfl | rfl | rfl | rfl <;> decide
theorem scA_pc (b : UInt8) : ∀ (p acc r : List UInt8), (∀ c ∈ p, c ≠ b) → scA b acc (p ++ b :: r) = (acc ++ p) :: scL b r
  | [], acc, r, _ => by simp [scA, scL]
  | c :: p, acc, r, h => by
    rw [List.cons_append, scA, if_neg (h c (by simp)), scA_pc b p (acc ++ [c]) r (fun x hx => h x (by simp [hx]))]
    simp
theorem scA_lt (b : UInt8) : ∀ (p acc : List UInt8), (∀ c ∈ p, c ≠ b) → scA b acc p = [acc ++ p]
  | [], acc, _ => by simp [scA]
  | c :: p, acc, h => by
    rw [scA, if_neg (h c (by simp)), scA_lt b p (acc ++ [c]) (fun x hx => h x (by simp [hx]))]
    simp
theorem ft_list (k n : Nat) : (ftT k n).data.toList = (kn k).data.toList ++ (32 :: ([97, 116] ++ (32 :: Lib.decDigits n))) := by
  unfold ftT numS
  simp only [ByteArray.data_append, Array.toList_append]
  simp
theorem ft_pieces (k n : Nat) (hk : k < 8) : scB 32 (ftT k n) = [kn k, ⟨#[97, 116]⟩, numS n] := by
  apply lists_inj
  rw [scB_list, ft_list]
  unfold scL
  rw [scA_pc 32 _ [] _ (kn_no32 k hk)]
  unfold scL
  rw [scA_pc 32 [97, 116] [] _ (by decide)]
  unfold scL
  rw [scA_lt 32 _ [] (fun x hx => dec_no32 n x hx)]
  simp [numS]
theorem ft_index (k n : Nat) (hk : k < 8) : Lib.index (ftT k n).data.toList [32, 97, 116, 32] = ((kn k).data.toList.length : Nat) := by
  rw [ft_list]
  have hno := kn_no32 k hk
  generalize (kn k).data.toList = p at hno
  refine Lib.index_first (by simp) ?_ ?_
  · unfold Lib.occAt
    rw [List.drop_left]
    simp [List.isPrefixOf]
  · intro j hj
    unfold Lib.occAt
    rw [List.drop_append_of_le_length (by omega), List.drop_eq_getElem_cons hj]
    have : p[j] ≠ 32 := hno _ (List.getElem_mem hj)
    have q : ((32 : UInt8) == p[j]) = false := by simpa using fun e => this e.symm
    rw [List.cons_append]
    simp only [List.isPrefixOf, q, Bool.false_and]
theorem ft_cut (k n : Nat) (hk : k < 8) : Lib.cut (ftT k n).data.toList [32, 97, 116, 32] = ((kn k).data.toList, Lib.decDigits n, true) := by
  unfold Lib.cut
  rw [ft_index k n hk, if_pos (by omega)]
  have hl := ft_list k n
  rw [hl]
  generalize (kn k).data.toList = p
  rw [Int.toNat_natCast, List.take_left]
  have : p ++ (32 :: ([97, 116] ++ (32 :: Lib.decDigits n))) = (p ++ [32, 97, 116, 32]) ++ Lib.decDigits n := by simp
  rw [this]
  have e : List.drop (p.length + ([32, 97, 116, 32] : List UInt8).length) ((p ++ [32, 97, 116, 32]) ++ Lib.decDigits n) = Lib.decDigits n := by
    rw [show p.length + ([32, 97, 116, 32] : List UInt8).length = (p ++ ([32, 97, 116, 32] : List UInt8)).length by simp, List.drop_left]
  exact congrArg (fun z => (p, z, true)) e
theorem cut_back (l : List UInt8) (h : Lib.index l [32, 97, 116, 32] ≠ -1) : l = (Lib.cut l [32, 97, 116, 32]).1 ++ ([32, 97, 116, 32] ++ (Lib.cut l [32, 97, 116, 32]).2.1) := by
  rcases Lib.index_spec l [32, 97, 116, 32] with ⟨h1, _⟩ | ⟨i, h1, h2, h3, _⟩
  · exact absurd h1 h
  · unfold Lib.cut
    rw [h1, if_pos (by omega), Int.toNat_natCast]
    simp only
    unfold Lib.occAt at h3
    obtain ⟨r, hr⟩ := List.isPrefixOf_iff_prefix.1 h3
    have : l.drop (i + ([32, 97, 116, 32] : List UInt8).length) = r := by
      rw [← List.drop_drop, ← hr]
      simp
    have e : l = l.take i ++ ([32, 97, 116, 32] ++ r) := by rw [hr, List.take_append_drop]
    exact e.trans (congrArg (fun z => l.take i ++ ([32, 97, 116, 32] ++ z)) this.symm)
theorem cut_miss2 (l : List UInt8) (h : Lib.index l [32, 97, 116, 32] = -1) : Lib.cut l [32, 97, 116, 32] = (l, [], false) := by
  unfold Lib.cut
  rw [h]
  rfl
/-- a fault that has a text -/
def Val (k n : Nat) : Prop := 1 ≤ k ∧ k < 8 ∧ n ≤ 6000
theorem val_good {k n : Nat} (h : Val k n) : goodF ⟨(k : Int), (n : Int)⟩ = true := by
  unfold Val at h
  unfold goodF inB
  simp
  omega
theorem good_val {x : Fa} (h : goodF x = true) : ∃ k n : Nat, Val k n ∧ x = ⟨(k : Int), (n : Int)⟩ := by
  have N := fan h
  refine ⟨x.k.toNat, x.a.toNat, ⟨N.k1, N.k8, N.n6⟩, ?_⟩
  obtain ⟨xk, xa⟩ := x
  have e1 := N.ek
  have e2 := N.ea
  simp only at e1 e2 ⊢
  rw [← e1, ← e2]
theorem kd_kn (k : Nat) (hk : k < 8) : kdOf (kn k) = Option.some k := by
  rw [← last_kd]
  rcases (show k = 0 ∨ k = 1 ∨ k = 2 ∨ k = 3 ∨ k = 4 ∨ k = 5 ∨ k = 6 ∨ k = 7 by omega) with rfl | rfl | rfl | rfl | rfl | rfl | rfl | rfl <;> decide
theorem kd_name {s : ByteArray} (h : 1 ≤ kdV s) : ∃ k : Nat, kdV s = k ∧ 1 ≤ k ∧ k < 8 ∧ s = kn k := by
  unfold kdV at h ⊢
  cases hk : kdOf s with
  | none => rw [hk] at h; simp at h
  | some k =>
    rw [hk] at h
    obtain ⟨h8, he⟩ := kd_lt hk
    rw [same_list] at he
    simp only at h ⊢
    refine ⟨k, rfl, by omega, h8, ?_⟩
    have := of_decide_eq_true he
    obtain ⟨⟨s⟩⟩ := s
    obtain ⟨l, hl⟩ : ∃ l, kn k = l := ⟨_, rfl⟩
    rw [hl] at this ⊢
    obtain ⟨⟨l⟩⟩ := l
    simp only at this
    rw [this]
end Go.Proofs.YtdfkehgkonadhaaDoor
