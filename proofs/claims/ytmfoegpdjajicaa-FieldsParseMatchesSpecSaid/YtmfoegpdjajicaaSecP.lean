/-
  Plain mathematics of package seconds (layer 4): no program.
-/
import Derived.Test.YtmfoegpdjajicaaAscP
import Derived.Lib.ItoaNum
namespace Go.Proofs.Ytmfoegpdjajicaa
open Go.RowKit

/-- The number of the range 0 to g that is nearest to n. -/
def lim (n g : Int) : Int := max 0 (min n g)
theorem lim_range (n g : Int) (h : 0 ≤ g) : 0 ≤ lim n g ∧ lim n g ≤ g := by unfold lim; omega
theorem lim_code (n g : Int) (h : 0 ≤ g) : min (max n 0) g = lim n g := by unfold lim; omega
def expV (now age : Int) : Int := min (lim now 1099511627776 + lim age 2147483647) 1099511627776

/-- What one more digit does to a number that is limited. -/
def perStep (a : Int) (c : UInt8) : Int := min (10 * a + ((c.toNat : Int) - 48)) 2147483647
def perL (a : Int) (l : List UInt8) : Int := l.foldl perStep a
def perV (s : ByteArray) : Int := if digitsB s then perL 0 (ls s) else 0
theorem perL_append (a : Int) (l m : List UInt8) : perL a (l ++ m) = perL (perL a l) m := by simp [perL]
theorem perL_one (a : Int) (c : UInt8) : perL a [c] = perStep a c := rfl
theorem perL_take_succ (s : ByteArray) (k : Nat) (h : k < s.size) : perL 0 ((ls s).take (k + 1)) = perStep (perL 0 ((ls s).take k)) s[k] := by
  rw [take_ls_succ s k h, perL_append, perL_one]
theorem digitU_iff (c : UInt8) : digitU c = true ↔ 48 ≤ (c.toNat : Int) ∧ (c.toNat : Int) ≤ 57 := by simp [digitU, digitB]
theorem perStep_range (a : Int) (c : UInt8) (h : 0 ≤ a) (hc : digitU c = true) : 0 ≤ perStep a c ∧ perStep a c ≤ 2147483647 := by
  have := (digitU_iff c).1 hc
  unfold perStep
  omega
theorem perStep_ge (a : Int) (c : UInt8) (h0 : 0 ≤ a) (h1 : a ≤ 2147483647) (hc : digitU c = true) : a ≤ perStep a c := by
  have := (digitU_iff c).1 hc
  unfold perStep
  omega
theorem perL_range (l : List UInt8) : ∀ a : Int, 0 ≤ a → a ≤ 2147483647 → l.all digitU = true → 0 ≤ perL a l ∧ perL a l ≤ 2147483647 ∧ a ≤ perL a l := by
  induction l with
  | nil => intro a h0 h1 _; exact ⟨h0, h1, Int.le_refl _⟩
  | cons c l ih =>
    intro a h0 h1 h
    simp only [List.all_cons, Bool.and_eq_true] at h
    have hr := perStep_range a c h0 h.1
    have hg := perStep_ge a c h0 h1 h.1
    have := ih (perStep a c) hr.1 hr.2 h.2
    exact ⟨this.1, this.2.1, Int.le_trans hg this.2.2⟩

theorem digitsB_all {s : ByteArray} (h : digitsB s = true) : (ls s).all digitU = true := by
  unfold digitsB at h
  simp only [Bool.and_eq_true] at h
  exact h.1
theorem perV_range (s : ByteArray) : 0 ≤ perV s ∧ perV s ≤ 2147483647 := by
  unfold perV
  split
  · rename_i h
    have := perL_range (ls s) 0 (by omega) (by omega) (digitsB_all h)
    exact ⟨this.1, this.2.1⟩
  · omega
theorem perV_no (s : ByteArray) (h : digitsB s = false) : perV s = 0 := by unfold perV; rw [h]; rfl
theorem perV_yes (s : ByteArray) (h : ((ls s).take s.size).all digitU = true) : perV s = perL 0 ((ls s).take s.size) := by
  unfold perV
  rw [digits_yes s h]
  rw [take_ls_all]
  cases hl : ls s with
  | nil => rfl
  | cons c l => rfl
theorem isEmpty_ls (s : ByteArray) : (ls s).isEmpty = decide (s.size = 0) := by
  rw [← ls_length]
  cases ls s <;> simp

/-- The decimal digits. -/
theorem dec_step (u : Nat) (h : ¬ u < 10) : Lib.decDigits u = Lib.decDigits (u / 10) ++ [UInt8.ofNat (48 + u % 10)] := by
  rw [Lib.decDigits, dif_neg h]
theorem digit_of (d : Nat) (h : d < 10) : ((UInt8.ofNat (48 + d)).toNat : Int) = 48 + d := by
  rw [UInt8.toNat_ofNat']; omega
theorem digit_is (d : Nat) (h : d < 10) : digitU (UInt8.ofNat (48 + d)) = true := by
  rw [digitU_iff, digit_of d h]; omega
theorem dec_digits (u : Nat) : (Lib.decDigits u).all digitU = true := by
  induction u using Nat.strongRecOn with
  | ind u ih =>
    by_cases h : u < 10
    · rw [Lib.decDigits_one h]
      rw [List.all_cons, digit_is u h]; rfl
    · rw [dec_step u h, List.all_append, ih (u / 10) (by omega)]
      rw [List.all_cons, digit_is (u % 10) (by omega)]; rfl
theorem dec_ne (u : Nat) : Lib.decDigits u ≠ [] := by
  intro h
  have := Lib.decDigits_length u
  have h2 := Lib.nDigits_pos u
  rw [h] at this
  simp at this
  omega
theorem dec_value (u : Nat) (h : u ≤ 2147483647) : perL 0 (Lib.decDigits u) = (u : Int) := by
  induction u using Nat.strongRecOn with
  | ind u ih =>
    by_cases hu : u < 10
    · rw [Lib.decDigits_one hu, perL_one]
      unfold perStep
      rw [digit_of u hu]
      omega
    · rw [dec_step u hu, perL_append, ih (u / 10) (by omega) (by omega), perL_one]
      unfold perStep
      rw [digit_of _ (by omega)]
      omega
/-- What Format writes for a period. -/
def fmtS (n : Int) : ByteArray := bs (Lib.decDigits (lim n 2147483647).toNat)
theorem fmtS_digits (n : Int) : digitsB (fmtS n) = true := by
  unfold digitsB fmtS
  rw [ls_bs, dec_digits]
  cases h : Lib.decDigits (lim n 2147483647).toNat with
  | nil => exact absurd h (dec_ne _)
  | cons c l => rfl
theorem fmtS_value (n : Int) : perV (fmtS n) = lim n 2147483647 := by
  have hl := lim_range n 2147483647 (by omega)
  unfold perV
  rw [fmtS_digits]
  unfold fmtS
  rw [ls_bs, dec_value _ (by omega), if_pos rfl]
  omega
theorem dec_size (u : Nat) (h : u ≤ 2147483647) : (bs (Lib.decDigits u)).size ≤ 10 := by
  rw [bs_size, Lib.decDigits_length]
  rcases Nat.lt_or_ge (Lib.nDigits u) 11 with h' | h'
  · omega
  · exfalso
    have key : ∀ (k v : Nat), k + 1 ≤ Lib.nDigits v → 10 ^ k ≤ v ∨ k = 0 := by
      intro k
      induction k with
      | zero => intro v _; exact .inr rfl
      | succ k ih =>
        intro v hv
        left
        by_cases hs : v < 10
        · rw [Lib.nDigits_small hs] at hv; omega
        · rw [Lib.nDigits_big hs] at hv
          rcases ih (v / 10) (by omega) with h1 | h1
          · rw [Nat.pow_succ]; omega
          · subst h1; simp; omega
    rcases key 10 u (by omega) with h1 | h1
    · simp at h1; omega
    · omega
theorem fmtS_size (n : Int) : (fmtS n).size ≤ 10 := by
  have hl := lim_range n 2147483647 (by omega)
  exact dec_size _ (by omega)
/-- Digits behind zeros, digits in front of digits. -/
theorem perL_zeros (l : List UInt8) : perL 0 (48 :: 48 :: 48 :: l) = perL 0 l := rfl
theorem digitsB_front (p s : ByteArray) (hp : (ls p).all digitU = true) (hs : digitsB s = true) : digitsB (p ++ s) = true := by
  unfold digitsB at hs ⊢
  rw [ls_append, List.all_append, hp]
  simp only [Bool.and_eq_true, Bool.not_eq_true', Bool.true_and] at hs ⊢
  refine ⟨hs.1, ?_⟩
  cases h : ls p with
  | nil => simpa using hs.2
  | cons c l => rfl
theorem fmt_zeros (n : Int) : digitsB (⟨#[48, 48, 48]⟩ ++ fmtS n) = true ∧ perV (⟨#[48, 48, 48]⟩ ++ fmtS n) = lim n 2147483647 := by
  have h := digitsB_front ⟨#[48, 48, 48]⟩ (fmtS n) (by decide) (fmtS_digits n)
  refine ⟨h, ?_⟩
  have hv := fmtS_value n
  unfold perV at hv ⊢
  rw [fmtS_digits] at hv
  rw [h, if_pos rfl, ls_append]
  rw [if_pos rfl] at hv
  rw [← hv]
  rfl
/-- Longer digit strings do not mean less. -/
theorem per_more (a b : ByteArray) (ha : digitsB a = true) (hab : digitsB (a ++ b) = true) : perV a ≤ perV (a ++ b) := by
  unfold perV
  rw [ha, hab, if_pos rfl, if_pos rfl, ls_append, perL_append]
  have h1 := perL_range (ls a) 0 (by omega) (by omega) (digitsB_all ha)
  have h2 := digitsB_all hab
  rw [ls_append, List.all_append, Bool.and_eq_true] at h2
  exact (perL_range (ls b) _ h1.1 h1.2.1 h2.2).2.2
/-- Who means digits in front of more means digits himself. -/
theorem digits_front (a b : ByteArray) (h0 : 0 < a.size) (h : digitsB (a ++ b) = true) : digitsB a = true := by
  have h2 := digitsB_all h
  rw [ls_append, List.all_append, Bool.and_eq_true] at h2
  unfold digitsB
  rw [h2.1, isEmpty_ls, decide_eq_false (by omega)]
  rfl

theorem expV_lower (now age : Int) : lim now 1099511627776 ≤ expV now age := by unfold expV lim; omega
theorem expV_upper (now age : Int) : expV now age ≤ 1099511627776 := by unfold expV lim; omega
theorem expV_zero (now : Int) : expV now 0 = lim now 1099511627776 := by unfold expV lim; omega
theorem expV_minus (now : Int) : expV now (-1) = lim now 1099511627776 := by unfold expV lim; omega
theorem expV_mono (now age later : Int) (h : now ≤ later) : expV now age ≤ expV later age := by unfold expV lim; omega
theorem expV_mono2 (now age later : Int) (h : age ≤ later) : expV now age ≤ expV now later := by unfold expV lim; omega

end Go.Proofs.Ytmfoegpdjajicaa
