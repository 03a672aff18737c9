/-
  Decimal digits laid in front of a string, one by one. No program.
-/
import Derived.Test.YtpopkeidpohdiaaDoorStQ
namespace Go.Proofs.YtpopkeidpohdiaaDoor
open Go.RowKit

theorem dec_lit : ∀ r : Fin 10, (⟨#[48, 49, 50, 51, 52, 53, 54, 55, 56, 57]⟩ : ByteArray).extract r.val (r.val + 1) = bs [UInt8.ofNat (48 + r.val)] := by decide +kernel
theorem bsE (L : List UInt8) : ((bs L).toList == ([] : List UInt8)) = decide (L = []) := by
  rw [toList_ls, ls_bs]
  cases L <;> rfl
theorem bsA (l m : List UInt8) : bs l ++ bs m = bs (l ++ m) := by
  apply ls_inj
  rw [ls_append, ls_bs, ls_bs, ls_bs]
def emS : Value → Nat
  | .string s => if s.size = 0 then 1 else 0
  | _ => 0
/-- How far the loop has come: what is left of the number, the digits that are written. -/
def DigT (k m : Nat) (L : List UInt8) : Prop := (L = [] ∧ m = k) ∨ (L ≠ [] ∧ m = 0 ∧ L = Lib.decDigits k) ∨ (L ≠ [] ∧ 0 < m ∧ Lib.decDigits m ++ L = Lib.decDigits k)
theorem DigT.next {k m : Nat} {L : List UInt8} (h : DigT k m L) (hc : 0 < m ∨ L = []) : DigT k (m / 10) (UInt8.ofNat (48 + m % 10) :: L) := by
  have key : Lib.decDigits m ++ L = Lib.decDigits k := by
    rcases h with ⟨h1, h2⟩ | ⟨h1, h2, h3⟩ | ⟨h1, h2, h3⟩
    · subst h1 h2; simp
    · rcases hc with hc | hc
      · omega
      · exact absurd hc h1
    · exact h3
  by_cases hs : m < 10
  · refine .inr (.inl ⟨by simp, Nat.div_eq_of_lt hs, ?_⟩)
    rw [← key, Lib.decDigits_one hs, Nat.mod_eq_of_lt hs]
    rfl
  · refine .inr (.inr ⟨by simp, Nat.div_pos (by omega) (by omega), ?_⟩)
    rw [← key, dec_step m hs]
    simp
theorem DigT.len {k m : Nat} {L : List UInt8} (h : DigT k m L) : L.length ≤ (Lib.decDigits k).length := by
  rcases h with ⟨h1, h2⟩ | ⟨h1, h2, h3⟩ | ⟨h1, h2, h3⟩
  · subst h1; simp
  · rw [h3]; exact Nat.le_refl _
  · rw [← h3]; simp
theorem DigT.fin {k : Nat} {L : List UInt8} (h : DigT k 0 L) (hL : L ≠ []) : L = Lib.decDigits k := by
  rcases h with ⟨h1, h2⟩ | ⟨h1, h2, h3⟩ | ⟨h1, h2, h3⟩
  · exact absurd h1 hL
  · exact h3
  · omega
theorem dec_len : ∀ (f u : Nat), u < 10 ^ (f + 1) → (Lib.decDigits u).length ≤ f + 1
  | 0, u, h => by rw [Lib.decDigits_one (by simpa using h)]; simp
  | f + 1, u, h => by
    by_cases hu : u < 10
    · rw [Lib.decDigits_one hu]; simp
    · rw [dec_step u hu]
      have := dec_len f (u / 10) (by rw [Nat.pow_succ] at h; omega)
      simp
      omega
theorem dec_len33 (u : Nat) (h : u < 8589934592) : (Lib.decDigits u).length ≤ 10 := dec_len 9 u (by omega)
/-- What is read of any number of zeros and the digits. -/
theorem sat_age (k z : Nat) (hk : k < 8589934592) (hz : z < 50) : stsP (nmA ++ 61 :: (List.replicate z 48 ++ Lib.decDigits k)) = (⟨min (k : Int) 2147483647, false⟩, 0) := by
  rw [sts_age (rep_digits z _ (dec_digits k)) (by simp [dec_ne k]) (by have := dec_len33 k hk; simp; omega), perL_rep, dec_sat]
theorem sat_front (k z : Nat) (hk : k < 8589934592) (hz : z < 50) : stsP ([105, 110, 99, 108, 117, 100, 101, 83, 117, 98, 68, 111, 109, 97, 105, 110, 115] ++ 59 :: (nmA ++ 61 :: (List.replicate z 48 ++ Lib.decDigits k))) = (⟨min (k : Int) 2147483647, true⟩, 0) := by
  rw [sts_front (rep_digits z _ (dec_digits k)) (by simp [dec_ne k]) (by have := dec_len33 k hk; simp; omega), perL_rep, dec_sat]

end Go.Proofs.YtpopkeidpohdiaaDoor
