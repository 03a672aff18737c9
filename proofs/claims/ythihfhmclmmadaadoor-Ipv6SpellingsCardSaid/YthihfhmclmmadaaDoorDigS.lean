/-
  Digits laid in front of a string: no function of the program.
-/
import Derived.Test.YthihfhmclmmadaaDoorDigP
namespace Go.Proofs.YthihfhmclmmadaaDoor
open Go.RowKit

def strE : Value → Nat
  | .string s => if s.size = 0 then 1 else 0
  | _ => 0
theorem hex_lit : ∀ r : Fin 16, (⟨#[48, 49, 50, 51, 52, 53, 54, 55, 56, 57, 97, 98, 99, 100, 101, 102]⟩ : ByteArray).extract r.val (r.val + 1) = bs [hexc r.val] := by decide +kernel
/-- How far the loop has come. -/
def Digs (b n m : Nat) (L : List UInt8) : Prop := (L = [] ∧ m = n) ∨ (L ≠ [] ∧ m = 0 ∧ L = digsB b n) ∨ (L ≠ [] ∧ 0 < m ∧ digsB b m ++ L = digsB b n)
theorem Digs.next {b n m : Nat} {L : List UInt8} (hb : 2 ≤ b) (hn : n < 1099511627776) (hm : m < 1099511627776) (h : Digs b n m L) (hc : 0 < m ∨ L = []) : Digs b n (m / b) (hexc (m % b) :: L) := by
  have key : digsB b m ++ L = digsB b n := by
    rcases h with ⟨h1, h2⟩ | ⟨h1, h2, h3⟩ | ⟨h1, h2, h3⟩
    · subst h1 h2; simp
    · rcases hc with hc | hc
      · omega
      · exact absurd hc h1
    · exact h3
  by_cases hs : m < b
  · refine .inr (.inl ⟨by simp, Nat.div_eq_of_lt hs, ?_⟩)
    rw [← key, digsB_small hs, Nat.mod_eq_of_lt hs]; rfl
  · refine .inr (.inr ⟨by simp, Nat.div_pos (by omega) (by omega), ?_⟩)
    rw [← key, digsB_step hb hm hs]; simp
theorem Digs.len {b n m : Nat} {L : List UInt8} (h : Digs b n m L) (hl : (digsB b n).length ≤ 11) : L.length ≤ 11 := by
  rcases h with ⟨h1, h2⟩ | ⟨h1, h2, h3⟩ | ⟨h1, h2, h3⟩
  · subst h1; simp
  · rw [h3]; exact hl
  · rw [← h3] at hl; simp at hl; omega
theorem Digs.fin {b n : Nat} {L : List UInt8} (h : Digs b n 0 L) (hL : L ≠ []) : L = digsB b n := by
  rcases h with ⟨h1, h2⟩ | ⟨h1, h2, h3⟩ | ⟨h1, h2, h3⟩
  · exact absurd h1 hL
  · exact h3
  · omega
theorem bs_empty (L : List UInt8) : ((bs L).toList == ([] : List UInt8)) = decide (L = []) := by
  rw [toList_ls, ls_bs]
  cases L <;> rfl
theorem bs_add (l m : List UInt8) : bs l ++ bs m = bs (l ++ m) := by
  apply ls_inj
  rw [ls_append, ls_bs, ls_bs, ls_bs]


end Go.Proofs.YthihfhmclmmadaaDoor
