/-
  The two strings of DirectiveBlanks, part by part. No program.
-/
import Derived.Test.YtbpgkdhdooaigaaDiS
namespace Go.Proofs.Ytbpgkdhdooaigaa
open Go.RowKit

theorem wideA_app : ∀ (a b : List (Nat × List UInt8)), wideA (a ++ b) = wideA a ++ wideA b
  | [], b => rfl
  | x :: a, b => by rw [List.cons_append, wideA, wideA, wideA_app a b, List.append_assoc]
theorem wideA_ne {x : Nat × List UInt8} {r : List (Nat × List UInt8)} : wideA (x :: r) ≠ [] := by
  rw [wideA]
  intro e
  exact wideP_ne _ _ (List.append_eq_nil_iff.1 e).1
theorem wideA_nil {xs : List (Nat × List UInt8)} (h : xs ≠ []) : wideA xs ≠ [] := by
  cases xs with
  | nil => exact absurd rfl h
  | cons x r => exact wideA_ne
theorem wideA_one (k : Nat) (p : List UInt8) : wideA [(k, p)] = wideP k p := by
  show wideP k p ++ wideA [] = _
  rw [show wideA [] = [] from rfl, List.append_nil]
/-- The strings behind k parts. -/
def WS (k : Nat) (P W : List UInt8) : Prop := ∃ XS : List (Nat × List UInt8), XS.length = k ∧ (∀ x ∈ XS, Free x.2) ∧ P = joinS (XS.map (·.2)) ∧ W = joinS (wideA XS)
theorem WS.zero : WS 0 [] [] := ⟨[], rfl, fun x h => by simp at h, rfl, rfl⟩
theorem WS.first {P W p : List UInt8} (h : WS 0 P W) (hp : Free p) (kk : Nat) : WS 1 (P ++ p) (W ++ padL kk ++ p ++ padL kk) := by
  obtain ⟨XS, hl, _, rfl, rfl⟩ := h
  have : XS = [] := List.eq_nil_of_length_eq_zero hl
  subst this
  refine ⟨[(kk, p)], rfl, fun x hx => by rw [List.mem_singleton.1 hx]; exact hp, by simp [joinS], ?_⟩
  rw [wideA_one, joinS_wideP]
  simp [joinS, wideA]
theorem WS.next {k : Nat} {P W p : List UInt8} (h : WS k P W) (h0 : 0 < k) (hp : Free p) (kk : Nat) : WS (k + 1) (P ++ [59] ++ p) (W ++ [59] ++ padL kk ++ p ++ padL kk) := by
  obtain ⟨XS, hl, hf, rfl, rfl⟩ := h
  have hne : XS ≠ [] := by
    intro e
    rw [e] at hl
    simp at hl
    omega
  refine ⟨XS ++ [(kk, p)], by simp [hl], ?_, ?_, ?_⟩
  · intro x hx
    rcases List.mem_append.1 hx with hx | hx
    · exact hf x hx
    · rw [List.mem_singleton.1 hx]
      exact hp
  · rw [List.map_append, joinS_app _ _ (by simpa using hne) (by simp)]
    simp [joinS]
  · rw [wideA_app, joinS_app _ _ (wideA_nil hne) (wideA_nil (by simp)), wideA_one, joinS_wideP]
    simp
theorem WS.same {k : Nat} {P W : List UInt8} (h : WS k P W) (h1 : W.length ≤ 4096) (h2 : P.length ≤ 4096) : dirL W = dirL P := by
  obtain ⟨XS, hl, hf, rfl, rfl⟩ := h
  by_cases hne : XS = []
  · subst hne
    rfl
  · exact dirL_wide hf hne h1 h2
theorem padL_len (k : Nat) : (padL k).length ≤ 3 := by
  unfold padL
  split
  · simp
  · split
    · simp
    · split <;> simp
theorem free_take {l : List UInt8} {j : Nat} {c : UInt8} (h : Free (l.take j)) (hc : l[j]? = some c) (h1 : c ≠ 59) (h2 : c ≠ 34) : Free (l.take (j + 1)) := by
  intro x hx
  rw [List.take_add_one, List.mem_append] at hx
  rcases hx with hx | hx
  · exact h x hx
  · rw [hc] at hx
    simp at hx
    subst hx
    exact ⟨h1, h2⟩

end Go.Proofs.Ytbpgkdhdooaigaa
