/-
  How many directives are read, and how long they are. No program.
-/
import Derived.Test.YtpopkeidpohdiaaDoorDiR
namespace Go.Proofs.YtpopkeidpohdiaaDoor
open Go.RowKit

theorem dirGo_len32 : ∀ (n : Nat) (b : List UInt8) (acc : List Dv), acc.length ≤ 32 → (dirGo n b acc).1.length ≤ 32
  | 0, _, _, _ => by rw [dirGo]; simp
  | n + 1, b, acc, ha => by
    rw [dirGo]
    split
    · exact ha
    · split
      · exact dirGo_len32 n _ _ ha
      · split
        · simp
        · rename_i h32
          split
          · simp
          · split
            · simp; omega
            · split
              · exact dirGo_len32 n _ _ (by simp; omega)
              · simp
theorem dirL_len (b : List UInt8) : (dirL b).1.length ≤ 32 := by
  unfold dirL
  split
  · simp
  · exact dirGo_len32 _ _ _ (by simp)
theorem pr_len : ∀ (l : List UInt8) (esc : Bool) (acc : List UInt8) {v r : List UInt8}, pr esc l acc = some (v, r) → v.length ≤ acc.length + l.length
  | [], esc, acc, v, r, h => by rw [pr] at h; cases h
  | c :: l, esc, acc, v, r, h => by
    rw [pr] at h
    split at h
    · cases h
    · split at h
      · injection h with h
        injection h with h1 _
        rw [← h1]
        exact Nat.le_add_right _ _
      · split at h
        · have := pr_len l true acc h
          simp; omega
        · have := pr_len l false (acc ++ [c]) h
          simp at this ⊢; omega
theorem takeWhile_len {α : Type} (p : α → Bool) (l : List α) : (l.takeWhile p).length ≤ l.length := takeWhile_le p l
theorem valL_len {q v r : List UInt8} (h : valL q = some (v, r)) : v.length ≤ q.length := by
  unfold valL at h
  split at h
  · have := pr_len _ _ _ h
    simp only [List.length_cons, List.length_nil] at this ⊢
    omega
  · split at h
    · cases h
    · injection h with h
      injection h with h1 _
      rw [← h1]
      exact takeWhile_len _ _
theorem lowL_len (l : List UInt8) : (lowL l).length = l.length := lowL_length l
theorem elemL_len {l r : List UInt8} {d : Dv} (h : elemL l = some (d, r)) : d.name.length ≤ l.length ∧ d.value.length ≤ l.length := by
  unfold elemL at h
  split at h
  · cases h
  · have h1 := takeWhile_len tokU l
    have h2 := skL_le (l.dropWhile tokU)
    have h3 := dropWhile_le tokU l
    rcases elemT_two (skL (l.dropWhile tokU)) with ⟨q, hq⟩ | hq
    · rw [hq, elemT_eq] at h
      rw [hq] at h2
      cases hv : valL (skL q) with
      | none => rw [hv] at h; cases h
      | some p =>
        obtain ⟨v, t⟩ := p
        rw [hv] at h
        simp at h
        have h4 := valL_len hv
        have h5 := skL_le q
        simp only [List.length_cons] at h2
        rw [← h.1]
        simp only [lowL_len]
        omega
    · rw [elemT_ne _ _ hq] at h
      injection h with h
      injection h with h4 _
      rw [← h4]
      simp only [lowL_len, List.length_nil]
      omega
/-- All names and values have at most m bytes. -/
def LenDv (m : Nat) (l : List Dv) : Prop := ∀ d ∈ l, d.name.length ≤ m ∧ d.value.length ≤ m
theorem LenDv.nil (m : Nat) : LenDv m [] := fun d h => by simp at h
theorem LenDv.snoc {m : Nat} {l : List Dv} {d : Dv} (h : LenDv m l) (h1 : d.name.length ≤ m) (h2 : d.value.length ≤ m) : LenDv m (l ++ [d]) := by
  intro e he
  rcases List.mem_append.1 he with he | he
  · exact h e he
  · simp at he
    subst he
    exact ⟨h1, h2⟩
theorem dirGo_lens : ∀ (n m : Nat) (b : List UInt8) (acc : List Dv), b.length ≤ m → LenDv m acc → LenDv m (dirGo n b acc).1
  | 0, m, _, _, _, _ => by rw [dirGo]; exact LenDv.nil m
  | n + 1, m, b, acc, hb, ha => by
    have hs := skL_le b
    rw [dirGo]
    split
    · exact ha
    · rename_i c r hk
      rw [hk] at hs
      simp only [List.length_cons] at hs
      split
      · exact dirGo_lens n m _ _ (by omega) ha
      · split
        · exact LenDv.nil m
        · split
          · exact LenDv.nil m
          · rename_i d q he
            have h1 := elemL_len he
            have h2 := elemL_lt he
            have h3 := skL_le q
            simp only [List.length_cons] at h1 h2
            have ha2 := ha.snoc (d := d) (by omega) (by omega)
            split
            · exact ha2
            · rename_i e t hq
              rw [hq] at h3
              simp only [List.length_cons] at h3
              split
              · exact dirGo_lens n m _ _ (by omega) ha2
              · exact LenDv.nil m
theorem dirL_lens (b : List UInt8) : LenDv b.length (dirL b).1 := by
  unfold dirL
  split
  · exact LenDv.nil _
  · exact dirGo_lens _ _ _ _ (Nat.le_refl _) (LenDv.nil _)

end Go.Proofs.YtpopkeidpohdiaaDoor
