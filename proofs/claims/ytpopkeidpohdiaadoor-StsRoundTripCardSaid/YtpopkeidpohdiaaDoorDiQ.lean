/-
  Laws of the lists of directives: what is formatted is read back, what is read is valid, lists are joined. No program.
-/
import Derived.Test.YtpopkeidpohdiaaDoorDiP
namespace Go.Proofs.YtpopkeidpohdiaaDoor
open Go.RowKit

/-! ### reading on behind the end of a list -/
theorem pr_app : ∀ (l : List UInt8) (esc : Bool) (acc : List UInt8) {v r : List UInt8} (y : List UInt8), pr esc l acc = some (v, r) → pr esc (l ++ y) acc = some (v, r ++ y)
  | [], esc, acc, v, r, y, h => by rw [pr] at h; cases h
  | c :: l, esc, acc, v, r, y, h => by
    rw [pr] at h
    rw [List.cons_append, pr]
    split at h
    · cases h
    · rename_i h1
      rw [if_neg h1]
      split at h
      · rename_i h2
        rw [if_pos h2]
        injection h with h
        injection h with h3 h4
        rw [h3, h4]
      · rename_i h2
        rw [if_neg h2]
        split at h
        · rename_i h3
          rw [if_pos h3]
          exact pr_app l true acc y h
        · rename_i h3
          rw [if_neg h3]
          exact pr_app l false (acc ++ [c]) y h
/-- What begins with a byte that p does not take. -/
def Ends (p : UInt8 → Bool) (y : List UInt8) : Prop := y = [] ∨ ∃ c r, y = c :: r ∧ p c = false
theorem takeWhile_app {p : UInt8 → Bool} {y : List UInt8} (hy : Ends p y) : ∀ l : List UInt8, (l ++ y).takeWhile p = l.takeWhile p
  | [] => by
    rcases hy with rfl | ⟨c, r, rfl, hc⟩
    · rfl
    · rw [List.nil_append, List.takeWhile_cons, hc]; rfl
  | a :: l => by
    rw [List.cons_append, List.takeWhile_cons, List.takeWhile_cons, takeWhile_app hy l]
theorem dropWhile_app {p : UInt8 → Bool} {y : List UInt8} (hy : Ends p y) : ∀ l : List UInt8, (l ++ y).dropWhile p = l.dropWhile p ++ y
  | [] => by
    rcases hy with rfl | ⟨c, r, rfl, hc⟩
    · rfl
    · rw [List.nil_append, List.dropWhile_cons, hc]; rfl
  | a :: l => by
    rw [List.cons_append, List.dropWhile_cons, List.dropWhile_cons, dropWhile_app hy l]
    split <;> rfl
theorem semi_tok (y : List UInt8) : Ends tokU (59 :: y) := .inr ⟨59, y, rfl, by decide +kernel⟩
theorem semi_blk (y : List UInt8) : Ends blankU (59 :: y) := .inr ⟨59, y, rfl, by decide +kernel⟩
theorem skL_app {y : List UInt8} (hy : Ends blankU y) (l : List UInt8) : skL (l ++ y) = skL l ++ y := dropWhile_app hy l
theorem valL_app {q v r y : List UInt8} (hy : Ends tokU y) (h : valL q = some (v, r)) : valL (q ++ y) = some (v, r ++ y) := by
  unfold valL at h
  split at h
  · rename_i t
    rw [List.cons_append]
    show pr false (t ++ y) [] = _
    exact pr_app t false [] y h
  · rename_i hq
    split at h
    · cases h
    · rename_i ht
      injection h with h
      injection h with h1 h2
      have e1 := takeWhile_app hy q
      have e2 := dropWhile_app hy q
      have hne : ∀ t, q ++ y ≠ 34 :: t := by
        intro t e
        cases q with
        | nil => exact ht rfl
        | cons a q =>
          rw [List.cons_append] at e
          injection e with e3 e4
          exact hq q (by rw [e3])
      unfold valL
      split
      · rename_i t e
        exact absurd e (hne t)
      · rw [e1, e2, if_neg ht, h1, h2]
theorem elemL_app {l r y : List UInt8} {d : Dv} (h1 : Ends tokU y) (h2 : Ends blankU y) (h3 : ∀ t, y ≠ 61 :: t) (h : elemL l = some (d, r)) : elemL (l ++ y) = some (d, r ++ y) := by
  unfold elemL at h ⊢
  rw [takeWhile_app h1, dropWhile_app h1, skL_app h2]
  split at h
  · cases h
  · rename_i ht
    rw [if_neg ht]
    rcases elemT_two (skL (l.dropWhile tokU)) with ⟨q, hq⟩ | hq
    · rw [hq, elemT_eq] at h
      rw [hq, List.cons_append, elemT_eq, skL_app h2]
      cases hv : valL (skL q) with
      | none => rw [hv] at h; cases h
      | some p =>
        obtain ⟨v, t⟩ := p
        rw [hv] at h
        rw [valL_app h1 hv]
        simp at h ⊢
        exact ⟨h.1, by rw [h.2]⟩
    · rw [elemT_ne _ _ hq] at h
      injection h with h
      injection h with h4 h5
      have hne : ∀ t, skL (l.dropWhile tokU) ++ y ≠ 61 :: t := by
        intro t e
        cases hz : skL (l.dropWhile tokU) with
        | nil => rw [hz] at e; exact h3 t e
        | cons a z =>
          rw [hz, List.cons_append] at e
          injection e with e1 e2
          exact hq z (by rw [hz, e1])
      rw [elemT_ne _ _ hne, ← h5, h4]

/-! ### lists that are joined -/
theorem dirGo_app : ∀ (n m : Nat) (a b : List UInt8) (acc l : List Dv), a.length < n → (a ++ 59 :: b).length < m → dirGo n a acc = (l, 0) → dirGo m (a ++ 59 :: b) acc = dirGo m b l
  | 0, _, _, _, _, _, h, _, _ => absurd h (by omega)
  | _ + 1, 0, _, _, _, _, _, h, _ => absurd h (by omega)
  | n + 1, m + 1, a, b, acc, l, hn, hm, h => by
    rw [dirGo] at h
    rw [dirGo, skL_app (semi_blk b)]
    have hs := skL_le a
    simp only [List.length_append, List.length_cons] at hm
    cases hk : skL a with
    | nil =>
      rw [hk] at h
      simp only at h
      injection h with h1 h2
      show (if (59 : UInt8) = 59 then dirGo m b acc else _) = _
      rw [if_pos rfl, h1]
      exact dirGo_more m (m + 1) b l (by omega) (by omega)
    | cons c r =>
      rw [hk] at h hs
      simp only [List.length_cons] at hs
      simp only [List.cons_append] at h ⊢
      by_cases h59 : c = 59
      · rw [if_pos h59] at h ⊢
        rw [dirGo_app n m r b acc l (by omega) (by simp; omega) h]
        exact dirGo_more m (m + 1) b l (by omega) (by omega)
      · rw [if_neg h59] at h ⊢
        by_cases h32 : acc.length = 32
        · rw [if_pos h32] at h
          injection h with h1 h2
          cases h2
        · rw [if_neg h32] at h ⊢
          cases he : elemL (c :: r) with
          | none =>
            rw [he] at h
            injection h with h1 h2
            cases h2
          | some p =>
            obtain ⟨d, q⟩ := p
            have h1 := elemL_lt he
            have h2 := skL_le q
            simp only [List.length_cons] at h1
            have e := elemL_app (y := 59 :: b) (semi_tok b) (semi_blk b) (fun t e => by injection e with e _; cases e) he
            rw [List.cons_append] at e
            rw [e]
            rw [he] at h
            simp only at h ⊢
            rw [skL_app (semi_blk b)]
            cases hq : skL q with
            | nil =>
              rw [hq] at h
              simp only at h
              injection h with h3 h4
              show (if (59 : UInt8) = 59 then dirGo m b (acc ++ [d]) else _) = _
              rw [if_pos rfl, h3]
              exact dirGo_more m (m + 1) b l (by omega) (by omega)
            | cons e t =>
              rw [hq] at h h2
              simp only [List.length_cons] at h2
              simp only [List.cons_append] at h ⊢
              by_cases he2 : e = 59
              · rw [if_pos he2] at h ⊢
                rw [dirGo_app n m t b (acc ++ [d]) l (by omega) (by simp; omega) h]
                exact dirGo_more m (m + 1) b l (by omega) (by omega)
              · rw [if_neg he2] at h
                injection h with h1 h2
                cases h2
theorem dirGo_len : ∀ (n : Nat) (b : List UInt8) (acc l : List Dv), dirGo n b acc = (l, 0) → ∃ m, l = acc ++ m
  | 0, _, _, _, h => by rw [dirGo] at h; injection h with h1 h2; cases h2
  | n + 1, b, acc, l, h => by
    rw [dirGo] at h
    cases hk : skL b with
    | nil =>
      rw [hk] at h
      injection h with h1 h2
      exact ⟨[], by simp [h1]⟩
    | cons c r =>
      rw [hk] at h
      simp only at h
      split at h
      · exact dirGo_len n r acc l h
      · split at h
        · injection h with h1 h2; cases h2
        · split at h
          · injection h with h1 h2; cases h2
          · rename_i d q he
            split at h
            · injection h with h1 h2
              exact ⟨[d], h1.symm⟩
            · split at h
              · obtain ⟨m, hm⟩ := dirGo_len n _ _ l h
                exact ⟨d :: m, by rw [hm]; simp⟩
              · injection h with h1 h2; cases h2
/-- Behind other elements the same ones are read, as long as there is room. -/
theorem dirGo_acc : ∀ (n : Nat) (b : List UInt8) (acc acc2 m : List Dv), dirGo n b acc = (acc ++ m, 0) → acc2.length + m.length ≤ 32 → dirGo n b acc2 = (acc2 ++ m, 0)
  | 0, _, _, _, _, h, _ => by rw [dirGo] at h; injection h with h1 h2; cases h2
  | n + 1, b, acc, acc2, m, h, hl => by
    rw [dirGo] at h ⊢
    cases hk : skL b with
    | nil =>
      rw [hk] at h
      injection h with h1 h2
      have : m = [] := List.self_eq_append_right.1 h1
      rw [this, List.append_nil]
    | cons c r =>
      rw [hk] at h
      simp only at h ⊢
      split at h
      · rename_i h59
        rw [if_pos h59]
        exact dirGo_acc n r acc acc2 m h hl
      · rename_i h59
        rw [if_neg h59]
        split at h
        · injection h with h1 h2; cases h2
        · cases he : elemL (c :: r) with
          | none =>
            rw [he] at h
            injection h with h1 h2
            cases h2
          | some p =>
            obtain ⟨d, q⟩ := p
            rw [he] at h
            simp only at h ⊢
            cases hq : skL q with
            | nil =>
              rw [hq] at h
              injection h with h1 h2
              have hm : m = [d] := (List.append_cancel_left h1).symm
              rw [hm] at hl ⊢
              simp at hl
              rw [if_neg (by omega)]
            | cons e t =>
              rw [hq] at h
              simp only at h ⊢
              split at h
              · rename_i he2
                rw [if_pos he2]
                obtain ⟨m2, hm2⟩ := dirGo_len n _ _ _ h
                have hm : m = d :: m2 := by
                  rw [List.append_assoc] at hm2
                  exact List.append_cancel_left hm2
                rw [hm] at hl
                simp at hl
                rw [if_neg (by omega)]
                rw [hm, show acc ++ d :: m2 = acc ++ [d] ++ m2 by simp] at h
                have := dirGo_acc n t (acc ++ [d]) (acc2 ++ [d]) m2 h (by simp; omega)
                rw [this, hm]
                simp
              · injection h with h1 h2; cases h2
theorem dirL_join {a b : List UInt8} {l m : List Dv} (ha : dirL a = (l, 0)) (hb : dirL b = (m, 0)) (hl : l.length + m.length ≤ 32) (hz : a.length + b.length + 1 ≤ 4096) : dirL (a ++ 59 :: b) = (l ++ m, 0) := by
  unfold dirL at ha hb ⊢
  rw [if_neg (by omega)] at ha hb
  rw [if_neg (by simp; omega)]
  have hlen : (a ++ 59 :: b).length = a.length + b.length + 1 := by simp; omega
  rw [dirGo_app (a.length + 1) _ a b [] l (by omega) (by omega) ha]
  have h2 := dirGo_more (b.length + 1) ((a ++ 59 :: b).length + 1) b [] (by omega) (by omega)
  rw [hb] at h2
  have := dirGo_acc _ b [] l m (by rw [← h2]; rfl) hl
  exact this

end Go.Proofs.YtpopkeidpohdiaaDoor
