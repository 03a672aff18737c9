/-
  Plain mathematics of AsciiWordsJoin: words joined by single spaces; trimming twice.
-/
import Derived.Test.YtmfoegpdjajicaaAscP
namespace Go.Proofs.Ytmfoegpdjajicaa
open Go.RowKit

theorem dropWhile_head (p : UInt8 → Bool) (l : List UInt8) : l.dropWhile p = [] ∨ ∃ x r, l.dropWhile p = x :: r ∧ p x = false := by
  induction l with
  | nil => exact .inl rfl
  | cons c l ih =>
    cases h : p c with
    | true => simp only [List.dropWhile_cons, h, if_true]; exact ih
    | false => right; exact ⟨c, l, by simp [h], h⟩
theorem all_takeWhile (p : UInt8 → Bool) (l : List UInt8) : (l.takeWhile p).all p = true := by
  induction l with
  | nil => rfl
  | cons c l ih =>
    cases h : p c with
    | true => simp only [List.takeWhile_cons, h, if_true, List.all_cons, ih, Bool.and_self]
    | false => simp [h]
/-- A list is its blanks in front, the trimmed list, its blanks at the end. -/
theorem trim_split (l : List UInt8) : ∃ a c, l = a ++ trimL l ++ c ∧ a.all blankU = true ∧ c.all blankU = true ∧
    (trimL l = [] ∨ ∃ x r, trimL l = x :: r ∧ blankU x = false) ∧ (trimL l = [] ∨ ∃ x r, trimL l = r ++ [x] ∧ blankU x = false) := by
  have e1 : l = l.takeWhile blankU ++ l.dropWhile blankU := (List.takeWhile_append_dropWhile).symm
  have e2 : (l.dropWhile blankU).reverse = (l.dropWhile blankU).reverse.takeWhile blankU ++ (l.dropWhile blankU).reverse.dropWhile blankU := (List.takeWhile_append_dropWhile).symm
  have e3 : l.dropWhile blankU = trimL l ++ ((l.dropWhile blankU).reverse.takeWhile blankU).reverse := by
    have := congrArg List.reverse e2
    rw [List.reverse_reverse, List.reverse_append] at this
    exact this
  refine ⟨l.takeWhile blankU, ((l.dropWhile blankU).reverse.takeWhile blankU).reverse, ?_, all_takeWhile _ _, ?_, ?_, ?_⟩
  · rw [List.append_assoc, ← e3]; exact e1
  · rw [List.all_reverse]; exact all_takeWhile blankU (l.dropWhile blankU).reverse
  · rcases dropWhile_head blankU l with h | ⟨x, r, h, hx⟩
    · left
      unfold trimL
      rw [h]; rfl
    · by_cases ht : trimL l = []
      · exact .inl ht
      · right
        rw [e3] at h
        cases htl : trimL l with
        | nil => exact absurd htl ht
        | cons y q =>
          rw [htl] at h
          have : y = x := by simpa using (List.cons.inj h).1
          exact ⟨y, q, rfl, by rw [this]; exact hx⟩
  · rcases dropWhile_head blankU (l.dropWhile blankU).reverse with h | ⟨x, r, h, hx⟩
    · left
      unfold trimL
      rw [h]; rfl
    · right
      refine ⟨x, r.reverse, ?_, hx⟩
      unfold trimL
      rw [h]; simp
theorem trimS_trimS (s : ByteArray) : trimS (trimS s) = trimS s := by
  obtain ⟨a, c, _, _, _, h1, h2⟩ := trim_split (ls s)
  have : trimL (trimL (ls s)) = trimL (ls s) := trim_of _ [] _ [] (by simp) rfl rfl h1 h2
  unfold trimS
  rw [ls_bs, this]
theorem trimS_around (s : ByteArray) : trimS (ByteArray.mk #[32] ++ s ++ ByteArray.mk #[9]) = trimS s := by
  obtain ⟨a, c, he, ha, hc, h1, h2⟩ := trim_split (ls s)
  unfold trimS
  congr 1
  rw [ls_append, ls_append]
  refine trim_of _ (ls (ByteArray.mk #[32]) ++ a) _ (c ++ ls (ByteArray.mk #[9])) ?_ ?_ ?_ h1 h2
  · have e : ls (ByteArray.mk #[32]) ++ ls s = ls (ByteArray.mk #[32]) ++ (a ++ trimL (ls s) ++ c) := congrArg _ he
    rw [e]; simp
  · rw [List.all_append, ha]; decide
  · rw [List.all_append, hc]; decide

theorem trimS_size (s : ByteArray) (n : Nat) (h : s.size ≤ n) : (trimS s).size ≤ n := by
  obtain ⟨a, c, he, _⟩ := trim_split (ls s)
  have := congrArg List.length he
  rw [List.length_append, List.length_append, ls_length] at this
  unfold trimS
  rw [bs_size]
  omega

/-! Words. -/
def GoodWord (l : List UInt8) : Prop := l ≠ [] ∧ l.all (fun c => !spaceU c) = true
theorem wordsFrom_good (l : List UInt8) : ∀ cur, cur.all (fun c => !spaceU c) = true → ∀ x ∈ wordsFrom l cur, GoodWord x := by
  induction l with
  | nil =>
    intro cur hc x hx
    unfold wordsFrom at hx
    split at hx
    · simp at hx
    · rename_i h
      simp at hx
      subst hx
      exact ⟨by intro e; subst e; simp at h, hc⟩
  | cons c l ih =>
    intro cur hc x hx
    unfold wordsFrom at hx
    split at hx
    · split at hx
      · exact ih [] rfl x hx
      · rename_i h
        rcases List.mem_cons.1 hx with rfl | hx
        · exact ⟨by intro e; subst e; simp at h, hc⟩
        · exact ih [] rfl x hx
    · rename_i h
      exact ih _ (by rw [List.all_append, hc]; simp [h]) x hx
theorem wordsL_good (l : List UInt8) : ∀ x ∈ wordsL l, GoodWord x := wordsFrom_good l [] rfl
theorem wordsFrom_short (l : List UInt8) : ∀ cur, ∀ x ∈ wordsFrom l cur, x.length ≤ cur.length + l.length := by
  induction l with
  | nil =>
    intro cur x hx
    unfold wordsFrom at hx
    split at hx
    · simp at hx
    · simp at hx; subst hx; simp
  | cons c l ih =>
    intro cur x hx
    unfold wordsFrom at hx
    have h1 := ih [] x
    have h2 := ih (cur ++ [c]) x
    simp only [List.length_nil, List.length_append, List.length_cons] at h1 h2 ⊢
    split at hx
    · split at hx
      · have := h1 hx; omega
      · rcases List.mem_cons.1 hx with rfl | hx
        · omega
        · have := h1 hx; omega
    · have := h2 hx; omega
theorem wordsFrom_run (x : List UInt8) (hx : x.all (fun c => !spaceU c) = true) : ∀ rest cur, wordsFrom (x ++ rest) cur = wordsFrom rest (cur ++ x) := by
  induction x with
  | nil => intro rest cur; simp
  | cons c x ih =>
    intro rest cur
    simp only [List.all_cons, Bool.and_eq_true, Bool.not_eq_true'] at hx
    rw [List.cons_append, wordsFrom, hx.1]
    simp only [Bool.false_eq_true, if_false]
    rw [ih (by simpa using hx.2)]
    simp
/-- The words 'ws', joined so far. -/
def Joined (ws : List (List UInt8)) (j : List UInt8) : Prop := (ws = [] ∧ j = []) ∨ ∃ pre x, ws = pre ++ [x] ∧ x ≠ [] ∧ ∀ rest, wordsFrom (j ++ rest) [] = pre ++ wordsFrom rest x
theorem joined_first {x : List UInt8} (hx : GoodWord x) : Joined [x] x :=
  .inr ⟨[], x, rfl, hx.1, fun rest => by rw [wordsFrom_run x hx.2]; rfl⟩
theorem joined_next {ws : List (List UInt8)} {j x : List UInt8} (h : Joined ws j) (hne : ws ≠ []) (hx : GoodWord x) : Joined (ws ++ [x]) (j ++ [32] ++ x) := by
  rcases h with ⟨h, _⟩ | ⟨pre, y, rfl, hy, hr⟩
  · exact absurd h hne
  · refine .inr ⟨pre ++ [y], x, rfl, hx.1, fun rest => ?_⟩
    rw [show j ++ [32] ++ x ++ rest = j ++ (32 :: (x ++ rest)) by simp, hr]
    rw [wordsFrom, show spaceU 32 = true from by decide]
    simp only [if_true]
    rw [if_neg (by cases y <;> simp at hy ⊢), wordsFrom_run x hx.2]
    simp
theorem joined_words {ws : List (List UInt8)} {j : List UInt8} (h : Joined ws j) : wordsL j = ws := by
  rcases h with ⟨rfl, rfl⟩ | ⟨pre, y, rfl, hy, hr⟩
  · rfl
  · have := hr []
    rw [List.append_nil] at this
    unfold wordsL
    rw [this, wordsFrom, if_neg (by cases y <;> simp at hy ⊢)]

theorem joined_one {ws : List (List UInt8)} {J : ByteArray} (h0 : 0 < ws.length) (h : Joined (ws.take 0) (ls J)) (hx : GoodWord ws[0]) : Joined (ws.take 1) (ls (J ++ bs ws[0])) := by
  rcases h with ⟨_, h⟩ | ⟨pre, y, h, _⟩
  · rw [ls_append, h, ls_bs, List.take_succ_eq_append_getElem h0]
    exact joined_first hx
  · simp at h
theorem joined_more {ws : List (List UInt8)} {J : ByteArray} {m : Nat} (hm : m < ws.length) (h0 : 0 < m) (h : Joined (ws.take m) (ls J)) (hx : GoodWord ws[m]) :
    Joined (ws.take (m + 1)) (ls (J ++ ByteArray.mk #[32] ++ bs ws[m])) := by
  rw [ls_append, ls_append, ls_bs, List.take_succ_eq_append_getElem hm]
  exact joined_next h (by intro e; have := congrArg List.length e; rw [List.length_take, List.length_nil] at this; omega) hx

end Go.Proofs.Ytmfoegpdjajicaa
