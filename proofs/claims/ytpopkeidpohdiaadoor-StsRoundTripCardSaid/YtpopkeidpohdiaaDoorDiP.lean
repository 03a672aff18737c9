/-
  Plain mathematics of package directive: no program.
-/
import Derived.Test.YtpopkeidpohdiaaDoorQdP
namespace Go.Proofs.YtpopkeidpohdiaaDoor
open Go.RowKit

/-- A directive. -/
structure Dv where
  name : List UInt8
  value : List UInt8
  has : Bool
deriving DecidableEq

def skL (l : List UInt8) : List UInt8 := l.dropWhile blankU
/-- A reader of the elements of a quoted string, which tells what is left. -/
def pr : Bool → List UInt8 → List UInt8 → Option (List UInt8 × List UInt8)
  | _, [], _ => none
  | esc, c :: l, acc =>
    if inU c = false then none
    else if esc = false ∧ c = 34 then some (acc, l)
    else if esc = false ∧ c = 92 then pr true l acc
    else pr false l (acc ++ [c])
theorem pr_pq : ∀ (l : List UInt8) (esc : Bool) (acc : List UInt8) (k : Nat), match pr esc l acc with
    | some (v, r) => pq esc l acc k = (v, k + (l.length - r.length), 0) ∧ r.length < l.length ∧ r = l.drop (l.length - r.length)
    | none => (pq esc l acc k).2.2 ≠ 0
  | [], esc, acc, k => by
    rw [pr, pq_end]
    show (5 : Int) ≠ 0
    decide
  | c :: l, esc, acc, k => by
    rw [pr, pq]
    by_cases h1 : inU c = false
    · rw [if_pos h1, if_pos h1]
      show (4 : Int) ≠ 0
      decide
    · rw [if_neg h1, if_neg h1]
      by_cases h2 : esc = false ∧ c = 34
      · rw [if_pos h2, if_pos h2]
        refine ⟨?_, by simp, ?_⟩
        · simp
        · simp
      · rw [if_neg h2, if_neg h2]
        have ih : ∀ (e : Bool) (a : List UInt8), match pr e l a with
            | some (v, r) => pq e l a (k + 1) = (v, k + ((c :: l).length - r.length), 0) ∧ r.length < (c :: l).length ∧ r = (c :: l).drop ((c :: l).length - r.length)
            | none => (pq e l a (k + 1)).2.2 ≠ 0 := by
          intro e a
          have h := pr_pq l e a (k + 1)
          cases hp : pr e l a with
          | none => rw [hp] at h; exact h
          | some q =>
            obtain ⟨v, r⟩ := q
            rw [hp] at h
            obtain ⟨q1, q2, q3⟩ := h
            refine ⟨?_, by simp; omega, ?_⟩
            · rw [q1, List.length_cons, show k + 1 + (l.length - r.length) = k + (l.length + 1 - r.length) by omega]
            · rw [List.length_cons, show l.length + 1 - r.length = (l.length - r.length) + 1 by omega, List.drop_succ_cons]
              exact q3
        by_cases h3 : esc = false ∧ c = 92
        · rw [if_pos h3, if_pos h3]
          exact ih true acc
        · rw [if_neg h3, if_neg h3]
          exact ih false (acc ++ [c])

/-- The element that stands at the beginning, and what is left behind it. -/
def valL (q : List UInt8) : Option (List UInt8 × List UInt8) :=
  match q with
  | 34 :: r => pr false r []
  | _ => if q.takeWhile tokU = [] then none else some (q.takeWhile tokU, q.dropWhile tokU)
def elemT (t : List UInt8) : List UInt8 → Option (Dv × List UInt8)
  | [] => some (⟨lowL t, [], false⟩, [])
  | c :: r => if c = 61 then (valL (skL r)).map fun p => (⟨lowL t, p.1, true⟩, p.2) else some (⟨lowL t, [], false⟩, c :: r)
def elemL (l : List UInt8) : Option (Dv × List UInt8) :=
  if l.takeWhile tokU = [] then none else elemT (l.takeWhile tokU) (skL (l.dropWhile tokU))
theorem elemT_eq (t r : List UInt8) : elemT t (61 :: r) = (valL (skL r)).map fun p => (⟨lowL t, p.1, true⟩, p.2) := by rw [elemT, if_pos rfl]
theorem elemT_ne (t q : List UInt8) (h : ∀ r, q ≠ 61 :: r) : elemT t q = some (⟨lowL t, [], false⟩, q) := by
  cases q with
  | nil => rfl
  | cons c r =>
    rw [elemT, if_neg]
    intro e
    exact h r (by rw [e])
theorem elemT_two (q : List UInt8) : (∃ r, q = 61 :: r) ∨ ∀ r, q ≠ 61 :: r := by
  by_cases h : ∃ r, q = 61 :: r
  · exact .inl h
  · exact .inr fun r e => h ⟨r, e⟩
/-- The list of the directives: behind the elements 'acc'. The numbers are those of the errors; 'n' bounds the rounds. -/
def dirGo : Nat → List UInt8 → List Dv → List Dv × Int
  | 0, _, _ => ([], 4)
  | n + 1, l, acc =>
    match skL l with
    | [] => (acc, 0)
    | c :: r =>
      if c = 59 then dirGo n r acc
      else if acc.length = 32 then ([], 3)
      else match elemL (c :: r) with
        | none => ([], 4)
        | some (d, q) =>
          match skL q with
          | [] => (acc ++ [d], 0)
          | e :: t => if e = 59 then dirGo n t (acc ++ [d]) else ([], 4)
def dirL (l : List UInt8) : List Dv × Int := if 4096 < l.length then ([], 3) else dirGo (l.length + 1) l []

/-! ### how far a reader comes -/
theorem dropWhile_le {α : Type} (p : α → Bool) : ∀ l : List α, (l.dropWhile p).length ≤ l.length
  | [] => Nat.le_refl _
  | a :: l => by
    rw [List.dropWhile_cons]
    split
    · have := dropWhile_le p l
      simp; omega
    · exact Nat.le_refl _
theorem skL_le (l : List UInt8) : (skL l).length ≤ l.length := dropWhile_le _ _
theorem pr_le (l acc : List UInt8) {v r : List UInt8} (h : pr false l acc = some (v, r)) : r.length ≤ l.length := by
  have := pr_pq l false acc 0
  rw [h] at this
  omega
theorem valL_le {q v r : List UInt8} (h : valL q = some (v, r)) : r.length ≤ q.length := by
  unfold valL at h
  split at h
  · have := pr_le _ _ h
    simp; omega
  · split at h
    · cases h
    · injection h with h
      injection h with _ h
      rw [← h]
      exact dropWhile_le _ _
theorem takeWhile_ne {α : Type} (p : α → Bool) {l : List α} (h : l.takeWhile p ≠ []) : (l.dropWhile p).length < l.length := by
  cases l with
  | nil => exact absurd rfl h
  | cons a l =>
    rw [List.takeWhile_cons] at h
    cases hp : p a with
    | false => rw [hp] at h; exact absurd rfl h
    | true =>
      rw [List.dropWhile_cons, hp, if_pos rfl]
      have := dropWhile_le p l
      simp; omega
theorem elemL_lt {l r : List UInt8} {d : Dv} (h : elemL l = some (d, r)) : r.length < l.length := by
  unfold elemL at h
  split at h
  · cases h
  · rename_i ht
    have h1 := takeWhile_ne tokU ht
    have h2 := skL_le (l.dropWhile tokU)
    rcases elemT_two (skL (l.dropWhile tokU)) with ⟨q, hq⟩ | hq
    · rw [hq, elemT_eq] at h
      rw [hq] at h2
      cases hv : valL (skL q) with
      | none => rw [hv] at h; cases h
      | some p =>
        obtain ⟨v, t⟩ := p
        rw [hv] at h
        simp at h
        have h3 := valL_le hv
        have h4 := skL_le q
        rw [← h.2]
        simp at h2
        omega
    · rw [elemT_ne _ _ hq] at h
      injection h with h
      injection h with _ h
      rw [← h]
      omega
/-- Rounds that are not needed change nothing. -/
theorem dirGo_more : ∀ (n m : Nat) (l : List UInt8) (acc : List Dv), l.length < n → l.length < m → dirGo n l acc = dirGo m l acc
  | 0, _, _, _, h, _ => absurd h (by omega)
  | _ + 1, 0, _, _, _, h => absurd h (by omega)
  | n + 1, m + 1, l, acc, hn, hm => by
    rw [dirGo, dirGo]
    have hs := skL_le l
    cases hk : skL l with
    | nil => rfl
    | cons c r =>
      rw [hk] at hs
      simp only [List.length_cons] at hs
      by_cases h59 : c = 59
      · simp only [if_pos h59]
        exact dirGo_more n m r acc (by omega) (by omega)
      · simp only [if_neg h59]
        by_cases h32 : acc.length = 32
        · simp only [if_pos h32]
        · simp only [if_neg h32]
          cases he : elemL (c :: r) with
          | none => rfl
          | some p =>
            obtain ⟨d, q⟩ := p
            have h1 := elemL_lt he
            have h2 := skL_le q
            simp only [List.length_cons] at h1
            simp only
            cases hq : skL q with
            | nil => rfl
            | cons e t =>
              rw [hq] at h2
              simp only [List.length_cons] at h2
              simp only
              by_cases he2 : e = 59
              · simp only [if_pos he2]
                exact dirGo_more n m t (acc ++ [d]) (by omega) (by omega)
              · simp only [if_neg he2]

/-! ### validity, and the text -/
def Dv.ok (d : Dv) : Bool := !d.name.isEmpty && d.name.all tokU && decide (lowL d.name = d.name) && (d.has || d.value.isEmpty) && d.value.all inU
def dirOk (l : List Dv) : Bool := l.all Dv.ok && decide (l.length ≤ 32)
def valT (v : List UInt8) : List UInt8 := if !v.isEmpty && v.all tokU then v else quoL v
def Dv.text (d : Dv) : List UInt8 := d.name ++ (if d.has then 61 :: valT d.value else [])
def dirT : List Dv → List UInt8
  | [] => []
  | [d] => d.text
  | d :: e :: r => d.text ++ 59 :: 32 :: dirT (e :: r)

end Go.Proofs.YtpopkeidpohdiaaDoor
