/-
  Laws of the lists of directives: blanks and empty elements change nothing. No program.
-/
import Derived.Test.YtbpgkdhdooaigaaDiR
namespace Go.Proofs.Ytbpgkdhdooaigaa
open Go.RowKit

/-- No semicolon, no double quote. -/
def Free (l : List UInt8) : Prop := ∀ c ∈ l, c ≠ 59 ∧ c ≠ 34
def Blk (l : List UInt8) : Prop := l.all blankU = true
theorem skL_blk {b : List UInt8} (h : Blk b) (l : List UInt8) : skL (b ++ l) = skL l := by
  induction b with
  | nil => rfl
  | cons c b ih =>
    unfold Blk at h
    rw [List.all_cons, Bool.and_eq_true] at h
    unfold skL
    rw [List.cons_append, List.dropWhile_cons, h.1, if_pos rfl]
    exact ih h.2
theorem skL_blk0 {b : List UInt8} (h : Blk b) : skL b = [] := by
  have := skL_blk h []
  rw [List.append_nil] at this
  rw [this]
  rfl
theorem skL_end {b : List UInt8} (h : Blk b) (l : List UInt8) : skL (l ++ b) = if skL l = [] then [] else skL l ++ b := by
  induction l with
  | nil => rw [List.nil_append, skL_blk0 h]; rfl
  | cons c l ih =>
    unfold skL at ih ⊢
    rw [List.cons_append, List.dropWhile_cons, List.dropWhile_cons]
    split
    · exact ih
    · rw [if_neg (by simp)]
      rfl
theorem blk_tok {b : List UInt8} (h : Blk b) : Ends tokU b := by
  cases b with
  | nil => exact .inl rfl
  | cons c r =>
    unfold Blk at h
    rw [List.all_cons, Bool.and_eq_true] at h
    refine .inr ⟨c, r, rfl, ?_⟩
    cases ht : tokU c with
    | false => rfl
    | true =>
      have := (tok_blk c ht).1
      rw [this] at h
      cases h.1
theorem free_sk {l : List UInt8} (h : Free l) : Free (skL l) := fun c hc => h c ((List.dropWhile_sublist _).subset hc)
theorem free_drop {l : List UInt8} (h : Free l) : Free (l.dropWhile tokU) := fun c hc => h c ((List.dropWhile_sublist _).subset hc)
theorem valL_free {q : List UInt8} (h : Free q) : valL q = if q.takeWhile tokU = [] then none else some (q.takeWhile tokU, q.dropWhile tokU) := by
  unfold valL
  split
  · exact absurd rfl (h 34 (by simp)).2
  · rfl
theorem skL_nb : ∀ {z : List UInt8} {a : UInt8} {r : List UInt8}, skL z = a :: r → blankU a = false
  | [], _, _, e => by cases e
  | y :: z, a, r, e => by
    unfold skL at e
    rw [List.dropWhile_cons] at e
    split at e
    · exact skL_nb (z := z) e
    · rename_i hy
      injection e with e1 _
      rw [← e1]
      simpa using hy
theorem elemL_mem {l r : List UInt8} {d : Dv} (hl : Free l) (h : elemL l = some (d, r)) : ∀ x ∈ r, x ∈ l := by
  intro x hx
  unfold elemL at h
  split at h
  · cases h
  · have hsub : ∀ z, z ∈ skL (l.dropWhile tokU) → z ∈ l := fun z hz => (List.dropWhile_sublist _).subset ((List.dropWhile_sublist _).subset hz)
    have hfl := free_sk (free_drop hl)
    rcases elemT_two (skL (l.dropWhile tokU)) with ⟨q, hq⟩ | hq
    · rw [hq] at hsub hfl
      rw [hq, elemT_eq] at h
      have hfq : Free (skL q) := free_sk fun y hy => hfl y (by simp [hy])
      rw [valL_free hfq] at h
      split at h
      · cases h
      · injection h with h
        injection h with _ h
        rw [← h] at hx
        exact hsub x (by simp; exact .inr ((List.dropWhile_sublist _).subset ((List.dropWhile_sublist _).subset hx)))
    · rw [elemT_ne _ _ hq] at h
      injection h with h
      injection h with _ h
      rw [← h] at hx
      exact hsub x hx
/-- What an element says, behind which nothing but blanks may stand: nothing, or the directive. -/
def one (l : List UInt8) : Option Dv :=
  match elemL l with
  | none => none
  | some (d, r) => if skL r = [] then some d else none
theorem elemL_end {l b : List UInt8} (hl : Free l) (hb : Blk b) : one (l ++ b) = one l := by
  unfold one elemL
  have h1 := blk_tok hb
  rw [takeWhile_app h1, dropWhile_app h1, skL_end hb]
  by_cases ht : l.takeWhile tokU = []
  · rw [if_pos ht, if_pos ht]
  · rw [if_neg ht, if_neg ht]
    have hf := free_sk (free_drop hl)
    by_cases hz : skL (l.dropWhile tokU) = []
    · rw [if_pos hz, hz]
    · rw [if_neg hz]
      cases hq : skL (l.dropWhile tokU) with
      | nil => exact absurd hq hz
      | cons c q =>
        rw [List.cons_append]
        rw [hq] at hf
        by_cases h61 : c = 61
        · subst h61
          have hfq : Free (skL q) := free_sk fun x hx => hf x (by simp [hx])
          rw [elemT_eq, elemT_eq, skL_end hb, valL_free hfq]
          by_cases hs : skL q = []
          · rw [if_pos hs, hs]
            rfl
          · rw [if_neg hs]
            have hfa : valL (skL q ++ b) = if (skL q).takeWhile tokU = [] then none else some ((skL q).takeWhile tokU, (skL q).dropWhile tokU ++ b) := by
              unfold valL
              split
              · rename_i t e
                cases hsq : skL q with
                | nil => exact absurd hsq hs
                | cons a z =>
                  rw [hsq] at e hfq
                  injection e with e _
                  exact absurd e (hfq a (by simp)).2
              · rw [takeWhile_app h1, dropWhile_app h1]
            rw [hfa]
            by_cases hv : (skL q).takeWhile tokU = []
            · rw [if_pos hv, if_pos hv]
            · rw [if_neg hv, if_neg hv]
              simp only [Option.map_some]
              rw [skL_end hb]
              by_cases hy : skL ((skL q).dropWhile tokU) = []
              · rw [if_pos hy, if_pos hy, if_pos rfl]
              · rw [if_neg hy, if_neg (by simp [hy]), if_neg hy]
        · have hn : ∀ x r : List UInt8, c :: x ≠ 61 :: r := by
            intro x r e
            injection e with e _
            exact h61 e
          rw [elemT_ne _ _ (hn _), elemT_ne _ _ (hn _)]
          have hcb : blankU c = false := by
            cases hc : blankU c with
            | false => rfl
            | true =>
              rw [skL_nb hq] at hc
              cases hc
          simp only
          rw [skL_head hcb, skL_head hcb, if_neg (by simp), if_neg (by simp)]

/-- What a list of parts says. -/
def parGo : List (List UInt8) → List Dv → List Dv × Int
  | [], acc => (acc, 0)
  | p :: ps, acc =>
    if skL p = [] then parGo ps acc
    else if acc.length = 32 then ([], 3)
    else match one (skL p) with
      | none => ([], 4)
      | some d => parGo ps (acc ++ [d])
def joinS : List (List UInt8) → List UInt8
  | [] => []
  | [p] => p
  | p :: q :: r => p ++ 59 :: joinS (q :: r)
theorem elemL_free {l : List UInt8} (y : List UInt8) (hl : Free l) (hy : Behind y) : (match elemL (l ++ y) with
    | none => one l = none
    | some (d, q) => ∃ q0, elemL l = some (d, q0) ∧ q = q0 ++ y) := by
  cases he : elemL l with
  | some p =>
    obtain ⟨d, q⟩ := p
    have := elemL_app hy.tok hy.blk hy.ne he
    rw [this]
    exact ⟨q, rfl, rfl⟩
  | none =>
    have hn : elemL (l ++ y) = none := by
      unfold elemL at he ⊢
      rw [takeWhile_app hy.tok, dropWhile_app hy.tok, skL_app hy.blk]
      split at he
      · rename_i ht
        rw [if_pos ht]
      · rename_i ht
        rw [if_neg ht]
        have hf := free_sk (free_drop hl)
        rcases elemT_two (skL (l.dropWhile tokU)) with ⟨q, hq⟩ | hq
        · rw [hq, elemT_eq] at he
          rw [hq, List.cons_append, elemT_eq, skL_app hy.blk]
          rw [hq] at hf
          have hfq : Free (skL q) := free_sk fun x hx => hf x (by simp [hx])
          rw [valL_free hfq] at he
          split at he
          · rename_i hv
            have : valL (skL q ++ y) = none := by
              unfold valL
              split
              · rename_i t e
                cases hsq : skL q with
                | nil =>
                  rw [hsq] at e
                  rcases hy with rfl | ⟨r, rfl⟩
                  · cases e
                  · injection e with e _
                    cases e
                | cons a z =>
                  rw [hsq] at e hfq
                  injection e with e _
                  exact absurd e (hfq a (by simp)).2
              · rw [takeWhile_app hy.tok, if_pos hv]
            rw [this]
            rfl
          · cases he
        · rw [elemT_ne _ _ hq] at he
          cases he
    rw [hn]
    unfold one
    rw [he]
theorem dirGo_parts : ∀ (ps : List (List UInt8)) (n : Nat) (acc : List Dv), (∀ p ∈ ps, Free p) → ps ≠ [] → (joinS ps).length < n → dirGo n (joinS ps) acc = parGo ps acc
  | [], _, _, _, h, _ => absurd rfl h
  | _ :: _, 0, _, _, _, h => absurd h (by omega)
  | [p], n + 1, acc, hf, _, _ => by
    rw [dirGo, joinS, parGo]
    have hfp := free_sk (hf p (by simp))
    cases hk : skL p with
    | nil => rw [if_pos rfl]; rfl
    | cons c r =>
      rw [hk] at hfp
      show (if c = 59 then dirGo n r acc else _) = _
      rw [if_neg (hfp c (by simp)).1, if_neg (by simp : ¬ c :: r = [])]
      by_cases h32 : acc.length = 32
      · rw [if_pos h32, if_pos h32]
      · rw [if_neg h32, if_neg h32]
        unfold one
        cases he : elemL (c :: r) with
        | none => rfl
        | some q =>
          obtain ⟨d, q⟩ := q
          simp only
          cases hq : skL q with
          | nil => rw [if_pos rfl]; rfl
          | cons e t =>
            have h59 : e ≠ 59 := by
              have hq2 : Free q := fun x hx => hfp x (elemL_mem hfp he x hx)
              exact (free_sk hq2 e (by rw [hq]; simp)).1
            simp only
            rw [if_neg h59, if_neg (by simp)]
  | p :: p2 :: ps, n + 1, acc, hf, _, hn => by
    have hlen : (joinS (p :: p2 :: ps)).length = p.length + 1 + (joinS (p2 :: ps)).length := by
      rw [joinS]
      simp
      omega
    have ih := fun acc => dirGo_parts (p2 :: ps) n acc (fun x hx => hf x (by simp at hx ⊢; exact .inr hx)) (by simp) (by omega)
    rw [dirGo, joinS, parGo, skL_app (semi_blk _)]
    have hfp := free_sk (hf p (by simp))
    cases hk : skL p with
    | nil =>
      rw [if_pos rfl]
      show (if (59 : UInt8) = 59 then dirGo n (joinS (p2 :: ps)) acc else _) = _
      rw [if_pos rfl, ih]
    | cons c r =>
      rw [hk] at hfp
      simp only [List.cons_append]
      rw [if_neg (hfp c (by simp)).1, if_neg (by simp : ¬ c :: r = [])]
      by_cases h32 : acc.length = 32
      · rw [if_pos h32, if_pos h32]
      · rw [if_neg h32, if_neg h32]
        have hE := elemL_free (59 :: joinS (p2 :: ps)) (l := c :: r) hfp (.inr ⟨_, rfl⟩)
        rw [List.cons_append] at hE
        cases he : elemL (c :: (r ++ 59 :: joinS (p2 :: ps))) with
        | none =>
          rw [he] at hE
          simp only at hE
          rw [hE]
        | some q =>
          obtain ⟨d, q⟩ := q
          rw [he] at hE
          obtain ⟨q0, h1, rfl⟩ := hE
          unfold one
          rw [h1]
          simp only
          rw [skL_app (semi_blk _)]
          cases hq : skL q0 with
          | nil =>
            rw [if_pos rfl]
            show (if (59 : UInt8) = 59 then dirGo n (joinS (p2 :: ps)) (acc ++ [d]) else _) = _
            rw [if_pos rfl, ih]
          | cons e t =>
            have h59 : e ≠ 59 := by
              have hq2 : Free q0 := fun x hx => hfp x (elemL_mem hfp h1 x hx)
              exact (free_sk hq2 e (by rw [hq]; simp)).1
            simp only [List.cons_append]
            rw [if_neg h59, if_neg (by simp)]

/-! ### parts with blanks and empty parts around them -/
theorem parGo_blank {b : List UInt8} (h : Blk b) (ps : List (List UInt8)) (acc : List Dv) : parGo (b :: ps) acc = parGo ps acc := by
  rw [parGo, if_pos (skL_blk0 h)]
theorem parGo_pad {a b p : List UInt8} (ha : Blk a) (hb : Blk b) (hp : Free p) {ps qs : List (List UInt8)} (h : ∀ acc, parGo ps acc = parGo qs acc) (acc : List Dv) : parGo ((a ++ p ++ b) :: ps) acc = parGo (p :: qs) acc := by
  rw [parGo, parGo, List.append_assoc, skL_blk ha, skL_end hb]
  by_cases hz : skL p = []
  · rw [if_pos hz, if_pos rfl, if_pos hz, h]
  · rw [if_neg hz, if_neg (by simp [hz]), if_neg hz, elemL_end (free_sk hp) hb]
    split
    · rfl
    · split
      · rfl
      · exact h _
def padL (k : Nat) : List UInt8 := if k = 0 then [] else if k = 1 then [32] else if k = 2 then [9, 32] else [32, 59, 32]
def wideP (k : Nat) (p : List UInt8) : List (List UInt8) := if k < 3 then [padL k ++ p ++ padL k] else [[32], 32 :: (p ++ [32]), [32]]
def wideA : List (Nat × List UInt8) → List (List UInt8)
  | [] => []
  | x :: r => wideP x.1 x.2 ++ wideA r
theorem wideP_ne (k : Nat) (p : List UInt8) : wideP k p ≠ [] := by unfold wideP; split <;> simp
theorem joinS_app : ∀ (a b : List (List UInt8)), a ≠ [] → b ≠ [] → joinS (a ++ b) = joinS a ++ 59 :: joinS b
  | [], _, h, _ => absurd rfl h
  | [p], b, _, hb => by
    cases b with
    | nil => exact absurd rfl hb
    | cons q r => rfl
  | p :: p2 :: r, b, _, hb => by
    have ih := joinS_app (p2 :: r) b (by simp) hb
    rw [show p :: p2 :: r ++ b = p :: (p2 :: (r ++ b)) from rfl, joinS, joinS]
    rw [show p2 :: (r ++ b) = p2 :: r ++ b from rfl, ih]
    simp
theorem joinS_wideP (k : Nat) (p : List UInt8) : joinS (wideP k p) = padL k ++ p ++ padL k := by
  unfold wideP
  by_cases h : k < 3
  · rw [if_pos h]
    rfl
  · rw [if_neg h]
    unfold padL
    rw [if_neg (by omega), if_neg (by omega), if_neg (by omega)]
    show [32] ++ 59 :: (32 :: (p ++ [32]) ++ 59 :: [32]) = _
    simp
theorem padL_blk {k : Nat} (h : k < 3) : Blk (padL k) := by
  have : k = 0 ∨ k = 1 ∨ k = 2 := by omega
  rcases this with rfl | rfl | rfl <;> (unfold Blk; decide +kernel)
theorem free_wide {k : Nat} {p : List UInt8} (hp : Free p) : ∀ x ∈ wideP k p, Free x := by
  have h32 : Free [32] := by
    intro c hc
    rw [List.mem_singleton.1 hc]
    decide
  intro x hx
  unfold wideP at hx
  split at hx
  · rename_i hk
    rw [List.mem_singleton.1 hx]
    have hpad : Free (padL k) := by
      have : k = 0 ∨ k = 1 ∨ k = 2 := by omega
      intro c hc
      rcases this with rfl | rfl | rfl
      · cases hc
      · rw [List.mem_singleton.1 hc]; decide
      · have : c = 9 ∨ c = 32 := by simpa [padL] using hc
        rcases this with rfl | rfl <;> decide
    intro c hc
    simp only [List.mem_append] at hc
    rcases hc with (h | h) | h
    · exact hpad c h
    · exact hp c h
    · exact hpad c h
  · simp only [List.mem_cons, List.not_mem_nil, or_false] at hx
    rcases hx with rfl | rfl | rfl
    · exact h32
    · intro c hc
      simp only [List.mem_cons, List.mem_append, List.not_mem_nil, or_false] at hc
      rcases hc with rfl | h | rfl
      · decide
      · exact hp c h
      · decide
    · exact h32
theorem parGo_wide : ∀ (xs : List (Nat × List UInt8)), (∀ x ∈ xs, Free x.2) → ∀ acc, parGo (wideA xs) acc = parGo (xs.map (·.2)) acc
  | [], _, _ => rfl
  | x :: r, hf, acc => by
    have ih := parGo_wide r fun y hy => hf y (by simp [hy])
    have hx := hf x (by simp)
    have b32 : Blk [32] := by unfold Blk; decide +kernel
    rw [wideA, List.map_cons]
    unfold wideP
    split
    · rename_i hk
      rw [List.cons_append, List.nil_append]
      exact parGo_pad (padL_blk hk) (padL_blk hk) hx ih acc
    · rw [List.cons_append, parGo_blank b32]
      rw [List.cons_append, show (32 : UInt8) :: (x.2 ++ [32]) = [32] ++ x.2 ++ [32] by simp]
      refine parGo_pad b32 b32 hx (fun acc => ?_) acc
      rw [List.cons_append, parGo_blank b32, List.nil_append]
      exact ih acc
theorem dirL_wide {xs : List (Nat × List UInt8)} (hf : ∀ x ∈ xs, Free x.2) (hne : xs ≠ []) (h1 : (joinS (wideA xs)).length ≤ 4096) (h2 : (joinS (xs.map (·.2))).length ≤ 4096) : dirL (joinS (wideA xs)) = dirL (joinS (xs.map (·.2))) := by
  unfold dirL
  rw [if_neg (by omega), if_neg (by omega), dirGo_parts _ _ _ ?_ ?_ (by omega), dirGo_parts _ _ _ ?_ ?_ (by omega), parGo_wide xs hf]
  · intro p hp
    obtain ⟨x, hx, rfl⟩ := List.mem_map.1 hp
    exact hf x hx
  · simpa using hne
  · have : ∀ (ys : List (Nat × List UInt8)), (∀ x ∈ ys, Free x.2) → ∀ p ∈ wideA ys, Free p := by
      intro ys
      induction ys with
      | nil => intro _ p hp; cases hp
      | cons y ys ih =>
        intro h p hp
        rw [wideA, List.mem_append] at hp
        rcases hp with hp | hp
        · exact free_wide (h y (by simp)) p hp
        · exact ih (fun x hx => h x (by simp [hx])) p hp
    exact this xs hf
  · cases xs with
    | nil => exact absurd rfl hne
    | cons x r =>
      rw [wideA]
      intro e
      exact wideP_ne _ _ (List.append_eq_nil_iff.1 e).1

end Go.Proofs.Ytbpgkdhdooaigaa
