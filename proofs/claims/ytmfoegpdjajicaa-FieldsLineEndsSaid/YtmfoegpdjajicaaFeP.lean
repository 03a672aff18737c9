/-
  Plain mathematics of the program of package fields: the lines of a header section as pairs, and a reader of them. No program.
-/
import Derived.Test.YtmfoegpdjajicaaFldP
namespace Go.Proofs.Ytmfoegpdjajicaa
open Go.RowKit

/-- The lines of b, each with whether a line feed ends it. -/
def linesF : Nat → List UInt8 → List (List UInt8 × Bool)
  | 0, _ => []
  | f + 1, b => if b = [] then [] else (st13 (befL (isB 10) b), b.any (isB 10)) :: linesF f ((fromL (isB 10) b).drop 1)
/-- What a reader of such lines answers that has the fields acc. -/
def goL : List (List UInt8 × Bool) → List Fv → List Fv × Int
  | [], acc => (acc, 0)
  | (x, q) :: r, acc =>
    if q = false then ([], 5)
    else if x = [] then (acc, 0)
    else if acc.length = 100 then ([], 3)
    else match fieldL x with
      | none => ([], 4)
      | some y => goL r (acc ++ [y])
theorem go_lines : ∀ (f : Nat) (b : List UInt8) (acc : List Fv), fpGo f b acc = goL (linesF f b) acc
  | 0, _, _ => rfl
  | f + 1, b, acc => by
    rw [fpGo, linesF]
    by_cases h1 : b = []
    · rw [if_pos h1, if_pos h1]
      rfl
    · rw [if_neg h1, if_neg h1, goL]
      by_cases h2 : b.any (isB 10) = false
      · rw [if_pos h2, if_pos h2]
      · rw [if_neg h2, if_neg h2]
        by_cases h3 : st13 (befL (isB 10) b) = []
        · rw [if_pos h3, if_pos h3]
        · rw [if_neg h3, if_neg h3]
          by_cases h4 : acc.length = 100
          · rw [if_pos h4, if_pos h4]
          · rw [if_neg h4, if_neg h4]
            cases fieldL (st13 (befL (isB 10) b)) with
            | none => rfl
            | some y => exact go_lines f _ _
/-- The lines of a text. -/
def linesL (b : List UInt8) : List (List UInt8 × Bool) := linesF (b.length + 1) b
theorem fpar_lines (b : List UInt8) : fpar b = if 16384 < b.length then ([], 3) else goL (linesL b) [] := by
  unfold fpar linesL
  rw [go_lines]
theorem linesL_nil : linesL [] = [] := rfl
theorem linesF_more : ∀ (f g : Nat) (b : List UInt8), b.length < f → b.length < g → linesF f b = linesF g b
  | f + 1, g + 1, b, hf, hg => by
    rw [linesF, linesF]
    by_cases h : b = []
    · rw [if_pos h, if_pos h]
    · rw [if_neg h, if_neg h]
      have h1 : 0 < b.length := List.length_pos_iff.2 h
      have h2 : (fromL (isB 10) b).length ≤ b.length := by
        have := congrArg List.length (bef_from (isB 10) b)
        rw [List.length_append] at this
        omega
      rw [linesF_more f g _ (by rw [List.length_drop]; omega) (by rw [List.length_drop]; omega)]
theorem linesL_cons {b : List UInt8} (h : b ≠ []) : linesL b = (st13 (befL (isB 10) b), b.any (isB 10)) :: linesL ((fromL (isB 10) b).drop 1) := by
  unfold linesL
  rw [linesF, if_neg h]
  have h1 : 0 < b.length := List.length_pos_iff.2 h
  have h2 : (fromL (isB 10) b).length ≤ b.length := by
    have := congrArg List.length (bef_from (isB 10) b)
    rw [List.length_append] at this
    omega
  rw [linesF_more b.length (((fromL (isB 10) b).drop 1).length + 1) _ (by rw [List.length_drop]; omega) (by omega)]
/-- Where a reader stands that has read pre and has the fields acc. -/
def AtL (pre : List (List UInt8 × Bool)) (acc : List Fv) : Prop := ∀ r, goL (pre ++ r) [] = goL r acc
theorem AtL.start : AtL [] [] := fun _ => rfl
theorem AtL.done {L : List (List UInt8 × Bool)} {acc : List Fv} (h : AtL L acc) : goL L [] = (acc, 0) := by
  have := h []
  rwa [List.append_nil] at this
theorem AtL.step {pre : List (List UInt8 × Bool)} {acc : List Fv} (h : AtL pre acc) {x : List UInt8} (hx : x ≠ []) (ha : acc.length ≠ 100) {y : Fv} (hy : fieldL x = some y) : AtL (pre ++ [(x, true)]) (acc ++ [y]) := fun r => by
  rw [List.append_assoc, h]
  show goL ((x, true) :: r) acc = _
  rw [goL, if_neg (by simp), if_neg hx, if_neg ha, hy]
theorem AtL.stop {pre L : List (List UInt8 × Bool)} {acc : List Fv} (h : AtL pre acc) {x : List UInt8} {q : Bool} (hp : pre ++ [(x, q)] <+: L) : ∃ r, goL L [] = goL ((x, q) :: r) acc := by
  obtain ⟨r, rfl⟩ := hp
  exact ⟨r, by rw [List.append_assoc, h]; rfl⟩
theorem goL_trunc (x : List UInt8) (r : List (List UInt8 × Bool)) (acc : List Fv) : goL ((x, false) :: r) acc = ([], 5) := by rw [goL, if_pos rfl]
theorem goL_end (r : List (List UInt8 × Bool)) (acc : List Fv) : goL (([], true) :: r) acc = (acc, 0) := by rw [goL, if_neg (by simp), if_pos rfl]
theorem goL_limit {x : List UInt8} (hx : x ≠ []) (r : List (List UInt8 × Bool)) {acc : List Fv} (h : acc.length = 100) : goL ((x, true) :: r) acc = ([], 3) := by rw [goL, if_neg (by simp), if_neg hx, if_pos h]
theorem goL_syntax {x : List UInt8} (hx : x ≠ []) (r : List (List UInt8 × Bool)) {acc : List Fv} (ha : acc.length ≠ 100) (hy : fieldL x = none) : goL ((x, true) :: r) acc = ([], 4) := by rw [goL, if_neg (by simp), if_neg hx, if_neg ha, hy]

/-! ### a field line cut at its first colon -/
theorem line_cut (x : List UInt8) : fieldL x = if x.any (isB 58) = true then (if befL (isB 58) x ≠ [] ∧ (befL (isB 58) x).all tokU = true then (if ((fromL (isB 58) x).drop 1).all inU = true then some ⟨lowL (befL (isB 58) x), trimL ((fromL (isB 58) x).drop 1)⟩ else none) else none) else none := by
  have h58 : tokU 58 = false := by decide
  by_cases ha : x.any (isB 58) = true
  · rw [if_pos ha]
    have h1 := bef_from (isB 58) x
    obtain ⟨v, hv⟩ : ∃ v, fromL (isB 58) x = 58 :: v := by
      cases hf : fromL (isB 58) x with
      | nil =>
        rw [hf, List.append_nil] at h1
        rw [List.any_eq_true] at ha
        obtain ⟨b, hb, hq⟩ := ha
        rw [← h1] at hb
        rw [bef_not _ _ b hb] at hq
        cases hq
      | cons b r =>
        have hb : b = 58 := by simpa [isB] using from_head (isB 58) _ b r hf
        exact ⟨r, by rw [hb]⟩
    have hno : ∀ b ∈ befL (isB 58) x, b ≠ 58 := fun b hb => by have := bef_not (isB 58) x b hb; simpa [isB] using this
    rw [hv] at h1 ⊢
    rw [List.drop_succ_cons, List.drop_zero]
    generalize befL (isB 58) x = n at *
    subst h1
    by_cases ht : n.all tokU = true
    · have e1 : (n ++ 58 :: v).takeWhile tokU = n := by
        rw [List.takeWhile_append_of_pos (fun b hb => List.all_eq_true.1 ht b hb), List.takeWhile_cons, if_neg (by rw [h58]; decide), List.append_nil]
      have e2 : (n ++ 58 :: v).dropWhile tokU = 58 :: v := by
        rw [List.dropWhile_append_of_pos (fun b hb => List.all_eq_true.1 ht b hb), List.dropWhile_cons, if_neg (by rw [h58]; decide)]
      unfold fieldL
      rw [e1, e2]
      cases n with
      | nil => rw [if_neg (by simp)]
      | cons c m =>
        rw [if_pos ⟨by simp, ht⟩]
        rfl
    · rw [if_neg (fun h => ht h.2)]
      unfold fieldL
      have hne : (n ++ 58 :: v).dropWhile tokU ≠ 58 :: v ∧ ∀ c t w, (n ++ 58 :: v).takeWhile tokU = c :: t → (n ++ 58 :: v).dropWhile tokU = 58 :: w → False := by
        have key : ∃ b t, (n ++ 58 :: v).dropWhile tokU = b :: t ∧ b ∈ n := by
          clear hv ha
          induction n with
          | nil => simp at ht
          | cons c m ih =>
            rw [List.cons_append, List.dropWhile_cons]
            by_cases hc : tokU c = true
            · rw [if_pos hc]
              have hm : ¬ m.all tokU = true := fun h => ht (by rw [List.all_cons, hc, h]; rfl)
              obtain ⟨b, t, e, hb⟩ := ih (fun b hb => hno b (by simp [hb])) hm
              exact ⟨b, t, e, by simp [hb]⟩
            · rw [if_neg hc]
              exact ⟨c, _, rfl, by simp⟩
        obtain ⟨b, t, e, hb⟩ := key
        rw [e]
        exact ⟨fun h => by injection h with h1 h2; exact hno b hb h1, fun c u w _ h => by injection h with h1 h2; exact hno b hb h1⟩
      split
      · rename_i c t w h1 h2
        exact (hne.2 c t w h1 h2).elim
      · rfl
  · rw [if_neg ha]
    have hno : ∀ b ∈ x, b ≠ 58 := fun b hb e => ha (List.any_eq_true.2 ⟨b, hb, by simp [isB, e]⟩)
    unfold fieldL
    split
    · rename_i c t w h1 h2
      have : (58 : UInt8) ∈ x.dropWhile tokU := by rw [h2]; simp
      exact absurd rfl (hno 58 (List.dropWhile_sublist _ |>.subset this))
    · rfl

/-! ### the shortest line with a value -/
theorem st13_of {x : List UInt8} (h : ∀ b, x.getLast? = some b → b ≠ 13) : st13 x = x := by
  unfold st13
  rw [if_neg]
  intro e
  exact h 13 e rfl
theorem fpGo_head : ∀ (f : Nat) (b : List UInt8) (acc : List Fv), acc ≠ [] → (fpGo f b acc).1 = [] ∨ (fpGo f b acc).1.head? = acc.head?
  | 0, _, _, _ => .inr rfl
  | f + 1, b, acc, h => by
    rw [fpGo]
    by_cases h1 : b = []
    · rw [if_pos h1]; exact .inr rfl
    · rw [if_neg h1]
      by_cases h2 : b.any (isB 10) = false
      · rw [if_pos h2]; exact .inl rfl
      · rw [if_neg h2]
        by_cases h3 : st13 (befL (isB 10) b) = []
        · rw [if_pos h3]; exact .inr rfl
        · rw [if_neg h3]
          by_cases h4 : acc.length = 100
          · rw [if_pos h4]; exact .inl rfl
          · rw [if_neg h4]
            cases fieldL (st13 (befL (isB 10) b)) with
            | none => exact .inl rfl
            | some y =>
              rcases fpGo_head f ((fromL (isB 10) b).drop 1) (acc ++ [y]) (by simp) with h5 | h5
              · exact .inl h5
              · refine .inr (h5.trans ?_)
                cases acc with
                | nil => exact absurd rfl h
                | cons a r => rfl
theorem bef_all {p : UInt8 → Bool} {v : List UInt8} (h : ∀ b ∈ v, p b = false) : befL p v = v := by
  have h1 := bef_from p v
  cases hf : fromL p v with
  | nil => rwa [hf, List.append_nil] at h1
  | cons b r =>
    have hb := from_head p _ b r hf
    have hm : b ∈ v := by rw [← h1, hf]; simp
    rw [h b hm] at hb
    cases hb
theorem trim_len (l : List UInt8) : (trimL l).length ≤ l.length := by
  have h : ∀ (p : UInt8 → Bool) (x : List UInt8), (x.dropWhile p).length ≤ x.length := fun p x => (List.dropWhile_sublist p).length_le
  unfold trimL
  rw [List.length_reverse]
  refine Nat.le_trans (h _ _) ?_
  rw [List.length_reverse]
  exact h _ _
/-- What validValue asks of what Parse answers. -/
def firstIs (r : List Fv) (v : List UInt8) : Bool := match r with | [] => false | y :: _ => decide (y.value = v)
/-- Parse of the shortest line with the value v hands v back just where Parse can return it. -/
theorem back_value {v : List UInt8} (hv : v.length ≤ 16000) : firstIs (fpar (120 :: 58 :: (v ++ [10]))).1 v = (v.all inU && decide (trimL v = v)) := by
  have h120 : tokU 120 = true := by decide
  have h58 : tokU 58 = false := by decide
  have hline : ∀ u : List UInt8, fieldL (120 :: 58 :: u) = if u.all inU then some ⟨lowL [120], trimL u⟩ else none := by
    intro u
    unfold fieldL
    rw [List.takeWhile_cons, if_pos h120, List.takeWhile_cons, if_neg (by rw [h58]; decide), List.dropWhile_cons, if_pos h120, List.dropWhile_cons, if_neg (by rw [h58]; decide)]
    rfl
  have hst : ∀ u : List UInt8, st13 (120 :: 58 :: u) = 120 :: 58 :: st13 u := by
    intro u
    cases u with
    | nil => decide
    | cons a r =>
      unfold st13
      rw [show (120 :: 58 :: a :: r : List UInt8).getLast? = (a :: r).getLast? from by simp [List.getLast?_cons_cons]]
      by_cases h : (a :: r).getLast? = some 13
      · rw [if_pos h, if_pos h]; rfl
      · rw [if_neg h, if_neg h]
  have hsl : ∀ u : List UInt8, (st13 u).length ≤ u.length ∧ ∃ t, u = st13 u ++ t := by
    intro u
    unfold st13
    by_cases h : u.getLast? = some 13
    · rw [if_pos h]
      refine ⟨by rw [List.length_dropLast]; omega, [13], ?_⟩
      have hne : u ≠ [] := by rintro rfl; cases h
      have := List.dropLast_concat_getLast hne
      rw [List.getLast?_eq_some_getLast hne, Option.some.injEq] at h
      rw [h] at this
      exact this.symm
    · rw [if_neg h]
      exact ⟨Nat.le_refl _, [], by simp⟩
  unfold fpar
  rw [if_neg (by simp; omega)]
  have hany : (120 :: 58 :: (v ++ [10]) : List UInt8).any (isB 10) = true := by simp [isB]
  have hbef : befL (isB 10) (120 :: 58 :: (v ++ [10])) = 120 :: 58 :: befL (isB 10) v ∧ (v.any (isB 10) = false → fromL (isB 10) (120 :: 58 :: (v ++ [10])) = [10]) := by
    have e1 : befL (isB 10) (120 :: 58 :: (v ++ [10])) = 120 :: 58 :: befL (isB 10) (v ++ [10]) := by
      unfold befL
      rw [List.takeWhile_cons, if_pos (by decide), List.takeWhile_cons, if_pos (by decide)]
    have e2 : fromL (isB 10) (120 :: 58 :: (v ++ [10])) = fromL (isB 10) (v ++ [10]) := by
      unfold fromL
      rw [List.dropWhile_cons, if_pos (by decide), List.dropWhile_cons, if_pos (by decide)]
    by_cases ha : v.any (isB 10) = true
    · refine ⟨?_, fun h => by rw [ha] at h; cases h⟩
      rw [e1]
      have key : befL (isB 10) (v ++ [10]) = befL (isB 10) v := by
        clear hv hany e1 e2
        induction v with
        | nil => simp at ha
        | cons a r ih =>
          unfold befL at ih ⊢
          rw [List.cons_append, List.takeWhile_cons, List.takeWhile_cons]
          by_cases hq : isB 10 a = true
          · rw [if_neg (by rw [hq]; decide), if_neg (by rw [hq]; decide)]
          · rw [if_pos (by simpa using hq), if_pos (by simpa using hq), ih (by rw [List.any_cons] at ha; simpa [hq] using ha)]
      rw [key]
    · have hb : ∀ b ∈ v, b ≠ 10 := fun b hb e => ha (List.any_eq_true.2 ⟨b, hb, by simp [isB, e]⟩)
      obtain ⟨f1, f2, _⟩ := cut_line (x := v) [] hb
      have f0 : befL (isB 10) v = v := by
        refine bef_all fun b hbm => ?_
        have := hb b hbm
        simpa [isB] using this
      refine ⟨by rw [e1, f1, f0], fun _ => by rw [e2, f2]⟩
  obtain ⟨hb1, hb2⟩ := hbef
  rw [fpGo, if_neg (by simp), if_neg (by rw [hany]; decide), hb1, hst, if_neg (by simp), if_neg (by simp), hline]
  have hpre : ∃ t, v = befL (isB 10) v ++ t := ⟨_, (bef_from (isB 10) v).symm⟩
  obtain ⟨t2, ht2⟩ := (hsl (befL (isB 10) v)).2
  obtain ⟨t1, ht1⟩ := hpre
  by_cases hin : v.all inU = true
  · have hno : v.any (isB 10) = false := by
      rw [List.any_eq_false]
      intro b hb
      have := (in_ends (List.all_eq_true.1 hin b hb)).1
      simpa [isB] using this
    have hf0 : befL (isB 10) v = v := by
      refine bef_all fun b hbm => ?_
      have := (in_ends (List.all_eq_true.1 hin b hbm)).1
      simpa [isB] using this
    have hs0 : st13 v = v := st13_none fun b hb => (in_ends (List.all_eq_true.1 hin b hb)).2
    rw [hf0, hs0, if_pos hin, hb2 hno, hin]
    show firstIs (fpGo _ _ [_]).1 v = _
    rw [show List.drop 1 [10] = ([] : List UInt8) from rfl, fp_end]
    rfl
  · have hin' : v.all inU = false := by simpa using hin
    rw [hin']
    by_cases hu : (st13 (befL (isB 10) v)).all inU = true
    · rw [if_pos hu]
      show firstIs (fpGo _ _ ([] ++ [_])).1 v = _
      rcases fpGo_head (120 :: 58 :: (v ++ [10])).length ((fromL (isB 10) (120 :: 58 :: (v ++ [10]))).drop 1) ([] ++ [⟨lowL [120], trimL (st13 (befL (isB 10) v))⟩]) (by simp) with h | h
      · rw [h]; rfl
      · cases hr : (fpGo (120 :: 58 :: (v ++ [10])).length ((fromL (isB 10) (120 :: 58 :: (v ++ [10]))).drop 1) ([] ++ [⟨lowL [120], trimL (st13 (befL (isB 10) v))⟩])).1 with
        | nil => rfl
        | cons y r =>
          rw [hr] at h
          simp at h
          subst h
          show decide (trimL (st13 (befL (isB 10) v)) = v) = _
          refine decide_eq_false fun e => hin ?_
          have h1 := trim_len (st13 (befL (isB 10) v))
          rw [e] at h1
          have h2 := congrArg List.length ht1
          have h3 := congrArg List.length ht2
          rw [List.length_append] at h2 h3
          have ht1' : t1 = [] := List.eq_nil_of_length_eq_zero (by omega)
          have ht2' : t2 = [] := List.eq_nil_of_length_eq_zero (by omega)
          rw [ht1', List.append_nil] at ht1
          rw [ht2', List.append_nil, ← ht1] at ht2
          rw [← ht1, ← ht2] at hu
          exact hu
    · rw [if_neg hu]
      rfl

end Go.Proofs.Ytmfoegpdjajicaa
