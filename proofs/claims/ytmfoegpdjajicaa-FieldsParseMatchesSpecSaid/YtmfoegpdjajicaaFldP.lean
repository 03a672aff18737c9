/-
  Plain mathematics of package fields (layer 21): field lines, header sections, what Format writes. No program.
-/
import Derived.Test.YtmfoegpdjajicaaQdP
import Derived.Test.YtmfoegpdjajicaaCutP
import Derived.Test.YtmfoegpdjajicaaAscJ
namespace Go.Proofs.Ytmfoegpdjajicaa
open Go.RowKit

/-- A header field. -/
structure Fv where
  name : List UInt8
  value : List UInt8
deriving DecidableEq
/-- A line without the carriage return at its end. -/
def st13 (l : List UInt8) : List UInt8 := if l.getLast? = some 13 then l.dropLast else l
/-- A field line. -/
def fieldL (line : List UInt8) : Option Fv :=
  match line.takeWhile tokU, line.dropWhile tokU with
  | c :: n, 58 :: v => if v.all inU then some ⟨lowL (c :: n), trimL v⟩ else none
  | _, _ => none
/-- The fields of the lines of b, behind those of acc. -/
def fpGo : Nat → List UInt8 → List Fv → List Fv × Int
  | 0, _, acc => (acc, 0)
  | f + 1, b, acc =>
    if b = [] then (acc, 0)
    else if b.any (isB 10) = false then ([], 5)
    else if st13 (befL (isB 10) b) = [] then (acc, 0)
    else if acc.length = 100 then ([], 3)
    else match fieldL (st13 (befL (isB 10) b)) with
      | none => ([], 4)
      | some x => fpGo f ((fromL (isB 10) b).drop 1) (acc ++ [x])
def fpar (b : List UInt8) : List Fv × Int := if 16384 < b.length then ([], 3) else fpGo (b.length + 1) b []
/-- A field that Parse can return. -/
def okF (x : Fv) : Bool := !x.name.isEmpty && x.name.all tokU && decide (lowL x.name = x.name) && x.value.all inU && decide (trimL x.value = x.value)
def fmtL (x : Fv) : List UInt8 := x.name ++ 58 :: 32 :: (x.value ++ [13, 10])
def fmtF (l : List Fv) : List UInt8 := l.flatMap fmtL ++ [13, 10]
def ffmt (l : List Fv) : List UInt8 × Int := if 100 < l.length then ([], 3) else if l.all okF = false then ([], 1) else if 16384 < (fmtF l).length then ([], 3) else (fmtF l, 0)
/-- The values of the fields of a name. -/
def fall (l : List Fv) (n : List UInt8) : List (List UInt8) := (l.filter fun x => decide (lowL x.name = lowL n)).map (·.value)

/-! ### lines -/
theorem cut_line {x : List UInt8} (r : List UInt8) (h : ∀ b ∈ x, b ≠ 10) : befL (isB 10) (x ++ 10 :: r) = x ∧ fromL (isB 10) (x ++ 10 :: r) = 10 :: r ∧ (x ++ 10 :: r).any (isB 10) = true := by
  have hb : ∀ b ∈ x, isB 10 b = false := fun b hb => by have := h b hb; simpa [isB] using this
  refine ⟨?_, ?_, by simp [isB]⟩
  · unfold befL
    rw [List.takeWhile_append_of_pos (fun b h => by simp [hb b h])]
    simp [isB]
  · unfold fromL
    rw [List.dropWhile_append_of_pos (fun b h => by simp [hb b h])]
    simp [isB]
theorem st13_none {x : List UInt8} (h : ∀ b ∈ x, b ≠ 13) : st13 x = x := by
  unfold st13
  rw [if_neg]
  intro e
  exact h 13 (List.mem_of_getLast? e) rfl
theorem st13_snoc (x : List UInt8) : st13 (x ++ [13]) = x := by
  unfold st13
  rw [if_pos (by simp)]
  simp
/-- One line that isn't empty, whichever way it ends. -/
theorem fp_line {x : List UInt8} (hx : x ≠ []) (h10 : ∀ b ∈ x, b ≠ 10) (h13 : ∀ b ∈ x, b ≠ 13) (f : Nat) (r : List UInt8) (acc : List Fv) :
    fpGo (f + 1) (x ++ 10 :: r) acc = (if acc.length = 100 then ([], 3) else match fieldL x with | none => ([], 4) | some y => fpGo f r (acc ++ [y])) ∧
    fpGo (f + 1) (x ++ 13 :: 10 :: r) acc = (if acc.length = 100 then ([], 3) else match fieldL x with | none => ([], 4) | some y => fpGo f r (acc ++ [y])) := by
  constructor
  · obtain ⟨e1, e2, e3⟩ := cut_line r h10
    rw [fpGo, if_neg (by simp), e3, if_neg (by simp), e1, e2, st13_none h13, if_neg hx]
    rfl
  · have h10' : ∀ b ∈ x ++ [13], b ≠ 10 := fun b hb => by
      rcases List.mem_append.1 hb with hb | hb
      · exact h10 b hb
      · simp at hb
        subst hb
        decide
    obtain ⟨e1, e2, e3⟩ := cut_line r h10'
    have e : x ++ 13 :: 10 :: r = (x ++ [13]) ++ 10 :: r := by simp
    rw [e, fpGo, if_neg (by simp), e3, if_neg (by simp), e1, e2, st13_snoc, if_neg hx]
    rfl
theorem fp_stop (f : Nat) (r : List UInt8) (acc : List Fv) : fpGo (f + 1) (13 :: 10 :: r) acc = (acc, 0) := by
  obtain ⟨e1, e2, e3⟩ := cut_line (x := [13]) r (by simp)
  have e : (13 :: 10 :: r : List UInt8) = [13] ++ 10 :: r := rfl
  rw [e, fpGo, if_neg (by simp), e3, if_neg (by simp), e1, if_pos (show st13 [13] = [] from st13_snoc [])]
theorem fp_end (f : Nat) (acc : List Fv) : fpGo f [] acc = (acc, 0) := by
  cases f <;> rfl
/-- Lines whose ends differ, and tails that answer alike. -/
theorem fp_lines {a b : List UInt8} (h : ∀ acc f g, 0 < f → 0 < g → fpGo f a acc = fpGo g b acc) : ∀ (L : List (List UInt8)), (∀ x ∈ L, x ≠ [] ∧ (∀ b ∈ x, b ≠ 10) ∧ ∀ b ∈ x, b ≠ 13) → ∀ (acc : List Fv) (f g : Nat), L.length < f → L.length < g →
    fpGo f (L.flatMap (fun x => x ++ [10]) ++ a) acc = fpGo g (L.flatMap (fun x => x ++ [13, 10]) ++ b) acc ∧ fpGo f (L.flatMap (fun x => x ++ [10]) ++ a) acc = fpGo g (L.flatMap (fun x => x ++ [10]) ++ b) acc
  | [], _, acc, f, g, hf, hg => ⟨h acc f g hf hg, h acc f g hf hg⟩
  | x :: L, hL, acc, f, g, hf, hg => by
    obtain ⟨hx, h10, h13⟩ := hL x (by simp)
    match f, g, hf, hg with
    | f + 1, g + 1, hf, hg =>
      have e1 : ∀ t : List UInt8, (x :: L).flatMap (fun x => x ++ [10]) ++ t = x ++ 10 :: (L.flatMap (fun x => x ++ [10]) ++ t) := fun t => by simp
      have e2 : ∀ t : List UInt8, (x :: L).flatMap (fun x => x ++ [13, 10]) ++ t = x ++ 13 :: 10 :: (L.flatMap (fun x => x ++ [13, 10]) ++ t) := fun t => by simp
      rw [e1, e2, e1, (fp_line hx h10 h13 f _ acc).1, (fp_line hx h10 h13 g _ acc).2, (fp_line hx h10 h13 g _ acc).1]
      by_cases hc : acc.length = 100
      · rw [if_pos hc, if_pos hc, if_pos hc]
        exact ⟨rfl, rfl⟩
      · rw [if_neg hc, if_neg hc, if_neg hc]
        cases fieldL x with
        | none => exact ⟨rfl, rfl⟩
        | some y => exact fp_lines h L (fun z hz => hL z (by simp [hz])) (acc ++ [y]) f g (by simp at hf; omega) (by simp at hg; omega)
theorem flat_long (k : Nat) (t : List UInt8) (ht : t.length = k) (hk : 0 < k) : ∀ L : List (List UInt8), L.length ≤ (L.flatMap fun x => x ++ t).length
  | [] => by simp
  | x :: L => by
    have := flat_long k t ht hk L
    rw [List.flatMap_cons, List.length_append, List.length_append, List.length_cons]
    omega
/-- FieldsLineEnds: a carriage return ahead of each line feed changes nothing, and neither does what stands behind the first empty line. -/
theorem line_ends {L : List (List UInt8)} (h : ∀ x ∈ L, x ≠ [] ∧ (∀ b ∈ x, b ≠ 10) ∧ ∀ b ∈ x, b ≠ 13) (rest : List UInt8) (h1 : (L.flatMap fun x => x ++ [13, 10]).length ≤ 16384) (h2 : (L.flatMap (fun x => x ++ [10]) ++ 13 :: 10 :: rest).length ≤ 16384) :
    fpar (L.flatMap fun x => x ++ [10]) = fpar (L.flatMap fun x => x ++ [13, 10]) ∧ fpar (L.flatMap fun x => x ++ [10]) = fpar (L.flatMap (fun x => x ++ [10]) ++ 13 :: 10 :: rest) := by
  have hl1 := flat_long 1 [10] rfl (by omega) L
  have hl2 := flat_long 2 [13, 10] rfl (by omega) L
  have h3 : (L.flatMap fun x => x ++ [10]).length ≤ 16384 := by rw [List.length_append] at h2; omega
  unfold fpar
  rw [if_neg (by omega), if_neg (by omega), if_neg (by omega)]
  have k1 := (fp_lines (a := []) (b := []) (fun acc f g _ _ => by rw [fp_end, fp_end]) L h [] ((L.flatMap fun x => x ++ [10]).length + 1) ((L.flatMap fun x => x ++ [13, 10]).length + 1) (by omega) (by omega)).1
  have k2 := (fp_lines (a := []) (b := 13 :: 10 :: rest) (fun acc f g _ hg => by
    rw [fp_end]
    match g, hg with
    | g + 1, _ => rw [fp_stop]) L h [] ((L.flatMap fun x => x ++ [10]).length + 1) ((L.flatMap (fun x => x ++ [10]) ++ 13 :: 10 :: rest).length + 1) (by omega) (by rw [List.length_append]; omega)).2
  rw [List.append_nil, List.append_nil] at k1
  rw [List.append_nil] at k2
  exact ⟨k1, k2⟩

/-! ### what Format writes -/
theorem okF_iff {x : Fv} (h : okF x = true) : x.name ≠ [] ∧ x.name.all tokU = true ∧ lowL x.name = x.name ∧ x.value.all inU = true ∧ trimL x.value = x.value := by
  unfold okF at h
  simp only [Bool.and_eq_true, decide_eq_true_iff] at h
  obtain ⟨⟨⟨⟨h1, h2⟩, h3⟩, h4⟩, h5⟩ := h
  exact ⟨by intro e; rw [e] at h1; simp at h1, h2, h3, h4, h5⟩
theorem in_ends {c : UInt8} (h : inU c = true) : c ≠ 10 ∧ c ≠ 13 := by
  constructor
  · rintro rfl; revert h; decide
  · rintro rfl; revert h; decide
theorem line_of {x : Fv} (h : okF x = true) : fieldL (x.name ++ 58 :: 32 :: x.value) = some x ∧ x.name ++ 58 :: 32 :: x.value ≠ [] ∧ (∀ b ∈ x.name ++ 58 :: 32 :: x.value, b ≠ 10) ∧ (∀ b ∈ x.name ++ 58 :: 32 :: x.value, b ≠ 13) := by
  obtain ⟨h1, h2, h3, h4, h5⟩ := okF_iff h
  have h58 : tokU 58 = false := by decide
  have e1 : (x.name ++ 58 :: 32 :: x.value).takeWhile tokU = x.name := by
    rw [List.takeWhile_append_of_pos (fun b hb => List.all_eq_true.1 h2 b hb), List.takeWhile_cons, if_neg (by rw [h58]; decide), List.append_nil]
  have e2 : (x.name ++ 58 :: 32 :: x.value).dropWhile tokU = 58 :: 32 :: x.value := by
    rw [List.dropWhile_append_of_pos (fun b hb => List.all_eq_true.1 h2 b hb), List.dropWhile_cons, if_neg (by rw [h58]; decide)]
  have hin : ∀ b ∈ x.name ++ 58 :: 32 :: x.value, inU b = true := fun b hb => by
    rcases List.mem_append.1 hb with hb | hb
    · exact (tok_in b (List.all_eq_true.1 h2 b hb)).1
    · rcases List.mem_cons.1 hb with rfl | hb
      · decide
      · rcases List.mem_cons.1 hb with rfl | hb
        · decide
        · exact List.all_eq_true.1 h4 b hb
  refine ⟨?_, by simp, fun b hb => (in_ends (hin b hb)).1, fun b hb => (in_ends (hin b hb)).2⟩
  have ht : trimL (32 :: x.value) = x.value := by
    have hb : blankU 32 = true := by decide
    rw [show trimL (32 :: x.value) = trimL x.value from by unfold trimL; rw [List.dropWhile_cons, if_pos hb]]
    exact h5
  have hv : (32 :: x.value).all inU = true := by
    rw [List.all_cons, h4]
    decide
  unfold fieldL
  rw [e1, e2]
  cases hn : x.name with
  | nil => exact absurd hn h1
  | cons c n =>
    show (if (32 :: x.value).all inU then some (⟨lowL (c :: n), trimL (32 :: x.value)⟩ : Fv) else none) = _
    rw [if_pos hv, ht, ← hn, h3]
theorem fp_fmt : ∀ (l : List Fv), l.all okF = true → ∀ (rest : List UInt8) (acc : List Fv) (f : Nat), l.length < f → acc.length + l.length ≤ 100 → fpGo f (fmtF l ++ rest) acc = (acc ++ l, 0)
  | [], _, rest, acc, f, hf, _ => by
    match f, hf with
    | f + 1, _ =>
      rw [List.append_nil]
      exact fp_stop f rest acc
  | x :: l, h, rest, acc, f, hf, ha => by
    rw [List.all_cons, Bool.and_eq_true] at h
    obtain ⟨e1, e2, e3, e4⟩ := line_of h.1
    match f, hf with
    | f + 1, hf =>
      have e : fmtF (x :: l) ++ rest = (x.name ++ 58 :: 32 :: x.value) ++ 13 :: 10 :: (fmtF l ++ rest) := by
        unfold fmtF
        rw [List.flatMap_cons]
        unfold fmtL
        simp
      simp only [List.length_cons] at hf ha
      rw [e, (fp_line e2 e3 e4 f _ acc).2, if_neg (by omega), e1]
      show fpGo f (fmtF l ++ rest) (acc ++ [x]) = _
      rw [fp_fmt l h.2 rest (acc ++ [x]) f (by omega) (by simp; omega)]
      simp
theorem fmtF_long : ∀ l : List Fv, l.length < (fmtF l).length
  | [] => by simp [fmtF]
  | x :: l => by
    have := fmtF_long l
    have h1 : 0 < (fmtL x).length := by unfold fmtL; simp; omega
    unfold fmtF at this ⊢
    rw [List.flatMap_cons, List.append_assoc, List.length_append, List.length_cons]
    omega
/-- FieldsRoundTrip: Parse reads back what Format has written, whatever follows. -/
theorem read_back {l : List Fv} (h : (ffmt l).2 = 0) {rest : List UInt8} (hz : (ffmt l).1.length + rest.length ≤ 16384) : fpar ((ffmt l).1 ++ rest) = (l, 0) := by
  unfold ffmt at h hz ⊢
  by_cases h1 : 100 < l.length
  · rw [if_pos h1] at h; cases h
  · rw [if_neg h1] at h hz ⊢
    by_cases h2 : l.all okF = false
    · rw [if_pos h2] at h; cases h
    · rw [if_neg h2] at h hz ⊢
      by_cases h3 : 16384 < (fmtF l).length
      · rw [if_pos h3] at h; cases h
      · rw [if_neg h3] at hz ⊢
        have hlen := fmtF_long l
        show fpar (fmtF l ++ rest) = _
        unfold fpar
        rw [if_neg (by rw [List.length_append]; exact Nat.not_lt.2 hz)]
        rw [fp_fmt l (by simpa using h2) rest [] _ (by rw [List.length_append]; omega) (by simp; omega)]
        rfl

end Go.Proofs.Ytmfoegpdjajicaa
