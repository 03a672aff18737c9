/-
  Canonical labels, test by test. No program.
-/
import Derived.Test.YtoieapdfpbcfpaaDoorLabP
namespace Go.Proofs.YtoieapdfpbcfpaaDoor
open Go.RowKit

theorem ne_empty {s : ByteArray} (h : ¬ s.size = 0) : (ls s).isEmpty = false := by
  cases hl : ls s with
  | nil => exact absurd (by rw [← ls_length, hl]; rfl) h
  | cons _ _ => rfl
theorem lab_zero {s : ByteArray} (h : s.size = 0) : labL (ls s) = false := by
  have : ls s = [] := List.eq_nil_of_length_eq_zero (by rw [ls_length]; exact h)
  rw [this]
  rfl
theorem lab_long {s : ByteArray} (h : 63 < s.size) : labL (ls s) = false := by
  unfold labL endsL
  rw [ls_length, decide_eq_false (p := s.size ≤ 63) (by omega)]
  simp
/-- What is left when the length and the ends are well. -/
def restLab (l : List UInt8) : Bool := l.all (fun b => okN b.toNat) && (decide (l.take 4 ≠ xnL) || propL (l.drop 4))
theorem u8_45 {c : UInt8} : c = 45 ↔ c.toNat = 45 := by
  constructor
  · rintro rfl; rfl
  · intro h; exact UInt8.toNat_inj.1 h
theorem lab_ends {s : ByteArray} {y0 y1 : Nat} (h : 0 < s.size) (h0 : y0 = (s[0]'h).toNat) (h1 : y1 = (s[s.size - 1]'(by omega)).toNat) :
    ((y0 = 45 ∨ y1 = 45) → labL (ls s) = false) ∧ ((y0 ≠ 45 ∧ y1 ≠ 45 ∧ s.size ≤ 63) → labL (ls s) = restLab (ls s)) := by
  have g0 : (ls s).head? = some (s[0]'h) := by rw [List.head?_eq_getElem?, ls_get s 0 h]
  have g1 : (ls s).getLast? = some (s[s.size - 1]'(by omega)) := by rw [List.getLast?_eq_getElem?, ls_length, ls_get s _ (by omega)]
  have hne : ls s ≠ [] := by
    intro e
    have := ls_length s
    rw [e] at this
    simp at this
    omega
  have e : endsL (ls s) = (decide (s.size ≤ 63) && decide (y0 ≠ 45) && decide (y1 ≠ 45)) := by
    unfold endsL
    rw [g0, g1, ls_length, decide_eq_true hne, Bool.true_and]
    congr 1
    · congr 1
      rw [decide_eq_decide]
      rw [h0, ne_eq, ne_eq, Option.some.injEq, u8_45]
    · rw [decide_eq_decide]
      rw [h1, ne_eq, ne_eq, Option.some.injEq, u8_45]
  refine ⟨?_, ?_⟩
  · intro hh
    unfold labL
    rw [e]
    rcases hh with hh | hh
    · simp [hh]
    · simp [hh]
  · rintro ⟨a, b, c⟩
    unfold labL restLab
    rw [e, decide_eq_true a, decide_eq_true b, decide_eq_true c]
    simp
/-- The bytes of a label, by the tests. -/
theorem lb_kind (y : Nat) : (97 ≤ y ∧ y ≤ 122 ∧ okN y = true) ∨ (48 ≤ y ∧ y ≤ 57 ∧ okN y = true) ∨ (y = 45 ∧ okN y = true) ∨ (y = 95 ∧ okN y = true) ∨
    (122 < y ∧ okN y = false) ∨ (y < 48 ∧ y ≠ 45 ∧ okN y = false) ∨ (57 < y ∧ y < 97 ∧ y ≠ 95 ∧ okN y = false) := by
  have e : okN y = (decide (97 ≤ y ∧ y ≤ 122) || decide (48 ≤ y ∧ y ≤ 57) || decide (y = 45) || decide (y = 95)) := by
    unfold okN
    simp only [Bool.decide_and]
    rfl
  rw [e]
  simp only [Bool.or_eq_true, decide_eq_true_eq, Bool.or_eq_false_iff, decide_eq_false_iff_not]
  omega
theorem okN_yes (y : Nat) : okN y = true ↔ (97 ≤ y ∧ y ≤ 122) ∨ (48 ≤ y ∧ y ≤ 57) ∨ y = 45 ∨ y = 95 := by
  unfold okN
  simp only [Bool.or_eq_true, Bool.and_eq_true, decide_eq_true_eq, beq_iff_eq]
  omega
theorem okN_no (y : Nat) : okN y = false ↔ ¬ ((97 ≤ y ∧ y ≤ 122) ∨ (48 ≤ y ∧ y ≤ 57) ∨ y = 45 ∨ y = 95) := by
  rw [← okN_yes, Bool.not_eq_true]
def okK (l : List UInt8) (k : Nat) : Bool := (l.take k).all (fun b => okN b.toNat)
theorem okK_succ (l : List UInt8) (k : Nat) (h : k < l.length) : okK l (k + 1) = (okK l k && okN (l[k]).toNat) := by
  unfold okK
  rw [List.take_succ_eq_append_getElem h, List.all_append]
  simp
theorem rest_bad {l : List UInt8} (k : Nat) (h : k < l.length) (hb : okN (l[k]).toNat = false) : restLab l = false := by
  have : l.all (fun b => okN b.toNat) = false := by
    rw [List.all_eq_false]
    exact ⟨l[k], List.getElem_mem h, by rw [hb]; simp⟩
  unfold restLab
  rw [this]
  rfl
theorem rest_all {l : List UInt8} (h : okK l l.length = true) : restLab l = (decide (l.take 4 ≠ xnL) || propL (l.drop 4)) := by
  unfold okK at h
  rw [List.take_length] at h
  unfold restLab
  rw [h, Bool.true_and]
theorem xn_short {l : List UInt8} (h : l.length < 4) : decide (l.take 4 ≠ xnL) = true := by
  rw [decide_eq_true_iff]
  intro e
  have := congrArg List.length e
  rw [List.length_take] at this
  unfold xnL at this
  simp at this
  omega

end Go.Proofs.YtoieapdfpbcfpaaDoor
