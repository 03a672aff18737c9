/-
  Punycode in plain words: what a sequence of numbers inserts; it is the only one that leads to its result. No program.
-/
import Derived.Test.YtoieapdfpbcfpaaDoorPuP
namespace Go.Proofs.YtoieapdfpbcfpaaDoor
open Go.RowKit

/-- The code points so far, the number n and the place i. -/
structure PSt where
  out : List Nat
  n : Nat
  i : Nat
def PSt.pos (s : PSt) (v : Nat) : Nat := (s.i + v) % (s.out.length + 1)
def PSt.val (s : PSt) (v : Nat) : Nat := s.n + (s.i + v) / (s.out.length + 1)
/-- One number. -/
def PSt.step (s : PSt) (v : Nat) : PSt := ⟨s.out.take (s.pos v) ++ s.val v :: s.out.drop (s.pos v), s.val v, s.pos v + 1⟩
def PSt.run : PSt → List Nat → PSt
  | s, [] => s
  | s, v :: r => (s.step v).run r
theorem PSt.pos_le (s : PSt) (v : Nat) : s.pos v ≤ s.out.length := by
  have := Nat.mod_lt (s.i + v) (show 0 < s.out.length + 1 by omega)
  unfold PSt.pos
  omega
theorem PSt.eq (s : PSt) (v : Nat) : s.i + v = (s.val v - s.n) * (s.out.length + 1) + s.pos v := by
  have := Nat.div_add_mod (s.i + v) (s.out.length + 1)
  unfold PSt.val PSt.pos
  rw [Nat.add_sub_cancel_left, Nat.mul_comm]
  exact this.symm
theorem PSt.step_len (s : PSt) (v : Nat) : (s.step v).out.length = s.out.length + 1 := by
  have := s.pos_le v
  unfold PSt.step
  simp
  omega
theorem PSt.run_len : ∀ (ds : List Nat) (s : PSt), (s.run ds).out.length = s.out.length + ds.length
  | [], s => rfl
  | v :: r, s => by
    rw [PSt.run, PSt.run_len r, PSt.step_len, List.length_cons]
    omega
theorem PSt.run_append : ∀ (a b : List Nat) (s : PSt), s.run (a ++ b) = (s.run a).run b
  | [], b, s => rfl
  | v :: r, b, s => by rw [List.cons_append, PSt.run, PSt.run_append r b, PSt.run]
/-- What holds between numbers. -/
structure PSt.Inv (s : PSt) : Prop where
  le : s.i ≤ s.out.length
  low : ∀ x ∈ s.out.take s.i, x ≤ s.n
  high : ∀ x ∈ s.out.drop s.i, x < s.n
theorem PSt.Inv.all {s : PSt} (h : s.Inv) : ∀ x ∈ s.out, x ≤ s.n := by
  intro x hx
  rw [← List.take_append_drop s.i s.out, List.mem_append] at hx
  rcases hx with hx | hx
  · exact h.low x hx
  · exact Nat.le_of_lt (h.high x hx)
theorem PSt.val_ge (s : PSt) (v : Nat) : s.n ≤ s.val v := Nat.le_add_right _ _
/-- The same number again: behind the last place. -/
theorem PSt.pos_same {s : PSt} {v : Nat} (h : s.val v = s.n) : s.i ≤ s.pos v := by
  have e := s.eq v
  rw [h, Nat.sub_self, Nat.zero_mul] at e
  omega
/-- All that stands behind the new place is less. -/
theorem PSt.Inv.behind {s : PSt} (h : s.Inv) (v : Nat) : ∀ x ∈ s.out.drop (s.pos v), x < s.val v := by
  intro x hx
  by_cases hv : s.val v = s.n
  · rw [hv]
    refine h.high x ?_
    have hp := PSt.pos_same hv
    rw [show s.pos v = s.i + (s.pos v - s.i) by omega, ← List.drop_drop] at hx
    exact List.mem_of_mem_drop hx
  · have := h.all x (List.mem_of_mem_drop hx)
    have := s.val_ge v
    omega
theorem PSt.take_step (s : PSt) (v : Nat) : (s.step v).out.take (s.pos v + 1) = s.out.take (s.pos v) ++ [s.val v] := by
  have := s.pos_le v
  have hl : (s.out.take (s.pos v)).length = s.pos v := by rw [List.length_take]; omega
  show (s.out.take (s.pos v) ++ s.val v :: s.out.drop (s.pos v)).take (s.pos v + 1) = _
  rw [List.take_append, hl, show s.pos v + 1 - s.pos v = 1 by omega, List.take_of_length_le (by omega)]
  rfl
theorem PSt.drop_step (s : PSt) (v : Nat) : (s.step v).out.drop (s.pos v + 1) = s.out.drop (s.pos v) := by
  have := s.pos_le v
  have hl : (s.out.take (s.pos v)).length = s.pos v := by rw [List.length_take]; omega
  show (s.out.take (s.pos v) ++ s.val v :: s.out.drop (s.pos v)).drop (s.pos v + 1) = _
  rw [List.drop_append, hl, show s.pos v + 1 - s.pos v = 1 by omega, List.drop_of_length_le (by omega)]
  rfl
theorem PSt.Inv.step {s : PSt} (h : s.Inv) (v : Nat) : (s.step v).Inv := by
  refine ⟨?_, ?_, ?_⟩
  · rw [PSt.step_len]
    have := s.pos_le v
    show s.pos v + 1 ≤ _
    omega
  · show ∀ x ∈ (s.step v).out.take (s.pos v + 1), x ≤ s.val v
    rw [PSt.take_step]
    intro x hx
    rcases List.mem_append.1 hx with hx | hx
    · have := h.all x (List.mem_of_mem_take hx)
      have := s.val_ge v
      omega
    · simp at hx
      omega
  · show ∀ x ∈ (s.step v).out.drop (s.pos v + 1), x < s.val v
    rw [PSt.drop_step]
    exact h.behind v

theorem filter_lt_le (n : Nat) (l : List Nat) : (l.filter (fun x => decide (x ≤ n))).filter (fun x => decide (x < n)) = l.filter (fun x => decide (x < n)) := by
  rw [List.filter_filter]
  congr 1
  funext x
  by_cases h : x < n
  · simp [h, Nat.le_of_lt h]
  · simp [h]
theorem filter_le_lt {n m : Nat} (h : n < m) (l : List Nat) : (l.filter (fun x => decide (x < m))).filter (fun x => decide (x ≤ n)) = l.filter (fun x => decide (x ≤ n)) := by
  rw [List.filter_filter]
  congr 1
  funext x
  by_cases hx : x ≤ n
  · simp [hx]; omega
  · simp [hx]
theorem filter_le_le {n m : Nat} (h : n ≤ m) (l : List Nat) : (l.filter (fun x => decide (x ≤ m))).filter (fun x => decide (x ≤ n)) = l.filter (fun x => decide (x ≤ n)) := by
  rw [List.filter_filter]
  congr 1
  funext x
  by_cases hx : x ≤ n
  · simp [hx]; omega
  · simp [hx]
theorem filter_all {p : Nat → Bool} {l : List Nat} (h : ∀ x ∈ l, p x = true) : l.filter p = l := List.filter_eq_self.2 h
theorem filter_no {p : Nat → Bool} {l : List Nat} (h : ∀ x ∈ l, p x = false) : l.filter p = [] := by
  rw [List.filter_eq_nil_iff]
  intro x hx
  rw [h x hx]
  simp

/-- Where a result is cut so that the parts hold what is there so far. -/
theorem PSt.back : ∀ (ds : List Nat) (s : PSt), s.Inv → ∃ A B, (s.run ds).out = A ++ B ∧ A.filter (fun x => decide (x ≤ s.n)) = s.out.take s.i ∧ B.filter (fun x => decide (x < s.n)) = s.out.drop s.i
  | [], s, h => ⟨s.out.take s.i, s.out.drop s.i, (List.take_append_drop _ _).symm, filter_all (fun x hx => decide_eq_true (h.low x hx)), filter_all (fun x hx => decide_eq_true (h.high x hx))⟩
  | v :: r, s, h => by
    obtain ⟨A', B', e, hA, hB⟩ := PSt.back r (s.step v) (h.step v)
    rw [PSt.run, e]
    change A'.filter (fun x => decide (x ≤ s.val v)) = (s.step v).out.take (s.pos v + 1) at hA
    change B'.filter (fun x => decide (x < s.val v)) = (s.step v).out.drop (s.pos v + 1) at hB
    rw [PSt.take_step] at hA
    rw [PSt.drop_step] at hB
    by_cases hv : s.val v = s.n
    · have hp := PSt.pos_same hv
      rw [hv] at hA hB
      have hsp : s.out.take (s.pos v) ++ [s.n] = s.out.take s.i ++ ((s.out.drop s.i).take (s.pos v - s.i) ++ [s.n]) := by
        rw [← List.append_assoc]
        congr 1
        rw [← List.take_add, show s.i + (s.pos v - s.i) = s.pos v by omega]
      rw [hsp] at hA
      obtain ⟨A, A2, e2, h1, h2⟩ := List.filter_eq_append_iff.1 hA
      refine ⟨A, A2 ++ B', by rw [e2, List.append_assoc], h1, ?_⟩
      have h3 : A2.filter (fun x => decide (x < s.n)) = (s.out.drop s.i).take (s.pos v - s.i) := by
        rw [← filter_lt_le, h2, List.filter_append, filter_all (fun x hx => decide_eq_true (h.high x (List.mem_of_mem_take hx)))]
        simp
      rw [List.filter_append, h3, hB]
      have h4 : s.out.drop (s.pos v) = (s.out.drop s.i).drop (s.pos v - s.i) := by rw [List.drop_drop, show s.i + (s.pos v - s.i) = s.pos v by omega]
      rw [h4, List.take_append_drop]
    · have hlt : s.n < s.val v := by have := s.val_ge v; omega
      have h1 : (A' ++ B').filter (fun x => decide (x ≤ s.n)) = s.out.take s.i ++ s.out.drop s.i := by
        rw [List.filter_append, ← filter_le_le (Nat.le_of_lt hlt) A', hA, ← filter_le_lt hlt B', hB, List.filter_append,
          filter_all (l := s.out.take (s.pos v)) (fun x hx => decide_eq_true (h.all x (List.mem_of_mem_take hx))), filter_all (l := s.out.drop (s.pos v)) (fun x hx => decide_eq_true (h.all x (List.mem_of_mem_drop hx))),
          filter_no (l := [s.val v]) (fun x hx => by simp at hx; subst hx; exact decide_eq_false (by omega)), List.append_nil, List.take_append_drop, List.take_append_drop]
      obtain ⟨A, B, e2, h2, h3⟩ := List.filter_eq_append_iff.1 h1
      refine ⟨A, B, e2, h2, ?_⟩
      rw [← filter_lt_le, h3, filter_all (fun x hx => decide_eq_true (h.high x hx))]

theorem count_filter_lt {m n : Nat} (h : m < n) (l : List Nat) : (l.filter (fun x => decide (x < n))).count m = l.count m := List.count_filter (by simpa using h)
theorem count_filter_le {m n : Nat} (h : m ≤ n) (l : List Nat) : (l.filter (fun x => decide (x ≤ n))).count m = l.count m := List.count_filter (by simpa using h)
theorem count_drop (m k : Nat) (l : List Nat) : (l.take k).count m + (l.drop k).count m = l.count m := by rw [← List.count_append, List.take_append_drop]
theorem count_none {m : Nat} {l : List Nat} (h : ∀ x ∈ l, x ≠ m) : l.count m = 0 := List.count_eq_zero.2 (fun hm => h m hm rfl)

/-- What a result says of the next number. -/
theorem PSt.next {s : PSt} (h : s.Inv) (v : Nat) (r : List Nat) : ∃ A B, (s.run (v :: r)).out = A ++ B ∧ A.filter (fun x => decide (x ≤ s.val v)) = s.out.take (s.pos v) ++ [s.val v] ∧ B.filter (fun x => decide (x < s.val v)) = s.out.drop (s.pos v) := by
  obtain ⟨A, B, e, hA, hB⟩ := PSt.back r (s.step v) (h.step v)
  change A.filter (fun x => decide (x ≤ s.val v)) = (s.step v).out.take (s.pos v + 1) at hA
  change B.filter (fun x => decide (x < s.val v)) = (s.step v).out.drop (s.pos v + 1) at hB
  rw [PSt.take_step] at hA
  rw [PSt.drop_step] at hB
  exact ⟨A, B, e, hA, hB⟩
theorem PSt.val_not_less {s : PSt} (h : s.Inv) {v1 v2 : Nat} {r1 r2 : List Nat} (he : (s.run (v1 :: r1)).out = (s.run (v2 :: r2)).out) : ¬ s.val v1 < s.val v2 := by
  intro hlt
  obtain ⟨A1, B1, e1, hA1, hB1⟩ := PSt.next h v1 r1
  obtain ⟨A2, B2, e2, hA2, hB2⟩ := PSt.next h v2 r2
  have c1 : (A1 ++ B1).count (s.val v1) = (A2 ++ B2).count (s.val v1) := by rw [← e1, ← e2, he]
  rw [List.count_append, List.count_append, ← count_filter_le (Nat.le_of_lt hlt) A2, hA2, ← count_filter_lt hlt B2, hB2, List.count_append, List.count_singleton] at c1
  have c2 : A1.count (s.val v1) = (s.out.take (s.pos v1)).count (s.val v1) + 1 := by rw [← count_filter_le (Nat.le_refl _) A1, hA1, List.count_append]; simp
  have c3 : B1.count (s.val v1) ≥ (B1.filter (fun x => decide (x < s.val v1))).count (s.val v1) := List.Sublist.count_le _ List.filter_sublist
  rw [hB1] at c3
  have d1 := count_drop (s.val v1) (s.pos v1) s.out
  have d2 := count_drop (s.val v1) (s.pos v2) s.out
  have hne : (s.val v2 == s.val v1) = false := by rw [beq_eq_false_iff_ne]; omega
  rw [hne] at c1
  simp at c1
  omega
theorem PSt.pos_not_less {s : PSt} (h : s.Inv) {v1 v2 : Nat} {r1 r2 : List Nat} (he : (s.run (v1 :: r1)).out = (s.run (v2 :: r2)).out) (hv : s.val v1 = s.val v2) : ¬ s.pos v1 < s.pos v2 := by
  intro hlt
  obtain ⟨A1, B1, e1, hA1, hB1⟩ := PSt.next h v1 r1
  obtain ⟨A2, B2, e2, hA2, hB2⟩ := PSt.next h v2 r2
  have hbeh := h.behind v1
  rw [← hv] at hA2 hB2
  generalize s.val v1 = m at *
  have hp1 := s.pos_le v1
  have hp2 := s.pos_le v2
  have l1 : (A1.filter (fun x => decide (x ≤ m))).length = s.pos v1 + 1 := by rw [hA1, List.length_append, List.length_take]; simp; omega
  have l2 : (A2.filter (fun x => decide (x ≤ m))).length = s.pos v2 + 1 := by rw [hA2, List.length_append, List.length_take]; simp; omega
  have hab : A1 ++ B1 = A2 ++ B2 := by rw [← e1, ← e2, he]
  rcases List.append_eq_append_iff.1 hab with ⟨C, hC, _⟩ | ⟨C, hC, _⟩
  · have c1 : A1.count m = (s.out.take (s.pos v1)).count m + 1 := by rw [← count_filter_le (Nat.le_refl m) A1, hA1, List.count_append]; simp
    have c2 : A2.count m = (s.out.take (s.pos v2)).count m + 1 := by rw [← count_filter_le (Nat.le_refl m) A2, hA2, List.count_append]; simp
    have hsame : (s.out.take (s.pos v2)).count m = (s.out.take (s.pos v1)).count m := by
      rw [show s.pos v2 = s.pos v1 + (s.pos v2 - s.pos v1) by omega, List.take_add, List.count_append, count_none (l := (s.out.drop (s.pos v1)).take _) (fun x hx => by have := hbeh x (List.mem_of_mem_take hx); omega), Nat.add_zero]
    have hCm : C.count m = 0 := by rw [hC, List.count_append] at c2; omega
    have hCf : C.filter (fun x => decide (x ≤ m)) ≠ [] := by
      intro h0
      rw [hC, List.filter_append, h0, List.append_nil] at l2
      omega
    have hlast : (A2.filter (fun x => decide (x ≤ m))).getLast? = some m := by rw [hA2]; simp
    rw [hC, List.filter_append, List.getLast?_append] at hlast
    cases hg : (C.filter (fun x => decide (x ≤ m))).getLast? with
    | none => exact hCf (List.getLast?_eq_none_iff.1 hg)
    | some z =>
      rw [hg] at hlast
      simp at hlast
      subst hlast
      have := List.mem_of_getLast? hg
      have := (List.mem_filter.1 this).1
      rw [List.count_eq_zero] at hCm
      exact hCm this
  · rw [hC, List.filter_append, List.length_append] at l1
    omega
/-- Numbers that lead to the same result are the same. -/
theorem PSt.unique : ∀ (a b : List Nat) (s : PSt), s.Inv → (s.run a).out = (s.run b).out → a = b
  | [], [], _, _, _ => rfl
  | [], v :: r, s, _, he => by
    have h1 := PSt.run_len [] s
    have h2 := PSt.run_len (v :: r) s
    rw [he, h2] at h1
    simp at h1
  | v :: r, [], s, _, he => by
    have h1 := PSt.run_len [] s
    have h2 := PSt.run_len (v :: r) s
    rw [he, h1] at h2
    simp at h2
  | v1 :: r1, v2 :: r2, s, h, he => by
    have n1 := PSt.val_not_less h he
    have n2 := PSt.val_not_less h he.symm
    have hv : s.val v1 = s.val v2 := by omega
    have p1 := PSt.pos_not_less h he hv
    have p2 := PSt.pos_not_less h he.symm hv.symm
    have hp : s.pos v1 = s.pos v2 := by omega
    have q1 := s.eq v1
    have q2 := s.eq v2
    rw [hv, hp] at q1
    have e : v1 = v2 := by omega
    subst e
    rw [PSt.unique r1 r2 (s.step v1) (h.step v1) he]

end Go.Proofs.YtoieapdfpbcfpaaDoor
