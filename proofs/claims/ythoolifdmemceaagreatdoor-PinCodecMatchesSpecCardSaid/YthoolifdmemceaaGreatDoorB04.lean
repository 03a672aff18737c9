/-
Punycode in plain words: numbers as digits. No program.
Punycode in plain words: what a sequence of numbers inserts; it is the only one that leads to its result. No program.
-/
import Derived.Test.YthoolifdmemceaaGreatDoorB00
namespace Go.Proofs.YthoolifdmemceaaGreatDoor
section
open Go.RowKit

/-- A code point. -/
def ptN (n : Nat) : Bool := decide (n ≤ 1114111) && (decide (n < 55296) || decide (57343 < n))
theorem ptN_le {n : Nat} (h : ptN n = true) : n ≤ 1114111 := by
  unfold ptN at h
  simp at h
  exact h.1
/-- The threshold of the digit with the number k. -/
def thr (k bias : Nat) : Nat := max 1 (min 26 (36 * (k + 1) - bias))
theorem thr_range (k bias : Nat) : 1 ≤ thr k bias ∧ thr k bias ≤ 26 := by unfold thr; omega
/-- The new bias. -/
def adpGo (d k : Nat) : Nat := if 455 < d then adpGo (d / 35) (k + 36) else k + 36 * d / (d + 38)
termination_by d
decreasing_by omega
def adp (delta n : Nat) (first : Bool) : Nat := adpGo ((if first then delta / 700 else delta / 2) + (if first then delta / 700 else delta / 2) / n) 0
theorem gen_less (q t : Nat) (h : ¬ q < t) (ht : 1 ≤ t) : (q - t) / (36 - t) < q := by
  have := Nat.div_le_self (q - t) (36 - t)
  omega
/-- The digits of a number. -/
def genV (q k bias : Nat) : List Nat := if q < thr k bias then [q] else (thr k bias + (q - thr k bias) % (36 - thr k bias)) :: genV ((q - thr k bias) / (36 - thr k bias)) (k + 1) bias
termination_by q
decreasing_by exact gen_less _ _ ‹_› (thr_range k bias).1
theorem genV_one {q k bias : Nat} (h : q < thr k bias) : genV q k bias = [q] := by rw [genV, if_pos h]
theorem genV_more {q k bias : Nat} (h : ¬ q < thr k bias) : genV q k bias = (thr k bias + (q - thr k bias) % (36 - thr k bias)) :: genV ((q - thr k bias) / (36 - thr k bias)) (k + 1) bias := by rw [genV, if_neg h]
/-- A digit and the rest make the number. -/
theorem gen_join (t d v : Nat) (h1 : t ≤ d) (h2 : d < 36) (ht : t ≤ 26) : ¬ d + (36 - t) * v < t ∧ t + (d + (36 - t) * v - t) % (36 - t) = d ∧ (d + (36 - t) * v - t) / (36 - t) = v := by
  have e : d + (36 - t) * v - t = (d - t) + (36 - t) * v := by omega
  refine ⟨by omega, ?_, ?_⟩
  · rw [e, Nat.add_mul_mod_self_left, Nat.mod_eq_of_lt (by omega)]
    omega
  · rw [e, Nat.add_mul_div_left _ _ (by omega), Nat.div_eq_of_lt (by omega), Nat.zero_add]
theorem genV_digits : ∀ (m q k bias : Nat), q ≤ m → ∀ d ∈ genV q k bias, d < 36
  | m, q, k, bias, hm, d, hd => by
    have ht := thr_range k bias
    by_cases h : q < thr k bias
    · rw [genV_one h] at hd
      simp at hd
      omega
    · rw [genV_more h] at hd
      have hl := gen_less q _ h ht.1
      rcases List.mem_cons.1 hd with rfl | hd
      · have := Nat.mod_lt (q - thr k bias) (show 0 < 36 - thr k bias by omega)
        omega
      · match m with
        | 0 => omega
        | m + 1 => exact genV_digits m _ _ _ (by omega) d hd
theorem genV_len : ∀ (m q k bias : Nat), q < 10 ^ m → (genV q k bias).length ≤ m + 1
  | 0, q, k, bias, h => by
    have ht := thr_range k bias
    rw [genV_one (by simp at h; omega)]
    simp
  | m + 1, q, k, bias, h => by
    have ht := thr_range k bias
    by_cases hq : q < thr k bias
    · rw [genV_one hq]; simp
    · rw [genV_more hq, List.length_cons]
      have : (q - thr k bias) / (36 - thr k bias) < 10 ^ m := by
        have h1 : (q - thr k bias) / (36 - thr k bias) ≤ (q - thr k bias) / 10 := Nat.div_le_div_left (by omega) (by omega)
        have h2 : (q - thr k bias) / 10 < 10 ^ m := by rw [Nat.pow_succ] at h; omega
        omega
      have := genV_len m _ (k + 1) bias this
      omega
theorem genV_ne (q k bias : Nat) : genV q k bias ≠ [] := by
  rw [genV]
  split <;> simp

/-- Bytes of digits. -/
def digB (d : Nat) : UInt8 := if d < 26 then UInt8.ofNat (97 + d) else UInt8.ofNat (22 + d)
def pval (b : UInt8) : Option Nat := if 97 ≤ b.toNat ∧ b.toNat ≤ 122 then some (b.toNat - 97) else if 65 ≤ b.toNat ∧ b.toNat ≤ 90 then some (b.toNat - 65) else if 48 ≤ b.toNat ∧ b.toNat ≤ 57 then some (b.toNat - 22) else none
theorem pval_digB : ∀ d : Fin 36, pval (digB d.val) = some d.val := by decide +kernel
theorem digB_range : ∀ d : Fin 36, (97 ≤ (digB d.val).toNat ∧ (digB d.val).toNat ≤ 122) ∨ (48 ≤ (digB d.val).toNat ∧ (digB d.val).toNat ≤ 57) := by decide +kernel
theorem pval_lt {b : UInt8} {d : Nat} (h : pval b = some d) : d < 36 := by
  unfold pval at h
  split at h
  · injection h; omega
  · split at h
    · injection h; omega
    · split at h
      · injection h; omega
      · cases h
theorem pval_ascii {b : UInt8} {d : Nat} (h : pval b = some d) : b.toNat < 128 := by
  unfold pval at h
  split at h
  · omega
  · split at h
    · omega
    · split at h
      · omega
      · cases h
/-- A digit in lower case. -/
def lowD (b : UInt8) : UInt8 := match pval b with
  | some d => digB d
  | none => b
theorem lowD_of {b : UInt8} {d : Nat} (h : pval b = some d) : lowD b = digB d := by unfold lowD; rw [h]
/-- The digits of numbers one behind the other. -/
def digsOf : List Nat → Nat → Nat → Bool → List UInt8
  | [], _, _, _ => []
  | d :: r, bias, done, first => (genV d 0 bias).map digB ++ digsOf r (adp d (done + 1) first) (done + 1) false
/-- The bias behind numbers. -/
def biasOf : List Nat → Nat → Nat → Bool → Nat
  | [], bias, _, _ => bias
  | d :: r, _, done, first => biasOf r (adp d (done + 1) first) (done + 1) false
theorem digsOf_snoc : ∀ (ds : List Nat) (d bias done : Nat) (first : Bool), digsOf (ds ++ [d]) bias done first = digsOf ds bias done first ++ (genV d 0 (biasOf ds bias done first)).map digB
  | [], d, bias, done, first => by simp [digsOf, biasOf]
  | e :: ds, d, bias, done, first => by
    rw [List.cons_append, digsOf, digsOf_snoc ds, digsOf, biasOf, List.append_assoc]
theorem biasOf_snoc : ∀ (ds : List Nat) (d bias done : Nat) (first : Bool), biasOf (ds ++ [d]) bias done first = adp d (done + ds.length + 1) (first && ds.isEmpty)
  | [], d, bias, done, first => by simp [biasOf]
  | e :: ds, d, bias, done, first => by
    rw [List.cons_append, biasOf, biasOf_snoc ds]
    simp only [List.length_cons, List.isEmpty_cons, Bool.and_false, Bool.false_and]
    rw [show done + 1 + ds.length + 1 = done + (ds.length + 1) + 1 by omega]
theorem digsOf_mem : ∀ (ds : List Nat) (bias done : Nat) (first : Bool), ∀ b ∈ digsOf ds bias done first, ∃ d, d < 36 ∧ b = digB d
  | [], _, _, _, b, h => by simp [digsOf] at h
  | d :: r, bias, done, first, b, h => by
    rw [digsOf, List.mem_append] at h
    rcases h with h | h
    · obtain ⟨e, he, rfl⟩ := List.mem_map.1 h
      exact ⟨e, genV_digits d d 0 bias (Nat.le_refl _) e he, rfl⟩
    · exact digsOf_mem r _ _ _ b h
theorem digsOf_len : ∀ (m : Nat) (ds : List Nat) (bias done : Nat) (first : Bool), (∀ d ∈ ds, d < 10 ^ m) → (digsOf ds bias done first).length ≤ (m + 1) * ds.length
  | m, [], _, _, _, _ => by simp [digsOf]
  | m, d :: r, bias, done, first, h => by
    have h1 := genV_len m d 0 bias (h d (by simp))
    have h2 := digsOf_len m r (adp d (done + 1) first) (done + 1) false (fun x hx => h x (by simp [hx]))
    rw [digsOf, List.length_append, List.length_map, List.length_cons, Nat.mul_add]
    omega

/-- Reading a number: the new i and what is left, or an error. -/
def rdNum : List UInt8 → Nat → Nat → Nat → Nat → Except Nat (Nat × List UInt8)
  | [], _, _, _, _ => .error 4
  | b :: r, bias, k, w, i => match pval b with
    | none => .error 4
    | some d => if 1099511627776 < i + d * w then .error 19 else if d < thr k bias then .ok (i + d * w, r) else if 1099511627776 < w * (36 - thr k bias) then .error 19 else rdNum r bias (k + 1) (w * (36 - thr k bias)) (i + d * w)
theorem rdNum_gen : ∀ (m q k bias w i : Nat) (r : List UInt8), q ≤ m → 1 ≤ w → i + q * w ≤ 17179869184 → rdNum ((genV q k bias).map digB ++ r) bias k w i = .ok (i + q * w, r)
  | m, q, k, bias, w, i, r, hm, hw, hB => by
    have ht := thr_range k bias
    by_cases h : q < thr k bias
    · rw [genV_one h, List.map_cons, List.map_nil, List.cons_append, List.nil_append, rdNum, pval_digB ⟨q, by omega⟩]
      simp only
      rw [if_neg (by omega), if_pos h]
    · have hl := gen_less q _ h ht.1
      have hmod := Nat.mod_lt (q - thr k bias) (show 0 < 36 - thr k bias by omega)
      have hdm := Nat.mod_add_div (q - thr k bias) (36 - thr k bias)
      rw [genV_more h, List.map_cons, List.cons_append, rdNum, pval_digB ⟨thr k bias + (q - thr k bias) % (36 - thr k bias), by omega⟩]
      simp only
      obtain ⟨t, rfl⟩ : ∃ t, t = thr k bias := ⟨_, rfl⟩
      generalize thr k bias = t at *
      generalize hd : (q - t) % (36 - t) = d at *
      generalize hv : (q - t) / (36 - t) = v at *
      have hq : q = t + d + (36 - t) * v := by omega
      have hqw : q * w = (t + d) * w + v * (w * (36 - t)) := by
        rw [hq, Nat.add_mul, Nat.mul_comm (36 - t) v, Nat.mul_assoc, Nat.mul_comm (36 - t) w]
      have h1 : 1 * w ≤ (t + d) * w := Nat.mul_le_mul_right _ (by omega)
      have h2 : w * (36 - t) ≤ w * 35 := Nat.mul_le_mul_left _ (by omega)
      have h3 : 1 * 1 ≤ w * (36 - t) := Nat.mul_le_mul hw (by omega)
      rw [if_neg (by omega), if_neg (by omega), if_neg (by omega)]
      match m with
      | 0 => omega
      | m + 1 =>
        rw [rdNum_gen m v (k + 1) bias _ _ r (by omega) (by omega) (by omega), hqw, Nat.add_assoc]
theorem rdNum_ok : ∀ (l : List UInt8) (bias k w i j : Nat) (r : List UInt8), rdNum l bias k w i = .ok (j, r) → ∃ q x, l = x ++ r ∧ x ≠ [] ∧ x.map lowD = (genV q k bias).map digB ∧ j = i + q * w
  | [], bias, k, w, i, j, r, h => by cases h
  | b :: l, bias, k, w, i, j, r, h => by
    have ht := thr_range k bias
    rw [rdNum] at h
    cases hp : pval b with
    | none => rw [hp] at h; cases h
    | some d =>
      rw [hp] at h
      simp only at h
      have hd := pval_lt hp
      split at h
      · cases h
      · split at h
        · rename_i hdt
          injection h with h
          injection h with h1 h2
          subst h1 h2
          refine ⟨d, [b], rfl, by simp, ?_, rfl⟩
          rw [genV_one hdt]
          simp [lowD_of hp]
        · split at h
          · cases h
          · rename_i hdt _
            obtain ⟨v, x, e1, _, e2, e3⟩ := rdNum_ok l bias (k + 1) _ _ j r h
            obtain ⟨g1, g2, g3⟩ := gen_join (thr k bias) d v (by omega) hd ht.2
            refine ⟨d + (36 - thr k bias) * v, b :: x, by rw [e1]; rfl, by simp, ?_, ?_⟩
            · rw [genV_more g1, g2, g3, List.map_cons, List.map_cons, e2, lowD_of hp]
            · rw [e3, Nat.add_mul, Nat.mul_comm (36 - thr k bias) v, Nat.mul_assoc, Nat.mul_comm (36 - thr k bias) w]
              omega
theorem rdNum_short {l : List UInt8} {bias k w i j : Nat} {r : List UInt8} (h : rdNum l bias k w i = .ok (j, r)) : r.length < l.length := by
  obtain ⟨q, x, e, hx, _, _⟩ := rdNum_ok l bias k w i j r h
  have := List.length_pos_iff.2 hx
  rw [e, List.length_append]
  omega
end

section
open Go.RowKit

/-- The code points so far, the number n and the place i. -/
structure PSt where
  out : List Nat
  n : Nat
  i : Nat
def PSt.pos (s : PSt) (v : Nat) : Nat := (s.i + v) % (s.out.length + 1)
def PSt.val (s : PSt) (v : Nat) : Nat := s.n + (s.i + v) / (s.out.length + 1)
/-- One number. -/
def PSt.step (s : PSt) (v : Nat) : PSt := ⟨s.out.take (s.pos v) ++ s.val v :: s.out.drop (s.pos v), s.val v, s.pos v + 1⟩
def PSt.run : PSt → List Nat → PSt
  | s, [] => s
  | s, v :: r => (s.step v).run r
theorem PSt.pos_le (s : PSt) (v : Nat) : s.pos v ≤ s.out.length := by
  have := Nat.mod_lt (s.i + v) (show 0 < s.out.length + 1 by omega)
  unfold PSt.pos
  omega
theorem PSt.eq (s : PSt) (v : Nat) : s.i + v = (s.val v - s.n) * (s.out.length + 1) + s.pos v := by
  have := Nat.div_add_mod (s.i + v) (s.out.length + 1)
  unfold PSt.val PSt.pos
  rw [Nat.add_sub_cancel_left, Nat.mul_comm]
  exact this.symm
theorem PSt.step_len (s : PSt) (v : Nat) : (s.step v).out.length = s.out.length + 1 := by
  have := s.pos_le v
  unfold PSt.step
  simp
  omega
theorem PSt.run_len : ∀ (ds : List Nat) (s : PSt), (s.run ds).out.length = s.out.length + ds.length
  | [], s => rfl
  | v :: r, s => by
    rw [PSt.run, PSt.run_len r, PSt.step_len, List.length_cons]
    omega
theorem PSt.run_append : ∀ (a b : List Nat) (s : PSt), s.run (a ++ b) = (s.run a).run b
  | [], b, s => rfl
  | v :: r, b, s => by rw [List.cons_append, PSt.run, PSt.run_append r b, PSt.run]
/-- What holds between numbers. -/
structure PSt.Inv (s : PSt) : Prop where
  le : s.i ≤ s.out.length
  low : ∀ x ∈ s.out.take s.i, x ≤ s.n
  high : ∀ x ∈ s.out.drop s.i, x < s.n
theorem PSt.Inv.all {s : PSt} (h : s.Inv) : ∀ x ∈ s.out, x ≤ s.n := by
  intro x hx
  rw [← List.take_append_drop s.i s.out, List.mem_append] at hx
  rcases hx with hx | hx
  · exact h.low x hx
  · exact Nat.le_of_lt (h.high x hx)
theorem PSt.val_ge (s : PSt) (v : Nat) : s.n ≤ s.val v := Nat.le_add_right _ _
/-- The same number again: behind the last place. -/
theorem PSt.pos_same {s : PSt} {v : Nat} (h : s.val v = s.n) : s.i ≤ s.pos v := by
  have e := s.eq v
  rw [h, Nat.sub_self, Nat.zero_mul] at e
  omega
/-- All that stands behind the new place is less. -/
theorem PSt.Inv.behind {s : PSt} (h : s.Inv) (v : Nat) : ∀ x ∈ s.out.drop (s.pos v), x < s.val v := by
  intro x hx
  by_cases hv : s.val v = s.n
  · rw [hv]
    refine h.high x ?_
    have hp := PSt.pos_same hv
    rw [show s.pos v = s.i + (s.pos v - s.i) by omega, ← List.drop_drop] at hx
    exact List.mem_of_mem_drop hx
  · have := h.all x (List.mem_of_mem_drop hx)
    have := s.val_ge v
    omega
theorem PSt.take_step (s : PSt) (v : Nat) : (s.step v).out.take (s.pos v + 1) = s.out.take (s.pos v) ++ [s.val v] := by
  have := s.pos_le v
  have hl : (s.out.take (s.pos v)).length = s.pos v := by rw [List.length_take]; omega
  show (s.out.take (s.pos v) ++ s.val v :: s.out.drop (s.pos v)).take (s.pos v + 1) = _
  rw [List.take_append, hl, show s.pos v + 1 - s.pos v = 1 by omega, List.take_of_length_le (by omega)]
  rfl
theorem PSt.drop_step (s : PSt) (v : Nat) : (s.step v).out.drop (s.pos v + 1) = s.out.drop (s.pos v) := by
  have := s.pos_le v
  have hl : (s.out.take (s.pos v)).length = s.pos v := by rw [List.length_take]; omega
  show (s.out.take (s.pos v) ++ s.val v :: s.out.drop (s.pos v)).drop (s.pos v + 1) = _
  rw [List.drop_append, hl, show s.pos v + 1 - s.pos v = 1 by omega, List.drop_of_length_le (by omega)]
  rfl
theorem PSt.Inv.step {s : PSt} (h : s.Inv) (v : Nat) : (s.step v).Inv := by
  refine ⟨?_, ?_, ?_⟩
  · rw [PSt.step_len]
    have := s.pos_le v
    show s.pos v + 1 ≤ _
    omega
  · show ∀ x ∈ (s.step v).out.take (s.pos v + 1), x ≤ s.val v
    rw [PSt.take_step]
    intro x hx
    rcases List.mem_append.1 hx with hx | hx
    · have := h.all x (List.mem_of_mem_take hx)
      have := s.val_ge v
      omega
    · simp at hx
      omega
  · show ∀ x ∈ (s.step v).out.drop (s.pos v + 1), x < s.val v
    rw [PSt.drop_step]
    exact h.behind v

theorem filter_lt_le (n : Nat) (l : List Nat) : (l.filter (fun x => decide (x ≤ n))).filter (fun x => decide (x < n)) = l.filter (fun x => decide (x < n)) := by
  rw [List.filter_filter]
  congr 1
  funext x
  by_cases h : x < n
  · simp [h, Nat.le_of_lt h]
  · simp [h]
theorem filter_le_lt {n m : Nat} (h : n < m) (l : List Nat) : (l.filter (fun x => decide (x < m))).filter (fun x => decide (x ≤ n)) = l.filter (fun x => decide (x ≤ n)) := by
  rw [List.filter_filter]
  congr 1
  funext x
  by_cases hx : x ≤ n
  · simp [hx]; omega
  · simp [hx]
theorem filter_le_le {n m : Nat} (h : n ≤ m) (l : List Nat) : (l.filter (fun x => decide (x ≤ m))).filter (fun x => decide (x ≤ n)) = l.filter (fun x => decide (x ≤ n)) := by
  rw [List.filter_filter]
  congr 1
  funext x
  by_cases hx : x ≤ n
  · simp [hx]; omega
  · simp [hx]
theorem filter_all {p : Nat → Bool} {l : List Nat} (h : ∀ x ∈ l, p x = true) : l.filter p = l := List.filter_eq_self.2 h
theorem filter_no {p : Nat → Bool} {l : List Nat} (h : ∀ x ∈ l, p x = false) : l.filter p = [] := by
  rw [List.filter_eq_nil_iff]
  intro x hx
  rw [h x hx]
  simp

/-- Where a result is cut so that the parts hold what is there so far. -/
theorem PSt.back : ∀ (ds : List Nat) (s : PSt), s.Inv → ∃ A B, (s.run ds).out = A ++ B ∧ A.filter (fun x => decide (x ≤ s.n)) = s.out.take s.i ∧ B.filter (fun x => decide (x < s.n)) = s.out.drop s.i
  | [], s, h => ⟨s.out.take s.i, s.out.drop s.i, (List.take_append_drop _ _).symm, filter_all (fun x hx => decide_eq_true (h.low x hx)), filter_all (fun x hx => decide_eq_true (h.high x hx))⟩
  | v :: r, s, h => by
    obtain ⟨A', B', e, hA, hB⟩ := PSt.back r (s.step v) (h.step v)
    rw [PSt.run, e]
    change A'.filter (fun x => decide (x ≤ s.val v)) = (s.step v).out.take (s.pos v + 1) at hA
    change B'.filter (fun x => decide (x < s.val v)) = (s.step v).out.drop (s.pos v + 1) at hB
    rw [PSt.take_step] at hA
    rw [PSt.drop_step] at hB
    by_cases hv : s.val v = s.n
    · have hp := PSt.pos_same hv
      rw [hv] at hA hB
      have hsp : s.out.take (s.pos v) ++ [s.n] = s.out.take s.i ++ ((s.out.drop s.i).take (s.pos v - s.i) ++ [s.n]) := by
        rw [← List.append_assoc]
        congr 1
        rw [← List.take_add, show s.i + (s.pos v - s.i) = s.pos v by omega]
      rw [hsp] at hA
      obtain ⟨A, A2, e2, h1, h2⟩ := List.filter_eq_append_iff.1 hA
      refine ⟨A, A2 ++ B', by rw [e2, List.append_assoc], h1, ?_⟩
      have h3 : A2.filter (fun x => decide (x < s.n)) = (s.out.drop s.i).take (s.pos v - s.i) := by
        rw [← filter_lt_le, h2, List.filter_append, filter_all (fun x hx => decide_eq_true (h.high x (List.mem_of_mem_take hx)))]
        simp
      rw [List.filter_append, h3, hB]
      have h4 : s.out.drop (s.pos v) = (s.out.drop s.i).drop (s.pos v - s.i) := by rw [List.drop_drop, show s.i + (s.pos v - s.i) = s.pos v by omega]
      rw [h4, List.take_append_drop]
    · have hlt : s.n < s.val v := by have := s.val_ge v; omega
      have h1 : (A' ++ B').filter (fun x => decide (x ≤ s.n)) = s.out.take s.i ++ s.out.drop s.i := by
        rw [List.filter_append, ← filter_le_le (Nat.le_of_lt hlt) A', hA, ← filter_le_lt hlt B', hB, List.filter_append,
          filter_all (l := s.out.take (s.pos v)) (fun x hx => decide_eq_true (h.all x (List.mem_of_mem_take hx))), filter_all (l := s.out.drop (s.pos v)) (fun x hx => decide_eq_true (h.all x (List.mem_of_mem_drop hx))),
          filter_no (l := [s.val v]) (fun x hx => by simp at hx; subst hx; exact decide_eq_false (by omega)), List.append_nil, List.take_append_drop, List.take_append_drop]
      obtain ⟨A, B, e2, h2, h3⟩ := List.filter_eq_append_iff.1 h1
      refine ⟨A, B, e2, h2, ?_⟩
      rw [← filter_lt_le, h3, filter_all (fun x hx => decide_eq_true (h.high x hx))]

theorem count_filter_lt {m n : Nat} (h : m < n) (l : List Nat) : (l.filter (fun x => decide (x < n))).count m = l.count m := List.count_filter (by simpa using h)
theorem count_filter_le {m n : Nat} (h : m ≤ n) (l : List Nat) : (l.filter (fun x => decide (x ≤ n))).count m = l.count m := List.count_filter (by simpa using h)
theorem count_drop (m k : Nat) (l : List Nat) : (l.take k).count m + (l.drop k).count m = l.count m := by rw [← List.count_append, List.take_append_drop]
theorem count_none {m : Nat} {l : List Nat} (h : ∀ x ∈ l, x ≠ m) : l.count m = 0 := List.count_eq_zero.2 (fun hm => h m hm rfl)

/-- What a result says of the next number. -/
theorem PSt.next {s : PSt} (h : s.Inv) (v : Nat) (r : List Nat) : ∃ A B, (s.run (v :: r)).out = A ++ B ∧ A.filter (fun x => decide (x ≤ s.val v)) = s.out.take (s.pos v) ++ [s.val v] ∧ B.filter (fun x => decide (x < s.val v)) = s.out.drop (s.pos v) := by
  obtain ⟨A, B, e, hA, hB⟩ := PSt.back r (s.step v) (h.step v)
  change A.filter (fun x => decide (x ≤ s.val v)) = (s.step v).out.take (s.pos v + 1) at hA
  change B.filter (fun x => decide (x < s.val v)) = (s.step v).out.drop (s.pos v + 1) at hB
  rw [PSt.take_step] at hA
  rw [PSt.drop_step] at hB
  exact ⟨A, B, e, hA, hB⟩
theorem PSt.val_not_less {s : PSt} (h : s.Inv) {v1 v2 : Nat} {r1 r2 : List Nat} (he : (s.run (v1 :: r1)).out = (s.run (v2 :: r2)).out) : ¬ s.val v1 < s.val v2 := by
  intro hlt
  obtain ⟨A1, B1, e1, hA1, hB1⟩ := PSt.next h v1 r1
  obtain ⟨A2, B2, e2, hA2, hB2⟩ := PSt.next h v2 r2
  have c1 : (A1 ++ B1).count (s.val v1) = (A2 ++ B2).count (s.val v1) := by rw [← e1, ← e2, he]
  rw [List.count_append, List.count_append, ← count_filter_le (Nat.le_of_lt hlt) A2, hA2, ← count_filter_lt hlt B2, hB2, List.count_append, List.count_singleton] at c1
  have c2 : A1.count (s.val v1) = (s.out.take (s.pos v1)).count (s.val v1) + 1 := by rw [← count_filter_le (Nat.le_refl _) A1, hA1, List.count_append]; simp
  have c3 : B1.count (s.val v1) ≥ (B1.filter (fun x => decide (x < s.val v1))).count (s.val v1) := List.Sublist.count_le _ List.filter_sublist
  rw [hB1] at c3
  have d1 := count_drop (s.val v1) (s.pos v1) s.out
  have d2 := count_drop (s.val v1) (s.pos v2) s.out
  have hne : (s.val v2 == s.val v1) = false := by rw [beq_eq_false_iff_ne]; omega
  rw [hne] at c1
  simp at c1
  omega
theorem PSt.pos_not_less {s : PSt} (h : s.Inv) {v1 v2 : Nat} {r1 r2 : List Nat} (he : (s.run (v1 :: r1)).out = (s.run (v2 :: r2)).out) (hv : s.val v1 = s.val v2) : ¬ s.pos v1 < s.pos v2 := by
  intro hlt
  obtain ⟨A1, B1, e1, hA1, hB1⟩ := PSt.next h v1 r1
  obtain ⟨A2, B2, e2, hA2, hB2⟩ := PSt.next h v2 r2
  have hbeh := h.behind v1
  rw [← hv] at hA2 hB2
  generalize s.val v1 = m at *
  have hp1 := s.pos_le v1
  have hp2 := s.pos_le v2
  have l1 : (A1.filter (fun x => decide (x ≤ m))).length = s.pos v1 + 1 := by rw [hA1, List.length_append, List.length_take]; simp; omega
  have l2 : (A2.filter (fun x => decide (x ≤ m))).length = s.pos v2 + 1 := by rw [hA2, List.length_append, List.length_take]; simp; omega
  have hab : A1 ++ B1 = A2 ++ B2 := by rw [← e1, ← e2, he]
  rcases List.append_eq_append_iff.1 hab with ⟨C, hC, _⟩ | ⟨C, hC, _⟩
  · have c1 : A1.count m = (s.out.take (s.pos v1)).count m + 1 := by rw [← count_filter_le (Nat.le_refl m) A1, hA1, List.count_append]; simp
    have c2 : A2.count m = (s.out.take (s.pos v2)).count m + 1 := by rw [← count_filter_le (Nat.le_refl m) A2, hA2, List.count_append]; simp
    have hsame : (s.out.take (s.pos v2)).count m = (s.out.take (s.pos v1)).count m := by
      rw [show s.pos v2 = s.pos v1 + (s.pos v2 - s.pos v1) by omega, List.take_add, List.count_append, count_none (l := (s.out.drop (s.pos v1)).take _) (fun x hx => by have := hbeh x (List.mem_of_mem_take hx); omega), Nat.add_zero]
    have hCm : C.count m = 0 := by rw [hC, List.count_append] at c2; omega
    have hCf : C.filter (fun x => decide (x ≤ m)) ≠ [] := by
      intro h0
      rw [hC, List.filter_append, h0, List.append_nil] at l2
      omega
    have hlast : (A2.filter (fun x => decide (x ≤ m))).getLast? = some m := by rw [hA2]; simp
    rw [hC, List.filter_append, List.getLast?_append] at hlast
    cases hg : (C.filter (fun x => decide (x ≤ m))).getLast? with
    | none => exact hCf (List.getLast?_eq_none_iff.1 hg)
    | some z =>
      rw [hg] at hlast
      simp at hlast
      subst hlast
      have := List.mem_of_getLast? hg
      have := (List.mem_filter.1 this).1
      rw [List.count_eq_zero] at hCm
      exact hCm this
  · rw [hC, List.filter_append, List.length_append] at l1
    omega
/-- Numbers that lead to the same result are the same. -/
theorem PSt.unique : ∀ (a b : List Nat) (s : PSt), s.Inv → (s.run a).out = (s.run b).out → a = b
  | [], [], _, _, _ => rfl
  | [], v :: r, s, _, he => by
    have h1 := PSt.run_len [] s
    have h2 := PSt.run_len (v :: r) s
    rw [he, h2] at h1
    simp at h1
  | v :: r, [], s, _, he => by
    have h1 := PSt.run_len [] s
    have h2 := PSt.run_len (v :: r) s
    rw [he, h1] at h2
    simp at h2
  | v1 :: r1, v2 :: r2, s, h, he => by
    have n1 := PSt.val_not_less h he
    have n2 := PSt.val_not_less h he.symm
    have hv : s.val v1 = s.val v2 := by omega
    have p1 := PSt.pos_not_less h he hv
    have p2 := PSt.pos_not_less h he.symm hv.symm
    have hp : s.pos v1 = s.pos v2 := by omega
    have q1 := s.eq v1
    have q2 := s.eq v2
    rw [hv, hp] at q1
    have e : v1 = v2 := by omega
    subst e
    rw [PSt.unique r1 r2 (s.step v1) (h.step v1) he]
end

end Go.Proofs.YthoolifdmemceaaGreatDoor
