/-
  Punycode in plain words: numbers as digits. No program.
-/
import Derived.Test.YtoieapdfpbcfpaaDoorBase
namespace Go.Proofs.YtoieapdfpbcfpaaDoor
open Go.RowKit

/-- A code point. -/
def ptN (n : Nat) : Bool := decide (n ≤ 1114111) && (decide (n < 55296) || decide (57343 < n))
theorem ptN_le {n : Nat} (h : ptN n = true) : n ≤ 1114111 := by
  unfold ptN at h
  simp at h
  exact h.1
/-- The threshold of the digit with the number k. -/
def thr (k bias : Nat) : Nat := max 1 (min 26 (36 * (k + 1) - bias))
theorem thr_range (k bias : Nat) : 1 ≤ thr k bias ∧ thr k bias ≤ 26 := by unfold thr; omega
/-- The new bias. -/
def adpGo (d k : Nat) : Nat := if 455 < d then adpGo (d / 35) (k + 36) else k + 36 * d / (d + 38)
termination_by d
decreasing_by omega
def adp (delta n : Nat) (first : Bool) : Nat := adpGo ((if first then delta / 700 else delta / 2) + (if first then delta / 700 else delta / 2) / n) 0
theorem gen_less (q t : Nat) (h : ¬ q < t) (ht : 1 ≤ t) : (q - t) / (36 - t) < q := by
  have := Nat.div_le_self (q - t) (36 - t)
  omega
/-- The digits of a number. -/
def genV (q k bias : Nat) : List Nat := if q < thr k bias then [q] else (thr k bias + (q - thr k bias) % (36 - thr k bias)) :: genV ((q - thr k bias) / (36 - thr k bias)) (k + 1) bias
termination_by q
decreasing_by exact gen_less _ _ ‹_› (thr_range k bias).1
theorem genV_one {q k bias : Nat} (h : q < thr k bias) : genV q k bias = [q] := by rw [genV, if_pos h]
theorem genV_more {q k bias : Nat} (h : ¬ q < thr k bias) : genV q k bias = (thr k bias + (q - thr k bias) % (36 - thr k bias)) :: genV ((q - thr k bias) / (36 - thr k bias)) (k + 1) bias := by rw [genV, if_neg h]
/-- A digit and the rest make the number. -/
theorem gen_join (t d v : Nat) (h1 : t ≤ d) (h2 : d < 36) (ht : t ≤ 26) : ¬ d + (36 - t) * v < t ∧ t + (d + (36 - t) * v - t) % (36 - t) = d ∧ (d + (36 - t) * v - t) / (36 - t) = v := by
  have e : d + (36 - t) * v - t = (d - t) + (36 - t) * v := by omega
  refine ⟨by omega, ?_, ?_⟩
  · rw [e, Nat.add_mul_mod_self_left, Nat.mod_eq_of_lt (by omega)]
    omega
  · rw [e, Nat.add_mul_div_left _ _ (by omega), Nat.div_eq_of_lt (by omega), Nat.zero_add]
theorem genV_digits : ∀ (m q k bias : Nat), q ≤ m → ∀ d ∈ genV q k bias, d < 36
  | m, q, k, bias, hm, d, hd => by
    have ht := thr_range k bias
    by_cases h : q < thr k bias
    · rw [genV_one h] at hd
      simp at hd
      omega
    · rw [genV_more h] at hd
      have hl := gen_less q _ h ht.1
      rcases List.mem_cons.1 hd with rfl | hd
      · have := Nat.mod_lt (q - thr k bias) (show 0 < 36 - thr k bias by omega)
        omega
      · match m with
        | 0 => omega
        | m + 1 => exact genV_digits m _ _ _ (by omega) d hd
theorem genV_len : ∀ (m q k bias : Nat), q < 10 ^ m → (genV q k bias).length ≤ m + 1
  | 0, q, k, bias, h => by
    have ht := thr_range k bias
    rw [genV_one (by simp at h; omega)]
    simp
  | m + 1, q, k, bias, h => by
    have ht := thr_range k bias
    by_cases hq : q < thr k bias
    · rw [genV_one hq]; simp
    · rw [genV_more hq, List.length_cons]
      have : (q - thr k bias) / (36 - thr k bias) < 10 ^ m := by
        have h1 : (q - thr k bias) / (36 - thr k bias) ≤ (q - thr k bias) / 10 := Nat.div_le_div_left (by omega) (by omega)
        have h2 : (q - thr k bias) / 10 < 10 ^ m := by rw [Nat.pow_succ] at h; omega
        omega
      have := genV_len m _ (k + 1) bias this
      omega
theorem genV_ne (q k bias : Nat) : genV q k bias ≠ [] := by
  rw [genV]
  split <;> simp

/-- Bytes of digits. -/
def digB (d : Nat) : UInt8 := if d < 26 then UInt8.ofNat (97 + d) else UInt8.ofNat (22 + d)
def pval (b : UInt8) : Option Nat := if 97 ≤ b.toNat ∧ b.toNat ≤ 122 then some (b.toNat - 97) else if 65 ≤ b.toNat ∧ b.toNat ≤ 90 then some (b.toNat - 65) else if 48 ≤ b.toNat ∧ b.toNat ≤ 57 then some (b.toNat - 22) else none
theorem pval_digB : ∀ d : Fin 36, pval (digB d.val) = some d.val := by decide +kernel
theorem digB_range : ∀ d : Fin 36, (97 ≤ (digB d.val).toNat ∧ (digB d.val).toNat ≤ 122) ∨ (48 ≤ (digB d.val).toNat ∧ (digB d.val).toNat ≤ 57) := by decide +kernel
theorem pval_lt {b : UInt8} {d : Nat} (h : pval b = some d) : d < 36 := by
  unfold pval at h
  split at h
  · injection h; omega
  · split at h
    · injection h; omega
    · split at h
      · injection h; omega
      · cases h
theorem pval_ascii {b : UInt8} {d : Nat} (h : pval b = some d) : b.toNat < 128 := by
  unfold pval at h
  split at h
  · omega
  · split at h
    · omega
    · split at h
      · omega
      · cases h
/-- A digit in lower case. -/
def lowD (b : UInt8) : UInt8 := match pval b with
  | some d => digB d
  | none => b
theorem lowD_of {b : UInt8} {d : Nat} (h : pval b = some d) : lowD b = digB d := by unfold lowD; rw [h]
/-- The digits of numbers one behind the other. -/
def digsOf : List Nat → Nat → Nat → Bool → List UInt8
  | [], _, _, _ => []
  | d :: r, bias, done, first => (genV d 0 bias).map digB ++ digsOf r (adp d (done + 1) first) (done + 1) false
/-- The bias behind numbers. -/
def biasOf : List Nat → Nat → Nat → Bool → Nat
  | [], bias, _, _ => bias
  | d :: r, _, done, first => biasOf r (adp d (done + 1) first) (done + 1) false
theorem digsOf_snoc : ∀ (ds : List Nat) (d bias done : Nat) (first : Bool), digsOf (ds ++ [d]) bias done first = digsOf ds bias done first ++ (genV d 0 (biasOf ds bias done first)).map digB
  | [], d, bias, done, first => by simp [digsOf, biasOf]
  | e :: ds, d, bias, done, first => by
    rw [List.cons_append, digsOf, digsOf_snoc ds, digsOf, biasOf, List.append_assoc]
theorem biasOf_snoc : ∀ (ds : List Nat) (d bias done : Nat) (first : Bool), biasOf (ds ++ [d]) bias done first = adp d (done + ds.length + 1) (first && ds.isEmpty)
  | [], d, bias, done, first => by simp [biasOf]
  | e :: ds, d, bias, done, first => by
    rw [List.cons_append, biasOf, biasOf_snoc ds]
    simp only [List.length_cons, List.isEmpty_cons, Bool.and_false, Bool.false_and]
    rw [show done + 1 + ds.length + 1 = done + (ds.length + 1) + 1 by omega]
theorem digsOf_mem : ∀ (ds : List Nat) (bias done : Nat) (first : Bool), ∀ b ∈ digsOf ds bias done first, ∃ d, d < 36 ∧ b = digB d
  | [], _, _, _, b, h => by simp [digsOf] at h
  | d :: r, bias, done, first, b, h => by
    rw [digsOf, List.mem_append] at h
    rcases h with h | h
    · obtain ⟨e, he, rfl⟩ := List.mem_map.1 h
      exact ⟨e, genV_digits d d 0 bias (Nat.le_refl _) e he, rfl⟩
    · exact digsOf_mem r _ _ _ b h
theorem digsOf_len : ∀ (m : Nat) (ds : List Nat) (bias done : Nat) (first : Bool), (∀ d ∈ ds, d < 10 ^ m) → (digsOf ds bias done first).length ≤ (m + 1) * ds.length
  | m, [], _, _, _, _ => by simp [digsOf]
  | m, d :: r, bias, done, first, h => by
    have h1 := genV_len m d 0 bias (h d (by simp))
    have h2 := digsOf_len m r (adp d (done + 1) first) (done + 1) false (fun x hx => h x (by simp [hx]))
    rw [digsOf, List.length_append, List.length_map, List.length_cons, Nat.mul_add]
    omega

/-- Reading a number: the new i and what is left, or an error. -/
def rdNum : List UInt8 → Nat → Nat → Nat → Nat → Except Nat (Nat × List UInt8)
  | [], _, _, _, _ => .error 4
  | b :: r, bias, k, w, i => match pval b with
    | none => .error 4
    | some d => if 1099511627776 < i + d * w then .error 19 else if d < thr k bias then .ok (i + d * w, r) else if 1099511627776 < w * (36 - thr k bias) then .error 19 else rdNum r bias (k + 1) (w * (36 - thr k bias)) (i + d * w)
theorem rdNum_gen : ∀ (m q k bias w i : Nat) (r : List UInt8), q ≤ m → 1 ≤ w → i + q * w ≤ 17179869184 → rdNum ((genV q k bias).map digB ++ r) bias k w i = .ok (i + q * w, r)
  | m, q, k, bias, w, i, r, hm, hw, hB => by
    have ht := thr_range k bias
    by_cases h : q < thr k bias
    · rw [genV_one h, List.map_cons, List.map_nil, List.cons_append, List.nil_append, rdNum, pval_digB ⟨q, by omega⟩]
      simp only
      rw [if_neg (by omega), if_pos h]
    · have hl := gen_less q _ h ht.1
      have hmod := Nat.mod_lt (q - thr k bias) (show 0 < 36 - thr k bias by omega)
      have hdm := Nat.mod_add_div (q - thr k bias) (36 - thr k bias)
      rw [genV_more h, List.map_cons, List.cons_append, rdNum, pval_digB ⟨thr k bias + (q - thr k bias) % (36 - thr k bias), by omega⟩]
      simp only
      obtain ⟨t, rfl⟩ : ∃ t, t = thr k bias := ⟨_, rfl⟩
      generalize thr k bias = t at *
      generalize hd : (q - t) % (36 - t) = d at *
      generalize hv : (q - t) / (36 - t) = v at *
      have hq : q = t + d + (36 - t) * v := by omega
      have hqw : q * w = (t + d) * w + v * (w * (36 - t)) := by
        rw [hq, Nat.add_mul, Nat.mul_comm (36 - t) v, Nat.mul_assoc, Nat.mul_comm (36 - t) w]
      have h1 : 1 * w ≤ (t + d) * w := Nat.mul_le_mul_right _ (by omega)
      have h2 : w * (36 - t) ≤ w * 35 := Nat.mul_le_mul_left _ (by omega)
      have h3 : 1 * 1 ≤ w * (36 - t) := Nat.mul_le_mul hw (by omega)
      rw [if_neg (by omega), if_neg (by omega), if_neg (by omega)]
      match m with
      | 0 => omega
      | m + 1 =>
        rw [rdNum_gen m v (k + 1) bias _ _ r (by omega) (by omega) (by omega), hqw, Nat.add_assoc]
theorem rdNum_ok : ∀ (l : List UInt8) (bias k w i j : Nat) (r : List UInt8), rdNum l bias k w i = .ok (j, r) → ∃ q x, l = x ++ r ∧ x ≠ [] ∧ x.map lowD = (genV q k bias).map digB ∧ j = i + q * w
  | [], bias, k, w, i, j, r, h => by cases h
  | b :: l, bias, k, w, i, j, r, h => by
    have ht := thr_range k bias
    rw [rdNum] at h
    cases hp : pval b with
    | none => rw [hp] at h; cases h
    | some d =>
      rw [hp] at h
      simp only at h
      have hd := pval_lt hp
      split at h
      · cases h
      · split at h
        · rename_i hdt
          injection h with h
          injection h with h1 h2
          subst h1 h2
          refine ⟨d, [b], rfl, by simp, ?_, rfl⟩
          rw [genV_one hdt]
          simp [lowD_of hp]
        · split at h
          · cases h
          · rename_i hdt _
            obtain ⟨v, x, e1, _, e2, e3⟩ := rdNum_ok l bias (k + 1) _ _ j r h
            obtain ⟨g1, g2, g3⟩ := gen_join (thr k bias) d v (by omega) hd ht.2
            refine ⟨d + (36 - thr k bias) * v, b :: x, by rw [e1]; rfl, by simp, ?_, ?_⟩
            · rw [genV_more g1, g2, g3, List.map_cons, List.map_cons, e2, lowD_of hp]
            · rw [e3, Nat.add_mul, Nat.mul_comm (36 - thr k bias) v, Nat.mul_assoc, Nat.mul_comm (36 - thr k bias) w]
              omega
theorem rdNum_short {l : List UInt8} {bias k w i j : Nat} {r : List UInt8} (h : rdNum l bias k w i = .ok (j, r)) : r.length < l.length := by
  obtain ⟨q, x, e, hx, _, _⟩ := rdNum_ok l bias k w i j r h
  have := List.length_pos_iff.2 hx
  rw [e, List.length_append]
  omega

end Go.Proofs.YtoieapdfpbcfpaaDoor
