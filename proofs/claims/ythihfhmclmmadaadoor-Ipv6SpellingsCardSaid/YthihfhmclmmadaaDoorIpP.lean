/-
  IPv4 addresses in plain words: no program.
-/
import Derived.Test.YthihfhmclmmadaaDoorSecP
import Derived.Test.YthihfhmclmmadaaDoorSplP
namespace Go.Proofs.YthihfhmclmmadaaDoor
open Go.RowKit

/-- The parts of a string, the last one left out if it is empty and not alone. -/
def partsL (l : List UInt8) : List (List UInt8) := if 1 < (splitL 46 l).length ∧ (splitL 46 l).getLast? = some [] then (splitL 46 l).dropLast else splitL 46 l

/-- The value of a digit, or 99. -/
def digV (b : UInt8) : Nat := if 48 ≤ b.toNat ∧ b.toNat ≤ 57 then b.toNat - 48 else if 97 ≤ b.toNat ∧ b.toNat ≤ 102 then b.toNat - 87 else if 65 ≤ b.toNat ∧ b.toNat ≤ 70 then b.toNat - 55 else 99
/-- The value of digits in a base. -/
def valB (base : Nat) (a : Nat) : List UInt8 → Nat
  | [] => a
  | c :: r => valB base (a * base + digV c) r
theorem valB_append (base : Nat) : ∀ (l m : List UInt8) (a : Nat), valB base a (l ++ m) = valB base (valB base a l) m
  | [], _, _ => rfl
  | c :: l, m, a => by rw [List.cons_append, valB, valB, valB_append base l m]
/-- The base and the digits of a part. -/
def baseL : List UInt8 → Nat × List UInt8
  | 48 :: b :: r => if b = 120 ∨ b = 88 then (16, r) else (8, b :: r)
  | l => (10, l)
/-- The number that a part denotes. -/
def numL (l : List UInt8) : Option Nat := if l = [] then none else if (baseL l).2.all (fun c => decide (digV c < (baseL l).1)) = true then some (valB (baseL l).1 0 (baseL l).2) else none
/-- Whether a string ends in a number. -/
def lastNum (l : List UInt8) : Bool := (l.all digitU && !l.isEmpty) || ((numL l).isSome && decide (2 ≤ l.length) && (l.getD 1 0 == 120 || l.getD 1 0 == 88))
def numericL (l : List UInt8) : Bool := lastNum ((partsL l).getLastD [])
/-- The address of numbers, i of them read already. -/
def pnGo : List (List UInt8) → Nat → Nat → Option Nat
  | [], _, acc => some acc
  | [x], i, acc => match numL x with
    | none => none
    | some n => if n < 256 ^ (4 - i) then some (acc + n) else none
  | x :: y :: r, i, acc => match numL x with
    | none => none
    | some n => if n ≤ 255 then pnGo (y :: r) (i + 1) (acc + n * 256 ^ (3 - i)) else none
def pnL (l : List UInt8) : Option Nat := if 4 < (partsL l).length then none else pnGo (partsL l) 0 0
/-- A number from 0 to 255 in the strict form. -/
def decV (l : List UInt8) : Option Nat := (List.range 256).find? fun n => decide (Lib.decDigits n = l)
def four (p : List (List UInt8)) : Option (Nat × Nat × Nat × Nat) := match p with
  | [a, b, c, d] => match decV a, decV b, decV c, decV d with
    | some a, some b, some c, some d => some (a, b, c, d)
    | _, _, _, _ => none
  | _ => none
def parseL (l : List UInt8) : Option Nat := (four (splitL 46 l)).map fun q => ((q.1 * 256 + q.2.1) * 256 + q.2.2.1) * 256 + q.2.2.2
def fmtI (v : Nat) : List UInt8 := joinL 46 [Lib.decDigits (v / 16777216), Lib.decDigits (v / 65536 % 256), Lib.decDigits (v / 256 % 256), Lib.decDigits (v % 256)]

/-- Digits. -/
theorem digV_dig (d : Nat) (h : d < 10) : digV (UInt8.ofNat (48 + d)) = d := by
  have := digit_of d h
  have e : (UInt8.ofNat (48 + d)).toNat = 48 + d := by omega
  unfold digV
  rw [e, if_pos (by omega)]
  omega
theorem digV_digitU (c : UInt8) (h : digitU c = true) : digV c = c.toNat - 48 ∧ digV c < 10 := by
  have := (digitU_iff c).1 h
  unfold digV
  rw [if_pos (by omega)]
  omega
theorem dec_valB : ∀ u : Nat, valB 10 0 (Lib.decDigits u) = u := by
  intro u
  induction u using Nat.strongRecOn with
  | ind u ih =>
    by_cases hu : u < 10
    · rw [Lib.decDigits_one hu, valB, valB, digV_dig u hu]; omega
    · rw [dec_step u hu, valB_append, ih (u / 10) (by omega), valB, valB, digV_dig _ (by omega)]
      omega
theorem dec_head (u : Nat) (h : 0 < u) : (Lib.decDigits u).head? ≠ some 48 := by
  induction u using Nat.strongRecOn with
  | ind u ih =>
    by_cases hu : u < 10
    · rw [Lib.decDigits_one hu]
      simp only [List.head?_cons, ne_eq, Option.some.injEq]
      intro he
      have := digit_of u hu
      rw [he] at this
      simp at this
      omega
    · rw [dec_step u hu]
      have h1 := ih (u / 10) (by omega) (by omega)
      have h2 := dec_ne (u / 10)
      cases hx : Lib.decDigits (u / 10) with
      | nil => exact absurd hx h2
      | cons c r => rw [hx] at h1; simpa using h1
theorem baseL_ten (l : List UInt8) (h : l.head? ≠ some 48 ∨ l.length ≤ 1) : baseL l = (10, l) := by
  unfold baseL
  split
  · rename_i b r
    rcases h with h | h
    · simp at h
    · simp at h
  · rfl
theorem baseL_16 (b : UInt8) (r : List UInt8) (h : b = 120 ∨ b = 88) : baseL (48 :: b :: r) = (16, r) := by
  show (if b = 120 ∨ b = 88 then (16, r) else (8, b :: r)) = _
  rw [if_pos h]
theorem baseL_8 (b : UInt8) (r : List UInt8) (h : ¬ (b = 120 ∨ b = 88)) : baseL (48 :: b :: r) = (8, b :: r) := by
  show (if b = 120 ∨ b = 88 then (16, r) else (8, b :: r)) = _
  rw [if_neg h]
theorem dec_base (u : Nat) : baseL (Lib.decDigits u) = (10, Lib.decDigits u) := by
  by_cases h : u = 0
  · subst h; rw [Lib.decDigits_one (by omega)]; exact baseL_ten _ (.inr (by simp))
  · exact baseL_ten _ (.inl (dec_head u (by omega)))
theorem dec_all (u : Nat) : (Lib.decDigits u).all (fun c => decide (digV c < 10)) = true := by
  have := dec_digits u
  rw [List.all_eq_true] at this ⊢
  intro c hc
  exact decide_eq_true (digV_digitU c (this c hc)).2
theorem numL_dec (u : Nat) : numL (Lib.decDigits u) = some u := by
  unfold numL
  rw [if_neg (dec_ne u), dec_base, if_pos (dec_all u), dec_valB]
theorem dec_inj {u v : Nat} (h : Lib.decDigits u = Lib.decDigits v) : u = v := by
  have := dec_valB u
  rw [h, dec_valB] at this
  exact this.symm
theorem dec_noB (u : Nat) : noB 46 (Lib.decDigits u) := by
  have := dec_digits u
  rw [List.all_eq_true] at this
  intro c hc he
  have := this c hc
  rw [he] at this
  simp [digitU, digitB] at this
theorem decV_dec (n : Nat) (h : n < 256) : decV (Lib.decDigits n) = some n := by
  unfold decV
  cases hx : (List.range 256).find? fun m => decide (Lib.decDigits m = Lib.decDigits n) with
  | none =>
    rw [List.find?_eq_none] at hx
    have := hx n (by simp [h])
    simp at this
  | some m =>
    have := List.find?_some hx
    simp only [decide_eq_true_eq] at this
    rw [dec_inj this]
theorem decV_some {l : List UInt8} {n : Nat} (h : decV l = some n) : n < 256 ∧ l = Lib.decDigits n := by
  unfold decV at h
  have h1 := List.find?_some h
  have h2 := List.mem_of_find?_eq_some h
  simp only [decide_eq_true_eq] at h1
  exact ⟨by simpa using h2, h1.symm⟩
theorem split_fmtI (v : Nat) : splitL 46 (fmtI v) = [Lib.decDigits (v / 16777216), Lib.decDigits (v / 65536 % 256), Lib.decDigits (v / 256 % 256), Lib.decDigits (v % 256)] := by
  unfold fmtI
  refine split_joinL 46 _ (by simp) ?_
  intro a ha
  simp at ha
  rcases ha with rfl | rfl | rfl | rfl <;> exact dec_noB _
theorem parse_fmtI (v : Nat) (h : v < 4294967296) : parseL (fmtI v) = some v := by
  unfold parseL
  rw [split_fmtI]
  unfold four
  simp only [decV_dec _ (show v / 16777216 < 256 by omega), decV_dec _ (show v / 65536 % 256 < 256 by omega), decV_dec _ (show v / 256 % 256 < 256 by omega), decV_dec _ (show v % 256 < 256 by omega), Option.map_some, Option.some.injEq]
  omega
theorem partsL_of {l : List UInt8} {p : List (List UInt8)} (h : splitL 46 l = p) (hl : p.getLast? ≠ some []) : partsL l = p := by
  unfold partsL
  rw [h, if_neg (fun h => hl h.2)]
theorem parts_fmtI (v : Nat) : partsL (fmtI v) = [Lib.decDigits (v / 16777216), Lib.decDigits (v / 65536 % 256), Lib.decDigits (v / 256 % 256), Lib.decDigits (v % 256)] := by
  refine partsL_of (split_fmtI v) ?_
  simp only [List.getLast?_cons_cons, List.getLast?_singleton, ne_eq, Option.some.injEq]
  exact dec_ne _
theorem pn_fmtI (v : Nat) (h : v < 4294967296) : pnL (fmtI v) = some v := by
  unfold pnL
  rw [parts_fmtI, if_neg (by simp)]
  simp only [pnGo, numL_dec]
  rw [if_pos (by omega), if_pos (by omega), if_pos (by omega), if_pos (by omega)]
  simp only [Option.some.injEq]
  omega
theorem lastNum_dec (u : Nat) : lastNum (Lib.decDigits u) = true := by
  unfold lastNum
  rw [dec_digits]
  cases h : Lib.decDigits u with
  | nil => exact absurd h (dec_ne u)
  | cons c r => rfl
theorem numeric_fmtI (v : Nat) : numericL (fmtI v) = true := by
  unfold numericL
  rw [parts_fmtI]
  exact lastNum_dec _
theorem partsL_dot (l : List UInt8) : partsL (l ++ [46]) = splitL 46 l := by
  have h : splitL 46 (l ++ [46]) = splitL 46 l ++ [[]] := splitG_dot 46 l []
  unfold partsL
  rw [h, if_pos ⟨by have := splitL_pos 46 l; simp; omega, by simp⟩]
  simp
theorem numeric_fmtI_dot (v : Nat) : numericL (fmtI v ++ [46]) = true := by
  unfold numericL
  rw [partsL_dot, split_fmtI]
  exact lastNum_dec _
theorem four_some {p : List (List UInt8)} {q : Nat × Nat × Nat × Nat} (h : four p = some q) : q.1 < 256 ∧ q.2.1 < 256 ∧ q.2.2.1 < 256 ∧ q.2.2.2 < 256 ∧ p = [Lib.decDigits q.1, Lib.decDigits q.2.1, Lib.decDigits q.2.2.1, Lib.decDigits q.2.2.2] := by
  unfold four at h
  split at h
  · rename_i a b c d
    cases ha : decV a <;> cases hb : decV b <;> cases hc : decV c <;> cases hd : decV d <;> simp only [ha, hb, hc, hd] at h <;> try (cases h; done)
    have h1 := decV_some ha
    have h2 := decV_some hb
    have h3 := decV_some hc
    have h4 := decV_some hd
    simp only [Option.some.injEq] at h
    subst h
    exact ⟨h1.1, h2.1, h3.1, h4.1, by rw [← h1.2, ← h2.2, ← h3.2, ← h4.2]⟩
  · cases h
theorem parseL_some {l : List UInt8} {v : Nat} (h : parseL l = some v) : v < 4294967296 ∧ l = fmtI v := by
  unfold parseL at h
  cases hq : four (splitL 46 l) with
  | none => rw [hq] at h; cases h
  | some q =>
    rw [hq] at h
    simp only [Option.map_some, Option.some.injEq] at h
    obtain ⟨h1, h2, h3, h4, hp⟩ := four_some hq
    refine ⟨by omega, ?_⟩
    rw [← join_splitL 46 l, hp]
    unfold fmtI
    rw [show v / 16777216 = q.1 by omega, show v / 65536 % 256 = q.2.1 by omega, show v / 256 % 256 = q.2.2.1 by omega, show v % 256 = q.2.2.2 by omega]

end Go.Proofs.YthihfhmclmmadaaDoor
