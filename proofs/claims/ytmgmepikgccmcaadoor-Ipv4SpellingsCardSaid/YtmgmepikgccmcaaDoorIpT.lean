/-
  Spellings of IPv4 addresses, and numbers that are too large: plain facts, no program.
-/
import Derived.Test.YtmgmepikgccmcaaDoorIpP
import Derived.Test.YtmgmepikgccmcaaDoorDigP
namespace Go.Proofs.YtmgmepikgccmcaaDoor
open Go.RowKit

/-- Parts 1 with their dots. -/
def onesL : Nat → List UInt8
  | 0 => []
  | n + 1 => onesL n ++ [49, 46]
theorem onesL_cons (n : Nat) : onesL (n + 1) = 49 :: 46 :: onesL n := by
  induction n with
  | zero => rfl
  | succ n ih =>
    show onesL (n + 1) ++ [49, 46] = 49 :: 46 :: (onesL n ++ [49, 46])
    rw [ih]; simp
theorem onesL_length (n : Nat) : (onesL n).length = 2 * n := by
  induction n with
  | zero => rfl
  | succ n ih => rw [onesL, List.length_append, ih]; simp; omega
theorem noB_one : noB 46 [49] := by intro b hb; simp at hb; subst hb; decide
theorem split_ones (d : List UInt8) (hd : noB 46 d) : ∀ n, splitL 46 (onesL n ++ d) = List.replicate n [49] ++ [d]
  | 0 => by simpa [onesL] using splitL_one 46 d hd
  | n + 1 => by
    rw [onesL_cons]
    have := splitL_cons 46 [49] (onesL n ++ d) noB_one
    rw [show (49 : UInt8) :: 46 :: onesL n ++ d = [49] ++ 46 :: (onesL n ++ d) by simp, this, split_ones d hd n]
    rfl
theorem parts_ones (d : List UInt8) (hd : noB 46 d) (hn : d ≠ []) (n : Nat) : partsL (onesL n ++ d) = List.replicate n [49] ++ [d] := by
  refine partsL_of (split_ones d hd n) ?_
  simp [hn]
theorem numL_one : numL [49] = some 1 := by decide
theorem pnGo_ones (d : List UInt8) (N : Nat) (hd : numL d = some N) : ∀ (n i acc : Nat), (pnGo (List.replicate n [49] ++ [d]) i acc).isSome = decide (N < 256 ^ (4 - (i + n)))
  | 0, i, acc => by
    show (pnGo [d] i acc).isSome = _
    rw [pnGo, hd]
    simp only [Nat.add_zero]
    by_cases h : N < 256 ^ (4 - i)
    · rw [if_pos h, decide_eq_true h]; rfl
    · rw [if_neg h, decide_eq_false h]; rfl
  | n + 1, i, acc => by
    have hx : List.replicate (n + 1) [(49 : UInt8)] ++ [d] = [49] :: (List.replicate n [49] ++ [d]) := by simp [List.replicate_succ]
    rw [hx]
    have ih := pnGo_ones d N hd n (i + 1) (acc + 1 * 256 ^ (3 - i))
    cases hr : List.replicate n [(49 : UInt8)] ++ [d] with
    | nil => simp at hr
    | cons y r =>
      rw [pnGo, numL_one]
      simp only
      rw [if_pos (by omega), ← hr, ih, show i + 1 + n = i + (n + 1) by omega]
/-- Whether ones and a number at the end are an address. -/
theorem pn_ones (d : List UInt8) (N : Nat) (hb : noB 46 d) (hd : numL d = some N) (n : Nat) (hn : n ≤ 3) : (pnL (onesL n ++ d)).isSome = decide (N < 256 ^ (4 - n)) := by
  have hne : d ≠ [] := by intro e; subst e; simp [numL] at hd
  unfold pnL
  rw [parts_ones d hb hne n, if_neg (by simp; omega), pnGo_ones d N hd n 0 0]
  simp
theorem valB_zeros (N : Nat) : ∀ z, valB 10 N (List.replicate z 48) = N * 10 ^ z
  | 0 => by simp [valB]
  | z + 1 => by
    have h0 : digV 48 = 0 := by decide
    rw [List.replicate_succ, valB, h0]
    have key : ∀ M z, valB 10 M (List.replicate z 48) = M * 10 ^ z := fun M z => by
      induction z generalizing M with
      | zero => simp [valB]
      | succ z ih => rw [List.replicate_succ, valB, h0, ih, Nat.pow_succ, Nat.add_zero, Nat.mul_assoc, Nat.mul_comm 10]
    rw [key, Nat.pow_succ, Nat.add_zero, Nat.mul_assoc, Nat.mul_comm 10]
theorem numL_zeros (N : Nat) (hN : 0 < N) (z : Nat) : numL (Lib.decDigits N ++ List.replicate z 48) = some (N * 10 ^ z) := by
  have hne := dec_ne N
  have hb : baseL (Lib.decDigits N ++ List.replicate z 48) = (10, Lib.decDigits N ++ List.replicate z 48) := by
    refine baseL_ten _ (.inl ?_)
    have := dec_head N hN
    cases hx : Lib.decDigits N with
    | nil => exact absurd hx hne
    | cons c r => rw [hx] at this; simpa using this
  unfold numL
  rw [if_neg (by simp [hne]), hb, if_pos, valB_append, dec_valB, valB_zeros]
  rw [List.all_append, dec_all]
  simp only [Bool.true_and, List.all_replicate]
  have : decide (digV 48 < 10) = true := by decide
  rw [this]
  simp
theorem noB_zeros (N z : Nat) : noB 46 (Lib.decDigits N ++ List.replicate z 48) := by
  intro b hb
  rcases List.mem_append.1 hb with h | h
  · exact dec_noB N b h
  · have := (List.mem_replicate.1 h).2
    subst this
    decide
theorem pn_256 (n : Nat) : (pnL ([50, 53, 54, 46] ++ onesL n ++ [49])).isSome = false := by
  have hs : splitL 46 ([50, 53, 54, 46] ++ onesL n ++ [49]) = [50, 53, 54] :: (List.replicate n [49] ++ [[49]]) := by
    have := splitL_cons 46 [50, 53, 54] (onesL n ++ [49]) (by intro b hb; simp at hb; rcases hb with rfl | rfl | rfl <;> decide)
    rw [show [50, 53, 54, 46] ++ onesL n ++ [49] = [50, 53, 54] ++ (46 : UInt8) :: (onesL n ++ [49]) by simp, this, split_ones _ noB_one]
  have hp : partsL ([50, 53, 54, 46] ++ onesL n ++ [49]) = [50, 53, 54] :: (List.replicate n [49] ++ [[49]]) := by
    refine partsL_of hs ?_
    have e : ([50, 53, 54] :: (List.replicate n [(49 : UInt8)] ++ [[49]])).getLast? = some [49] := by
      rw [← List.cons_append]; exact List.getLast?_concat
    rw [e]
    simp
  unfold pnL
  rw [hp]
  split
  · rfl
  · have h256 : numL [50, 53, 54] = some 256 := by decide
    cases hr : List.replicate n [(49 : UInt8)] ++ [[49]] with
    | nil => simp at hr
    | cons y r => rw [pnGo, h256]; rfl

/-- A spelling of a number as a part. -/
structure Spelt (x : List UInt8) (n : Nat) : Prop where
  num : numL x = some n
  free : noB 46 x
  last : lastNum x = true
  len : x.length ≤ 30
theorem Spelt.ne {x : List UInt8} {n : Nat} (h : Spelt x n) : x ≠ [] := by intro e; have := h.num; subst e; simp [numL] at this
/-- What the statement's digits returns. -/
def spellL (b n : Nat) : List UInt8 := if b = 8 then 48 :: digsB 8 n else if b = 16 then 48 :: 88 :: lowL (digsB 16 n) else digsB b n
theorem spelt_of (b n : Nat) (hb : b = 8 ∨ b = 10 ∨ b = 16) (hn : n < 4294967296) : Spelt (spellL b n) n := by
  have hn' : n < 1099511627776 := by omega
  have hl : n < 8 ^ (10 + 1) := by have : (8 : Nat) ^ (10 + 1) = 8589934592 := by decide
                                   omega
  rcases hb with rfl | rfl | rfl
  · have hne := digs_ne (b := 8) (by omega) n hn'
    have hv := digs_val (b := 8) (by omega) (by omega) n hn'
    have hd := digs_dig (b := 8) (by omega) (by omega) n hn'
    have hu := digs_digitU (b := 8) (by omega) (by omega) n hn'
    have hf := digs_free (b := 8) (by omega) (by omega) n hn'
    have hlen := digs_length (b := 8) (by omega) 10 n hn' hl
    have hx := digs_all (b := 8) (by omega) (by omega) (fun c => decide (¬ (c = 120 ∨ c = 88))) (fun d hd => decide_eq_true (fun h => by
      have := hexc_of (show d < 16 by omega)
      rcases h with h | h
      · exact this.2.2.2.1 h
      · exact this.2.2.2.2.1 h)) n hn'
    have e : spellL 8 n = 48 :: digsB 8 n := rfl
    rw [e]
    have hbase : baseL (48 :: digsB 8 n) = (8, digsB 8 n) := by
      cases hc : digsB 8 n with
      | nil => exact absurd hc hne
      | cons c r =>
        rw [hc] at hx
        simp only [List.all_cons, Bool.and_eq_true, decide_eq_true_eq] at hx
        exact baseL_8 c r hx.1
    refine ⟨?_, ?_, ?_, by simp; omega⟩
    · unfold numL
      rw [if_neg (by simp), hbase, if_pos hd, hv]
    · intro c hc
      rcases List.mem_cons.1 hc with h | h
      · subst h; decide
      · exact hf c h
    · unfold lastNum
      have h0 : digitU 48 = true := by decide
      rw [List.all_cons, hu, h0]; rfl
  · have hne := digs_ne (b := 10) (by omega) n hn'
    have hv := digs_val (b := 10) (by omega) (by omega) n hn'
    have hd := digs_dig (b := 10) (by omega) (by omega) n hn'
    have hu := digs_digitU (b := 10) (by omega) (by omega) n hn'
    have hf := digs_free (b := 10) (by omega) (by omega) n hn'
    have hlen := digs_length (b := 10) (by omega) 10 n hn' hl
    have e : spellL 10 n = digsB 10 n := rfl
    rw [e]
    have hbase : baseL (digsB 10 n) = (10, digsB 10 n) := by
      by_cases h0 : n = 0
      · subst h0; rw [digsB_small (by omega)]; exact baseL_ten _ (.inr (by simp))
      · exact baseL_ten _ (.inl (digs_head (by omega) (by omega) n hn' (by omega)))
    refine ⟨?_, hf, ?_, by omega⟩
    · unfold numL
      rw [if_neg hne, hbase, if_pos hd, hv]
    · unfold lastNum
      rw [hu]
      cases hc : digsB 10 n with
      | nil => exact absurd hc hne
      | cons c r => rfl
  · have hne := digs_ne (b := 16) (by omega) n hn'
    have hv := digs_val (b := 16) (by omega) (by omega) n hn'
    have hd := digs_dig (b := 16) (by omega) (by omega) n hn'
    have hf := digs_free (b := 16) (by omega) (by omega) n hn'
    have hlen := digs_length (b := 16) (by omega) 10 n hn' hl
    have e : spellL 16 n = 48 :: 88 :: digsB 16 n := by
      show 48 :: 88 :: lowL (digsB 16 n) = _
      rw [low_digs n hn']
    rw [e]
    have hbase : baseL (48 :: 88 :: digsB 16 n) = (16, digsB 16 n) := baseL_16 88 _ (.inr rfl)
    have hnum : numL (48 :: 88 :: digsB 16 n) = some n := by
      unfold numL
      rw [if_neg (by simp), hbase, if_pos hd, hv]
    refine ⟨hnum, ?_, ?_, by simp; omega⟩
    · intro c hc
      rcases List.mem_cons.1 hc with h | h
      · subst h; decide
      · rcases List.mem_cons.1 h with h | h
        · subst h; decide
        · exact hf c h
    · unfold lastNum
      rw [hnum]
      simp

/-- The number of part i of n of an address. -/
def partV (n v i : Nat) : Nat := if i + 1 = n then v % 256 ^ (4 - i) else v / 256 ^ (3 - i) % 256
theorem spelt_join (v n : Nat) (hv : v < 4294967296) (h1 : 1 ≤ n) (h4 : n ≤ 4) (Q : List (List UInt8)) (hl : Q.length = n) (hQ : ∀ i, i < n → Spelt (Q.getD i []) (partV n v i)) :
    pnL (joinL 46 Q) = some v ∧ pnL (joinL 46 Q ++ [46]) = some v ∧ numericL (joinL 46 Q) = true := by
  have hne : Q ≠ [] := by intro e; subst e; simp at hl; omega
  have hfree : ∀ a ∈ Q, noB 46 a := by
    intro a ha
    obtain ⟨i, hi, rfl⟩ := List.getElem_of_mem ha
    have := (hQ i (by omega)).free
    rwa [List.getD_eq_getElem?_getD, List.getElem?_eq_getElem hi, Option.getD_some] at this
  have hs := split_joinL 46 Q hne hfree
  have hlast : (Q.getD (n - 1) []) ≠ [] := (hQ (n - 1) (by omega)).ne
  have hgl : Q.getLast? = some (Q.getD (n - 1) []) := by
    rw [List.getLast?_eq_getElem?, hl, List.getD_eq_getElem?_getD, List.getElem?_eq_getElem (by omega)]; rfl
  have hp : partsL (joinL 46 Q) = Q := partsL_of hs (by rw [hgl]; simpa using hlast)
  have hp2 : partsL (joinL 46 Q ++ [46]) = Q := by rw [partsL_dot, hs]
  have hgo : pnGo Q 0 0 = some v := by
    have q0 := (hQ 0 (by omega)).num
    match Q, hl with
    | [a], h =>
      obtain rfl : n = 1 := by simpa using h.symm
      simp only [List.getD_cons_zero] at q0
      simp only [pnGo, q0, partV]
      simp
      omega
    | [a, b], h =>
      obtain rfl : n = 2 := by simpa using h.symm
      have q1 := (hQ 1 (by omega)).num
      simp only [List.getD_cons_zero, List.getD_cons_succ] at q0 q1
      simp only [pnGo, q0, q1, partV]
      simp
      omega
    | [a, b, c], h =>
      obtain rfl : n = 3 := by simpa using h.symm
      have q1 := (hQ 1 (by omega)).num
      have q2 := (hQ 2 (by omega)).num
      simp only [List.getD_cons_zero, List.getD_cons_succ] at q0 q1 q2
      simp only [pnGo, q0, q1, q2, partV]
      simp
      omega
    | [a, b, c, d], h =>
      obtain rfl : n = 4 := by simpa using h.symm
      have q1 := (hQ 1 (by omega)).num
      have q2 := (hQ 2 (by omega)).num
      have q3 := (hQ 3 (by omega)).num
      simp only [List.getD_cons_zero, List.getD_cons_succ] at q0 q1 q2 q3
      simp only [pnGo, q0, q1, q2, q3, partV]
      simp
      omega
    | [], h => simp at h; omega
    | _ :: _ :: _ :: _ :: _ :: _, h => simp at h; omega
  refine ⟨?_, ?_, ?_⟩
  · unfold pnL; rw [hp, if_neg (by omega), hgo]
  · unfold pnL; rw [hp2, if_neg (by omega), hgo]
  · unfold numericL
    rw [hp, List.getLastD_eq_getLast?, hgl]
    exact (hQ (n - 1) (by omega)).last

end Go.Proofs.YtmgmepikgccmcaaDoor
