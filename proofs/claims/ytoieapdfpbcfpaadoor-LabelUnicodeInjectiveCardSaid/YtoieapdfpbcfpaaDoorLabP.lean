/-
  Labels in plain words: canonical labels, ToASCII, ToUnicode, and their laws. No program.
-/
import Derived.Test.YtoieapdfpbcfpaaDoorUtfP
namespace Go.Proofs.YtoieapdfpbcfpaaDoor
open Go.RowKit

/-- The four bytes of 'xn--'. -/
def xnL : List UInt8 := [120, 110, 45, 45]
def okN (n : Nat) : Bool := (decide (97 ≤ n) && decide (n ≤ 122)) || (decide (48 ≤ n) && decide (n ≤ 57)) || n == 45 || n == 95
def bigP (p : Nat) : Bool := decide (65 ≤ p) && decide (p ≤ 90)
/-- Whether the rest behind 'xn--' is proper. -/
def propL (r : List UInt8) : Bool := match decL r with
  | .error _ => false
  | .ok p => p.any (fun x => decide (128 ≤ x)) && p.all (fun x => !bigP x) && decide (encB p = r)
def endsL (l : List UInt8) : Bool := decide (l ≠ []) && decide (l.length ≤ 63) && decide (l.head? ≠ some 45) && decide (l.getLast? ≠ some 45)
def labL (l : List UInt8) : Bool := endsL l && l.all (fun b => okN b.toNat) && (decide (l.take 4 ≠ xnL) || propL (l.drop 4))
def toAOut (l : List UInt8) (P : List Nat) : List UInt8 := if P.length < l.length then xnL ++ encB (P.map lowP) else lowL l
def toA (l : List UInt8) : Nat × List UInt8 := match ptsL l with
  | none => (4, [])
  | some P => if 256 < P.length then (3, []) else if labL (toAOut l P) = true then (0, toAOut l P) else (14, [])
def toUOut (l : List UInt8) : List UInt8 := if l.take 4 = xnL then txtL (decV' (l.drop 4)) else l
where decV' (r : List UInt8) : List Nat := match decL r with
  | .ok p => p
  | .error _ => []
def toU (l : List UInt8) : Nat × List UInt8 := if labL l = true then (0, toUOut l) else (14, [])

theorem okN_ascii {n : Nat} (h : okN n = true) : n < 128 ∧ ¬ (65 ≤ n ∧ n ≤ 90) := by
  unfold okN at h
  simp only [Bool.or_eq_true, Bool.and_eq_true, decide_eq_true_eq, beq_iff_eq] at h
  omega
theorem lab_all {l : List UInt8} (h : labL l = true) : (∀ b ∈ l, b.toNat < 128) ∧ lowL l = l ∧ l.length ≤ 63 := by
  unfold labL at h
  simp only [Bool.and_eq_true] at h
  have ha : ∀ b ∈ l, okN b.toNat = true := fun b hb => List.all_eq_true.1 h.1.2 b hb
  refine ⟨fun b hb => (okN_ascii (ha b hb)).1, ?_, ?_⟩
  · unfold lowL
    have : l.map lowU = l.map id := List.map_congr_left fun b hb => lowU_small (by have := (okN_ascii (ha b hb)).2; omega)
    rw [this, List.map_id]
  · have := h.1.1
    unfold endsL at this
    simp only [Bool.and_eq_true, decide_eq_true_eq] at this
    omega
theorem lab_prop {l : List UInt8} (h : labL l = true) (hx : l.take 4 = xnL) : propL (l.drop 4) = true := by
  unfold labL at h
  simp only [Bool.and_eq_true, Bool.or_eq_true, decide_eq_true_eq] at h
  rcases h.2 with h | h
  · exact absurd hx h
  · exact h
theorem prop_of {r : List UInt8} (h : propL r = true) : ∃ p, decL r = .ok p ∧ (∀ x ∈ p, ptN x = true) ∧ p.length ≤ 256 ∧ (∃ x ∈ p, 128 ≤ x) ∧ p.map lowP = p ∧ encB p = r := by
  unfold propL at h
  cases hd : decL r with
  | error e => rw [hd] at h; cases h
  | ok p =>
    rw [hd] at h
    simp only [Bool.and_eq_true, decide_eq_true_eq] at h
    obtain ⟨⟨h1, h2⟩, h3⟩ := h
    obtain ⟨e1, e2, _, _⟩ := enc_dec hd
    refine ⟨p, rfl, e1, e2, ?_, ?_, h3⟩
    · obtain ⟨x, hx, hy⟩ := List.any_eq_true.1 h1
      exact ⟨x, hx, of_decide_eq_true hy⟩
    · have : p.map lowP = p.map id := List.map_congr_left fun x hx => by
        have := List.all_eq_true.1 h2 x hx
        unfold bigP at this
        unfold lowP
        rw [if_neg]
        · rfl
        · rintro ⟨a, b⟩
          rw [decide_eq_true a, decide_eq_true b] at this
          cases this
      rw [this, List.map_id]
theorem toA_lab {a : List UInt8} (h : labL a = true) : toA a = (0, a) := by
  obtain ⟨h1, h2, h3⟩ := lab_all h
  unfold toA
  rw [pts_ascii h1]
  have e : toAOut a (a.map UInt8.toNat) = a := by unfold toAOut; rw [if_neg (by rw [List.length_map]; omega), h2]
  simp only [e]
  rw [if_neg (by rw [List.length_map]; omega), if_pos h]
/-- ToASCII restores a canonical label from its Unicode form. -/
theorem toA_toU {l : List UInt8} (h : labL l = true) : toA (toU l).2 = (0, l) := by
  have e : (toU l).2 = toUOut l := by unfold toU; rw [if_pos h]
  rw [e]
  by_cases hx : l.take 4 = xnL
  · obtain ⟨p, hd, hp, hl, hn, hlow, henc⟩ := prop_of (lab_prop h hx)
    have e2 : toUOut l = txtL p := by unfold toUOut toUOut.decV'; rw [if_pos hx, hd]
    have e3 : toAOut (txtL p) p = l := by
      unfold toAOut
      rw [if_pos ((txtL_len p).2.1 hn), hlow, henc, ← hx, List.take_append_drop]
    rw [e2]
    unfold toA
    rw [pts_txt p hp]
    simp only [e3]
    rw [if_neg (by omega), if_pos h]
  · have e2 : toUOut l = l := by unfold toUOut; rw [if_neg hx]
    rw [e2]
    exact toA_lab h
theorem toA_low (l : List UInt8) : toA (lowL l) = toA l := by
  unfold toA
  rw [pts_low]
  cases ptsL l with
  | none => rfl
  | some P =>
    have e : toAOut (lowL l) (P.map lowP) = toAOut l P := by
      unfold toAOut
      rw [List.length_map, lowL_length, lowP_map, lowL_lowL]
    simp only [Option.map_some, e, List.length_map]
theorem toA_cases (l : List UInt8) : (toA l).1 = 0 ∧ labL (toA l).2 = true ∨ (toA l).1 ≠ 0 ∧ (toA l).2 = [] := by
  unfold toA
  cases ptsL l with
  | none => exact .inr ⟨(fun e => by cases e), rfl⟩
  | some P =>
    simp only []
    split
    · exact .inr ⟨by decide, rfl⟩
    · split
      · rename_i h; exact .inl ⟨rfl, h⟩
      · exact .inr ⟨by decide, rfl⟩
theorem toU_inj {a b : List UInt8} (ha : labL a = true) (hb : labL b = true) (h : (toU a).2 = (toU b).2) : a = b := by
  have h1 := toA_toU ha
  rw [h, toA_toU hb] at h1
  exact (Prod.mk.inj h1).2.symm
theorem toU_cases (l : List UInt8) : labL l = true ∧ (toU l).1 = 0 ∨ labL l = false ∧ toU l = (14, []) := by
  unfold toU
  by_cases h : labL l = true
  · rw [if_pos h]; exact .inl ⟨h, rfl⟩
  · rw [if_neg h]; exact .inr ⟨by simpa using h, rfl⟩
theorem toU_len {l : List UInt8} : (toU l).2.length ≤ 1024 := by
  unfold toU
  split
  · rename_i h
    obtain ⟨_, _, h3⟩ := lab_all h
    unfold toUOut
    split
    · rename_i hx
      obtain ⟨p, hd, hp, hl, _⟩ := prop_of (lab_prop h hx)
      unfold toUOut.decV'
      rw [hd]
      have : ∀ (P : List Nat), (txtL P).length ≤ 4 * P.length := by
        intro P
        induction P with
        | nil => exact Nat.le_refl _
        | cons q P ih =>
          have e : (txtL (q :: P)).length = (txt8 q).length + (txtL P).length := by
            show (txt8 q ++ txtL P).length = _
            rw [List.length_append]
          have := (txt8_len q).2.2.2
          rw [e, List.length_cons]
          omega
      have := this p
      show (txtL p).length ≤ 1024
      omega
    · show l.length ≤ 1024
      omega
  · exact Nat.zero_le _

end Go.Proofs.YtoieapdfpbcfpaaDoor
