/-
  Digits of a number in a base: plain facts, no program.
-/
import Derived.Test.YthihfhmclmmadaaDoorIpP
namespace Go.Proofs.YthihfhmclmmadaaDoor
open Go.RowKit

/-- Digits in a base. -/
def hexc (d : Nat) : UInt8 := if d < 10 then UInt8.ofNat (48 + d) else UInt8.ofNat (87 + d)
theorem hexc_fin : ∀ d : Fin 16, digV (hexc d.val) = d.val ∧ hexc d.val ≠ 46 ∧ lowU (hexc d.val) = hexc d.val ∧ hexc d.val ≠ 120 ∧ hexc d.val ≠ 88 ∧ (hexc d.val = 48 → d.val = 0) := by decide +kernel
theorem hexc_of {d : Nat} (h : d < 16) : digV (hexc d) = d ∧ hexc d ≠ 46 ∧ lowU (hexc d) = hexc d ∧ hexc d ≠ 120 ∧ hexc d ≠ 88 ∧ (hexc d = 48 → d = 0) := hexc_fin ⟨d, h⟩
def digsF (b : Nat) : Nat → Nat → List UInt8
  | 0, m => [hexc (m % b)]
  | f + 1, m => if m < b then [hexc m] else digsF b f (m / b) ++ [hexc (m % b)]
/-- The digits of a number below 2^40 in a base of at least 2. -/
def digsB (b m : Nat) : List UInt8 := digsF b 40 m
theorem digsF_more (b : Nat) (hb : 2 ≤ b) : ∀ f m, m < 2 ^ f → digsF b (f + 1) m = digsF b f m
  | 0, m, h => by
    have hm : m = 0 := by simpa using h
    subst hm
    unfold digsF
    rw [if_pos (by omega), Nat.zero_mod]
  | f + 1, m, h => by
    unfold digsF
    by_cases hm : m < b
    · rw [if_pos hm, if_pos hm]
    · rw [if_neg hm, if_neg hm, digsF_more b hb f (m / b)]
      have : m / b ≤ m / 2 := Nat.div_le_div_left hb (by omega)
      rw [Nat.pow_succ] at h
      omega
theorem digsB_small {b m : Nat} (h : m < b) : digsB b m = [hexc m] := by
  unfold digsB digsF
  rw [if_pos h]
theorem digsB_step {b m : Nat} (hb : 2 ≤ b) (hm : m < 1099511627776) (h : ¬ m < b) : digsB b m = digsB b (m / b) ++ [hexc (m % b)] := by
  have h1 : digsB b m = digsF b 39 (m / b) ++ [hexc (m % b)] := by
    show digsF b (39 + 1) m = _
    rw [digsF, if_neg h]
  have h2 : digsF b 40 (m / b) = digsF b 39 (m / b) := digsF_more b hb 39 (m / b) (by
    have : m / b ≤ m / 2 := Nat.div_le_div_left hb (by omega)
    have e : (2 : Nat) ^ 39 = 549755813888 := by decide
    omega)
  rw [h1]
  unfold digsB
  rw [h2]
theorem digs_ind {b : Nat} (hb : 2 ≤ b) (C : Nat → List UInt8 → Prop) (h0 : ∀ m, m < b → C m [hexc m]) (h1 : ∀ m, m < 1099511627776 → ¬ m < b → C (m / b) (digsB b (m / b)) → C m (digsB b (m / b) ++ [hexc (m % b)])) :
    ∀ m, m < 1099511627776 → C m (digsB b m) := by
  intro m
  induction m using Nat.strongRecOn with
  | ind m ih =>
    intro hm
    by_cases h : m < b
    · rw [digsB_small h]; exact h0 m h
    · rw [digsB_step hb hm h]
      have hlt : m / b < m := Nat.div_lt_self (by omega) hb
      exact h1 m hm h (ih (m / b) hlt (by omega))
theorem digs_ne {b : Nat} (hb : 2 ≤ b) (m : Nat) (hm : m < 1099511627776) : digsB b m ≠ [] :=
  digs_ind hb (fun _ l => l ≠ []) (fun _ _ => by simp) (fun _ _ _ _ => by simp) m hm
theorem digs_val {b : Nat} (hb : 2 ≤ b) (hb2 : b ≤ 16) (m : Nat) (hm : m < 1099511627776) : valB b 0 (digsB b m) = m := by
  refine digs_ind hb (fun m l => valB b 0 l = m) (fun m h => ?_) (fun m _ h ih => ?_) m hm
  · simp [valB, (hexc_of (show m < 16 by omega)).1]
  · have hlt : m % b < b := Nat.mod_lt _ (by omega)
    rw [valB_append, ih, valB, valB, (hexc_of (show m % b < 16 by omega)).1]
    exact Nat.div_add_mod' m b
theorem digs_all {b : Nat} (hb : 2 ≤ b) (hb2 : b ≤ 16) (p : UInt8 → Bool) (hp : ∀ d, d < b → p (hexc d) = true) (m : Nat) (hm : m < 1099511627776) : (digsB b m).all p = true := by
  refine digs_ind hb (fun m l => l.all p = true) (fun m h => ?_) (fun m _ h ih => ?_) m hm
  · simp [hp m h]
  · rw [List.all_append, ih]; simp [hp (m % b) (Nat.mod_lt _ (by omega))]
theorem digs_head {b : Nat} (hb : 2 ≤ b) (hb2 : b ≤ 16) (m : Nat) (hm : m < 1099511627776) (h0 : 0 < m) : (digsB b m).head? ≠ some 48 := by
  have key : ∀ m, m < 1099511627776 → (0 < m → (digsB b m).head? ≠ some 48) := by
    refine digs_ind hb (fun m l => 0 < m → l.head? ≠ some 48) (fun m h h0 => ?_) (fun m hm h ih h0 => ?_)
    · simp only [List.head?_cons, ne_eq, Option.some.injEq]
      intro e
      have := (hexc_of (show m < 16 by omega)).2.2.2.2.2 e
      omega
    · have h1 := ih (Nat.div_pos (by omega) (by omega))
      have h2 := digs_ne hb (m / b) (by have := Nat.div_le_self m b; omega)
      cases hx : digsB b (m / b) with
      | nil => exact absurd hx h2
      | cons c r => rw [hx] at h1; simpa using h1
  exact key m hm h0
theorem digs_length {b : Nat} (hb : 8 ≤ b) : ∀ (k m : Nat), m < 1099511627776 → m < 8 ^ (k + 1) → (digsB b m).length ≤ k + 1
  | 0, m, hm, h => by
    rw [digsB_small (by simp at h; omega)]; simp
  | k + 1, m, hm, h => by
    by_cases hs : m < b
    · rw [digsB_small hs]; simp
    · rw [digsB_step (by omega) hm hs, List.length_append]
      have h1 : m / b ≤ m / 8 := Nat.div_le_div_left hb (by omega)
      have h2 : m / b < 8 ^ (k + 1) := by rw [Nat.pow_succ] at h; omega
      have := digs_length hb k (m / b) (by have := Nat.div_le_self m b; omega) h2
      simp; omega

theorem low_digs (m : Nat) (hm : m < 1099511627776) : lowL (digsB 16 m) = digsB 16 m := by
  have h := digs_all (b := 16) (by omega) (by omega) (fun c => decide (lowU c = c)) (fun d hd => decide_eq_true (hexc_of hd).2.2.1) m hm
  rw [List.all_eq_true] at h
  exact (List.map_congr_left (fun c hc => of_decide_eq_true (h c hc))).trans (List.map_id' _)
theorem digs_free {b : Nat} (hb : 2 ≤ b) (hb2 : b ≤ 16) (m : Nat) (hm : m < 1099511627776) : noB 46 (digsB b m) := by
  have h := digs_all hb hb2 (fun c => decide (c ≠ 46)) (fun d hd => decide_eq_true (hexc_of (by omega)).2.1) m hm
  rw [List.all_eq_true] at h
  intro c hc
  exact of_decide_eq_true (h c hc)
theorem digs_dig {b : Nat} (hb : 2 ≤ b) (hb2 : b ≤ 16) (m : Nat) (hm : m < 1099511627776) : (digsB b m).all (fun c => decide (digV c < b)) = true :=
  digs_all hb hb2 _ (fun d hd => decide_eq_true (by rw [(hexc_of (by omega)).1]; exact hd)) m hm
theorem hexc_digit : ∀ d : Fin 10, digitU (hexc d.val) = true := by decide +kernel
theorem digs_digitU {b : Nat} (hb : 2 ≤ b) (hb2 : b ≤ 10) (m : Nat) (hm : m < 1099511627776) : (digsB b m).all digitU = true :=
  digs_all hb (by omega) _ (fun d hd => hexc_digit ⟨d, by omega⟩) m hm

end Go.Proofs.YthihfhmclmmadaaDoor
