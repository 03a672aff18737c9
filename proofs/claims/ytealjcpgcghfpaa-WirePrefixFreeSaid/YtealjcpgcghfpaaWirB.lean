/-
  The walk of WirePrefixFree: it returns true.
-/
import Derived.Test.YtealjcpgcghfpaaWir7
import Derived.Test.YtealjcpgcghfpaaStill
namespace Go.Proofs.Ytealjcpgcghfpaa
open Go.RowKit

attribute [local irreducible] wpStill

theorem prefix_eqL {v u : Int} (hv0 : 0 ≤ v) (hv1 : v < 18446744073709551616) (hu0 : 0 ≤ u) (hu1 : u < 18446744073709551616) (hne : ¬ v = u) (N : Nat) (hN : N = min (enc v.toNat).length (enc u.toNat).length) :
    eqL ((enc v.toNat).take N) ((enc u.toNat).take N) = false := by
  unfold eqL
  refine decide_eq_false fun h => ?_
  subst hN
  have := enc_prefix (v := v.toNat) (u := u.toNat) (by omega) (by omega) h
  omega

set_option maxHeartbeats 4000000 in
theorem wirePrefix_walk (v u : Int) (hv : (Lit.int .u64 v).wf = true) (hu : (Lit.int .u64 u).wf = true) (w : World) :
    Calls Try.prog 7 #[.int .u64 v, .int .u64 u] w (Yes w) := by
  have hvb := bounds_u64 hv
  have hub := bounds_u64 hu
  have hv0 : 0 ≤ v := by omega
  have hv1 : v < 18446744073709551616 := by omega
  have hu0 : 0 ≤ u := by omega
  have hu1 : u < 18446744073709551616 := by omega
  clear hv hu hvb hub
  obtain ⟨E, hE⟩ : ∃ E, E = enc v.toNat := ⟨_, rfl⟩
  obtain ⟨F, hF⟩ : ∃ F, F = enc u.toNat := ⟨_, rfl⟩
  have HE := Lib.hid hE
  have HF := Lib.hid hF
  have hEl := enc_len v.toNat
  have hFl := enc_len u.toNat
  rw [← hE] at hEl
  rw [← hF] at hFl
  obtain ⟨N, hN⟩ : ∃ N : Nat, N = min E.length F.length := ⟨_, rfl⟩
  have hmin := fun w => min_two (P := Try.prog) w #[3, 3] 3 (E.length : Int) (F.length : Int) (N : Int) (by omega)
  have hNE : N ≤ E.length := by omega
  have hNF : N ≤ F.length := by omega
  by_cases hne : v = u
  · subst hne
    have hEF : F = E := by rw [hE, hF]
    subst hEF
    clear hE hF hN hmin
    go_enter Try.func7, Try.ntmps7
    go_wp2_with fail
    refine (appUint_any none 0 0 0 [] v w (Has.nil _ _ _) (fun _ => rfl) (by omega) (Nat.zero_le _) hv0 hv1).mono ?_
    rintro e w1 ⟨⟨v1, rfl, hown⟩, hb1⟩
    rw [← HE.out, Nat.zero_add, List.nil_append] at hown
    obtain ⟨A1, c1, rfl, h1, _⟩ := Has.of_own hown
    clear hown
    go_wp2_with fail
    refine (appUint_any none 0 0 0 [] v w1 (Has.nil _ _ _) (fun _ => rfl) (by omega) (Nat.zero_le _) hv0 hv1).mono ?_
    rintro e w2 ⟨⟨v2, rfl, hown⟩, hb2⟩
    rw [← HE.out, Nat.zero_add, List.nil_append] at hown
    obtain ⟨A2, c2, rfl, h2, _⟩ := Has.of_own hown
    clear hown
    replace h1 := (h1.below hb2).more hb2.size
    replace hb1 := hb1.trans (hb2.mono hb1.size)
    go_wp2_with fail
    refine (bytes_any _ _ _ _ _ _ _ _ _ w2 h1 h2).mono ?_
    rintro e w' ⟨rfl, rfl⟩
    rw [eqL_refl]
    go_wp2_with fail
    refine (awake3_any _).mono ?_
    rintro e w3 ⟨rfl, hb3⟩
    go_wp2
    go_ret
    exact ⟨rfl, hb1.trans (hb3.mono hb1.size)⟩
  · have hQ := prefix_eqL hv0 hv1 hu0 hu1 hne N (by rw [← hE, ← hF]; exact hN)
    rw [← hE, ← hF] at hQ
    have hvu : (v == u) = false := by simpa using hne
    have hlt : (v < u ∧ E.length < F.length) ∨ (v < u ∧ E.length = F.length) ∨ (¬ v < u ∧ F.length < E.length) ∨ (¬ v < u ∧ E.length = F.length) := by
      rcases Int.lt_or_gt_of_ne hne with h | h
      · have := enc_mono (v := v.toNat) (u := u.toNat) (by omega)
        rw [← hE, ← hF] at this
        omega
      · have := enc_mono (v := u.toNat) (u := v.toNat) (by omega)
        rw [← hE, ← hF] at this
        omega
    clear hE hF hN hne
    go_enter Try.func7, Try.ntmps7
    go_wp2_with fail
    refine (appUint_any none 0 0 0 [] v w (Has.nil _ _ _) (fun _ => rfl) (by omega) (Nat.zero_le _) hv0 hv1).mono ?_
    rintro e w1 ⟨⟨v1, rfl, hown⟩, hb1⟩
    rw [← HE.out, Nat.zero_add, List.nil_append] at hown
    obtain ⟨A1, c1, rfl, h1, hc1⟩ := Has.of_own hown
    clear hown
    go_wp2_with fail
    refine (appUint_any none 0 0 0 [] u w1 (Has.nil _ _ _) (fun _ => rfl) (by omega) (Nat.zero_le _) hu0 hu1).mono ?_
    rintro e w2 ⟨⟨v2, rfl, hown⟩, hb2⟩
    rw [← HF.out, Nat.zero_add, List.nil_append] at hown
    obtain ⟨A2, c2, rfl, h2, hc2⟩ := Has.of_own hown
    clear hown
    replace h1 := (h1.below hb2).more hb2.size
    replace hb1 := hb1.trans (hb2.mono hb1.size)
    have hN1 : N ≤ c1 := Nat.le_trans hNE hc1
    have hN2 : N ≤ c2 := Nat.le_trans hNF hc2
    have q1 := h1.take N hNE
    have q2 := h2.take N hNF
    rw [← List.map_take] at q1 q2
    clear h1 h2 hb2 hc1 hc2
    rcases hlt with hl | hl | hl | hl
    · obtain ⟨hl1, hl2⟩ := hl
      have hl3 : (E.length : Int) < (F.length : Int) := by omega
      clear hl2
      go_wp2
      go_still_tail 32, (by kernel_rfl)
      clear hmin hv0 hv1 hu0 hu1 HE HF hEl hFl hNE hNF hvu hN1 hN2
      still_call ((bytes_any A1 A2 N c1 N c2 _ (E.take N) (F.take N) { w2 with drawn := w2.drawn + 1 } q1 q2).mono fun e w' h => ⟨h.1, h.2.symm⟩)
      refine still_want (by exact rfl) (fun K hK => ?_); go_simp; refine hK _ ?_; clear hK K
      refine still_want (by exact rfl) (fun K hK => ?_); go_simp; refine hK _ ?_; clear hK K
      refine still_want (by exact rfl) (fun K hK => ?_); go_simp; refine hK _ ?_; clear hK K
      refine still_want (by exact rfl) (fun K hK => ?_); go_simp; refine hK _ ?_; clear hK K
      refine still_want (by exact rfl) (fun K hK => ?_); go_simp; refine hK _ ?_; clear hK K
      refine still_want (by exact rfl) (fun K hK => ?_); go_simp; refine hK _ ?_; clear hK K
      refine still_want (by exact rfl) (fun K hK => ?_); go_simp; refine hK _ ?_; clear hK K
      refine still_want (by exact rfl) (fun K hK => ?_); go_simp; refine hK _ ?_; clear hK K
      refine still_want (by exact rfl) (fun K hK => ?_); go_simp; refine hK _ ?_; clear hK K
      refine still_want (by exact rfl) (fun K hK => ?_); go_simp; refine hK _ ?_; clear hK K
      refine still_want (by exact rfl) (fun K hK => ?_); go_simp; refine hK _ ?_; clear hK K
      refine still_skip (by exact rfl) (fun K hK => ?_); go_simp; refine hK _ ?_; clear hK K
      refine still_skip (by exact rfl) (fun K hK => ?_); go_simp; refine hK _ ?_; clear hK K
      refine still_skip (by exact rfl) (fun K hK => ?_); go_simp; refine hK _ ?_; clear hK K
      refine still_skip (by exact rfl) (fun K hK => ?_); go_simp; refine hK _ ?_; clear hK K
      refine still_skip (by exact rfl) (fun K hK => ?_); go_simp; refine hK _ ?_; clear hK K
      refine still_skip (by exact rfl) (fun K hK => ?_); go_simp; refine hK _ ?_; clear hK K
      refine still_skip (by exact rfl) (fun K hK => ?_); go_simp; refine hK _ ?_; clear hK K
      refine still_skip (by exact rfl) (fun K hK => ?_); go_simp; refine hK _ ?_; clear hK K
      refine still_skip (by exact rfl) (fun K hK => ?_); go_simp; refine hK _ ?_; clear hK K
      refine still_skip (by exact rfl) (fun K hK => ?_); go_simp; refine hK _ ?_; clear hK K
      refine still_want (by exact rfl) (fun K hK => ?_); go_simp; refine hK _ ?_; clear hK K
      refine still_want (by exact rfl) (fun K hK => ?_); go_simp; refine hK _ ?_; clear hK K
      refine still_want (by exact rfl) (fun K hK => ?_); go_simp; refine hK _ ?_; clear hK K
      refine still_want (by exact rfl) (fun K hK => ?_); go_simp; refine hK _ ?_; clear hK K
      refine wpStill_nil ?_
      change wpList _ _ _ _ _ (World.drew _)
      have hbd := hb1.drew
      clear q1 q2
      generalize World.drew w2 = w9 at *
      go_wp2_with fail
      refine (awake3_any _).mono ?_
      rintro e w3 ⟨rfl, hb3⟩
      go_wp2
      go_ret
      exact ⟨rfl, hbd.trans (hb3.mono hbd.size)⟩
    · obtain ⟨hl1, hl2⟩ := hl
      have hl3 : decide (E.length < F.length) = false := decide_eq_false (by omega)
      have hl4 : ((E.length : Int) == (F.length : Int)) = true := by simp; omega
      have hl5 : decide (E.length = F.length) = true := decide_eq_true (by omega)
      have hl6 : (E.length == F.length) = true := by simp; omega
      clear hl2
      go_wp2
      go_still_tail 32, (by kernel_rfl)
      clear hmin hv0 hv1 hu0 hu1 HE HF hEl hFl hNE hNF hvu hN1 hN2
      still_call ((bytes_any A1 A2 N c1 N c2 _ (E.take N) (F.take N) { w2 with drawn := w2.drawn + 1 } q1 q2).mono fun e w' h => ⟨h.1, h.2.symm⟩)
      refine still_want (by exact rfl) (fun K hK => ?_); go_simp; refine hK _ ?_; clear hK K
      refine still_want (by exact rfl) (fun K hK => ?_); go_simp; refine hK _ ?_; clear hK K
      refine still_want (by exact rfl) (fun K hK => ?_); go_simp; refine hK _ ?_; clear hK K
      refine still_want (by exact rfl) (fun K hK => ?_); go_simp; refine hK _ ?_; clear hK K
      refine still_want (by exact rfl) (fun K hK => ?_); go_simp; refine hK _ ?_; clear hK K
      refine still_want (by exact rfl) (fun K hK => ?_); go_simp; refine hK _ ?_; clear hK K
      refine still_want (by exact rfl) (fun K hK => ?_); go_simp; refine hK _ ?_; clear hK K
      refine still_want (by exact rfl) (fun K hK => ?_); go_simp; refine hK _ ?_; clear hK K
      refine still_want (by exact rfl) (fun K hK => ?_); go_simp; refine hK _ ?_; clear hK K
      refine still_want (by exact rfl) (fun K hK => ?_); go_simp; refine hK _ ?_; clear hK K
      refine still_want (by exact rfl) (fun K hK => ?_); go_simp; refine hK _ ?_; clear hK K
      refine still_want (by exact rfl) (fun K hK => ?_); go_simp; refine hK _ ?_; clear hK K
      refine still_want (by exact rfl) (fun K hK => ?_); go_simp; refine hK _ ?_; clear hK K
      refine still_want (by exact rfl) (fun K hK => ?_); go_simp; refine hK _ ?_; clear hK K
      refine still_want (by exact rfl) (fun K hK => ?_); go_simp; refine hK _ ?_; clear hK K
      refine still_want (by exact rfl) (fun K hK => ?_); go_simp; refine hK _ ?_; clear hK K
      refine still_want (by exact rfl) (fun K hK => ?_); go_simp; refine hK _ ?_; clear hK K
      refine still_want (by exact rfl) (fun K hK => ?_); go_simp; refine hK _ ?_; clear hK K
      refine still_want (by exact rfl) (fun K hK => ?_); go_simp; refine hK _ ?_; clear hK K
      refine still_want (by exact rfl) (fun K hK => ?_); go_simp; refine hK _ ?_; clear hK K
      refine still_want (by exact rfl) (fun K hK => ?_); go_simp; refine hK _ ?_; clear hK K
      refine still_want (by exact rfl) (fun K hK => ?_); go_simp; refine hK _ ?_; clear hK K
      refine still_want (by exact rfl) (fun K hK => ?_); go_simp; refine hK _ ?_; clear hK K
      refine still_want (by exact rfl) (fun K hK => ?_); go_simp; refine hK _ ?_; clear hK K
      refine still_want (by exact rfl) (fun K hK => ?_); go_simp; refine hK _ ?_; clear hK K
      refine wpStill_nil ?_
      change wpList _ _ _ _ _ (World.drew _)
      have hbd := hb1.drew
      clear q1 q2
      generalize World.drew w2 = w9 at *
      go_wp2_with fail
      refine (awake3_any _).mono ?_
      rintro e w3 ⟨rfl, hb3⟩
      go_wp2
      go_ret
      exact ⟨rfl, hbd.trans (hb3.mono hbd.size)⟩
    · obtain ⟨hl1, hl2⟩ := hl
      have hl3 : decide (E.length < F.length) = false := decide_eq_false (by omega)
      have hl4 : ((E.length : Int) == (F.length : Int)) = false := by simp; omega
      have hl5 : decide (E.length = F.length) = false := decide_eq_false (by omega)
      have hl6 : (E.length == F.length) = false := by simp; omega
      have hl0 : decide (v < u) = false := decide_eq_false (by omega)
      clear hl1
      clear hl2
      go_wp2
      go_still_tail 32, (by kernel_rfl)
      clear hmin hv0 hv1 hu0 hu1 HE HF hEl hFl hNE hNF hvu hN1 hN2
      still_call ((bytes_any A1 A2 N c1 N c2 _ (E.take N) (F.take N) { w2 with drawn := w2.drawn + 1 } q1 q2).mono fun e w' h => ⟨h.1, h.2.symm⟩)
      refine still_want (by exact rfl) (fun K hK => ?_); go_simp; refine hK _ ?_; clear hK K
      refine still_want (by exact rfl) (fun K hK => ?_); go_simp; refine hK _ ?_; clear hK K
      refine still_want (by exact rfl) (fun K hK => ?_); go_simp; refine hK _ ?_; clear hK K
      refine still_want (by exact rfl) (fun K hK => ?_); go_simp; refine hK _ ?_; clear hK K
      refine still_want (by exact rfl) (fun K hK => ?_); go_simp; refine hK _ ?_; clear hK K
      refine still_want (by exact rfl) (fun K hK => ?_); go_simp; refine hK _ ?_; clear hK K
      refine still_want (by exact rfl) (fun K hK => ?_); go_simp; refine hK _ ?_; clear hK K
      refine still_want (by exact rfl) (fun K hK => ?_); go_simp; refine hK _ ?_; clear hK K
      refine still_want (by exact rfl) (fun K hK => ?_); go_simp; refine hK _ ?_; clear hK K
      refine still_want (by exact rfl) (fun K hK => ?_); go_simp; refine hK _ ?_; clear hK K
      refine still_want (by exact rfl) (fun K hK => ?_); go_simp; refine hK _ ?_; clear hK K
      refine still_want (by exact rfl) (fun K hK => ?_); go_simp; refine hK _ ?_; clear hK K
      refine still_want (by exact rfl) (fun K hK => ?_); go_simp; refine hK _ ?_; clear hK K
      refine still_want (by exact rfl) (fun K hK => ?_); go_simp; refine hK _ ?_; clear hK K
      refine still_want (by exact rfl) (fun K hK => ?_); go_simp; refine hK _ ?_; clear hK K
      refine still_want (by exact rfl) (fun K hK => ?_); go_simp; refine hK _ ?_; clear hK K
      refine still_want (by exact rfl) (fun K hK => ?_); go_simp; refine hK _ ?_; clear hK K
      refine still_skip (by exact rfl) (fun K hK => ?_); go_simp; refine hK _ ?_; clear hK K
      refine still_skip (by exact rfl) (fun K hK => ?_); go_simp; refine hK _ ?_; clear hK K
      refine still_skip (by exact rfl) (fun K hK => ?_); go_simp; refine hK _ ?_; clear hK K
      refine still_want (by exact rfl) (fun K hK => ?_); go_simp; refine hK _ ?_; clear hK K
      refine still_want (by exact rfl) (fun K hK => ?_); go_simp; refine hK _ ?_; clear hK K
      refine still_want (by exact rfl) (fun K hK => ?_); go_simp; refine hK _ ?_; clear hK K
      refine still_want (by exact rfl) (fun K hK => ?_); go_simp; refine hK _ ?_; clear hK K
      refine still_want (by exact rfl) (fun K hK => ?_); go_simp; refine hK _ ?_; clear hK K
      refine wpStill_nil ?_
      change wpList _ _ _ _ _ (World.drew _)
      have hbd := hb1.drew
      clear q1 q2
      generalize World.drew w2 = w9 at *
      go_wp2_with fail
      refine (awake3_any _).mono ?_
      rintro e w3 ⟨rfl, hb3⟩
      go_wp2
      go_ret
      exact ⟨rfl, hbd.trans (hb3.mono hbd.size)⟩
    · obtain ⟨hl1, hl2⟩ := hl
      have hl3 : decide (E.length < F.length) = false := decide_eq_false (by omega)
      have hl4 : ((E.length : Int) == (F.length : Int)) = true := by simp; omega
      have hl5 : decide (E.length = F.length) = true := decide_eq_true (by omega)
      have hl6 : (E.length == F.length) = true := by simp; omega
      have hl0 : decide (v < u) = false := decide_eq_false (by omega)
      clear hl1
      clear hl2
      go_wp2
      go_still_tail 32, (by kernel_rfl)
      clear hmin hv0 hv1 hu0 hu1 HE HF hEl hFl hNE hNF hvu hN1 hN2
      still_call ((bytes_any A1 A2 N c1 N c2 _ (E.take N) (F.take N) { w2 with drawn := w2.drawn + 1 } q1 q2).mono fun e w' h => ⟨h.1, h.2.symm⟩)
      refine still_want (by exact rfl) (fun K hK => ?_); go_simp; refine hK _ ?_; clear hK K
      refine still_want (by exact rfl) (fun K hK => ?_); go_simp; refine hK _ ?_; clear hK K
      refine still_want (by exact rfl) (fun K hK => ?_); go_simp; refine hK _ ?_; clear hK K
      refine still_want (by exact rfl) (fun K hK => ?_); go_simp; refine hK _ ?_; clear hK K
      refine still_want (by exact rfl) (fun K hK => ?_); go_simp; refine hK _ ?_; clear hK K
      refine still_want (by exact rfl) (fun K hK => ?_); go_simp; refine hK _ ?_; clear hK K
      refine still_want (by exact rfl) (fun K hK => ?_); go_simp; refine hK _ ?_; clear hK K
      refine still_want (by exact rfl) (fun K hK => ?_); go_simp; refine hK _ ?_; clear hK K
      refine still_want (by exact rfl) (fun K hK => ?_); go_simp; refine hK _ ?_; clear hK K
      refine still_want (by exact rfl) (fun K hK => ?_); go_simp; refine hK _ ?_; clear hK K
      refine still_want (by exact rfl) (fun K hK => ?_); go_simp; refine hK _ ?_; clear hK K
      refine still_want (by exact rfl) (fun K hK => ?_); go_simp; refine hK _ ?_; clear hK K
      refine still_want (by exact rfl) (fun K hK => ?_); go_simp; refine hK _ ?_; clear hK K
      refine still_want (by exact rfl) (fun K hK => ?_); go_simp; refine hK _ ?_; clear hK K
      refine still_want (by exact rfl) (fun K hK => ?_); go_simp; refine hK _ ?_; clear hK K
      refine still_want (by exact rfl) (fun K hK => ?_); go_simp; refine hK _ ?_; clear hK K
      refine still_want (by exact rfl) (fun K hK => ?_); go_simp; refine hK _ ?_; clear hK K
      refine still_want (by exact rfl) (fun K hK => ?_); go_simp; refine hK _ ?_; clear hK K
      refine still_want (by exact rfl) (fun K hK => ?_); go_simp; refine hK _ ?_; clear hK K
      refine still_want (by exact rfl) (fun K hK => ?_); go_simp; refine hK _ ?_; clear hK K
      refine still_want (by exact rfl) (fun K hK => ?_); go_simp; refine hK _ ?_; clear hK K
      refine still_want (by exact rfl) (fun K hK => ?_); go_simp; refine hK _ ?_; clear hK K
      refine still_want (by exact rfl) (fun K hK => ?_); go_simp; refine hK _ ?_; clear hK K
      refine still_want (by exact rfl) (fun K hK => ?_); go_simp; refine hK _ ?_; clear hK K
      refine still_want (by exact rfl) (fun K hK => ?_); go_simp; refine hK _ ?_; clear hK K
      refine wpStill_nil ?_
      change wpList _ _ _ _ _ (World.drew _)
      have hbd := hb1.drew
      clear q1 q2
      generalize World.drew w2 = w9 at *
      go_wp2_with fail
      refine (awake3_any _).mono ?_
      rintro e w3 ⟨rfl, hb3⟩
      go_wp2
      go_ret
      exact ⟨rfl, hbd.trans (hb3.mono hbd.size)⟩

end Go.Proofs.Ytealjcpgcghfpaa
