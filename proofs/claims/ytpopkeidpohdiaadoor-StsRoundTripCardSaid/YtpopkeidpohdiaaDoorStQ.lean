/-
  Policies as texts: what is formatted is read back, and any number of digits is read. No program.
-/
import Derived.Test.YtpopkeidpohdiaaDoorStP
namespace Go.Proofs.YtpopkeidpohdiaaDoor
open Go.RowKit

theorem digit_tok (c : UInt8) (h : digitU c = true) : tokU c = true ∧ inU c = true := by
  have key : ∀ n : Fin 256, digitB ((n.val : Nat) : Int) = true → tokenB ((n.val : Nat) : Int) = true ∧ inV ((n.val : Nat) : Int) = true := by decide +kernel
  exact key ⟨c.toNat, c.toNat_lt⟩ h
theorem digits_tok : ∀ l : List UInt8, l.all digitU = true → l.all tokU = true ∧ l.all inU = true
  | [], _ => ⟨rfl, rfl⟩
  | c :: l, h => by
    rw [List.all_cons, Bool.and_eq_true] at h
    have h1 := digit_tok c h.1
    have h2 := digits_tok l h.2
    rw [List.all_cons, List.all_cons, h1.1, h1.2, h2.1, h2.2]
    exact ⟨rfl, rfl⟩
def dAge (l : List UInt8) : Dv := ⟨nmA, l, true⟩
def dInc : Dv := ⟨nmI, [], false⟩
theorem dirL_age {l : List UInt8} (h : l.all digitU = true) (hne : l ≠ []) (hz : l.length ≤ 4000) : dirL (nmA ++ 61 :: l) = ([dAge l], 0) := by
  obtain ⟨h1, h2⟩ := digits_tok l h
  have he : l.isEmpty = false := by cases l with
    | nil => exact absurd rfl hne
    | cons c r => rfl
  have hv : valT l = l := by
    unfold valT
    rw [if_pos]
    rw [he, h1]
    rfl
  have ht : dirT [dAge l] = nmA ++ 61 :: l := by
    show nmA ++ (if true = true then 61 :: valT l else []) = _
    rw [if_pos rfl, hv]
  rw [← ht]
  refine dirL_text ?_ ?_
  · have hn : (!nmA.isEmpty && nmA.all tokU && decide (lowL nmA = nmA)) = true := by decide +kernel
    have : (dAge l).ok = true := by
      show (!nmA.isEmpty && nmA.all tokU && decide (lowL nmA = nmA) && (true || l.isEmpty) && l.all inU) = true
      rw [hn, h2]
      rfl
    unfold dirOk
    rw [List.all_cons, this]
    rfl
  · rw [ht]
    have : nmA.length = 7 := rfl
    simp only [List.length_append, List.length_cons, this]
    omega
theorem inc_dir : dirL [32, 105, 110, 99, 108, 117, 100, 101, 83, 117, 98, 68, 111, 109, 97, 105, 110, 115] = ([dInc], 0) := by decide +kernel
theorem inc_dir0 : dirL [105, 110, 99, 108, 117, 100, 101, 83, 117, 98, 68, 111, 109, 97, 105, 110, 115] = ([dInc], 0) := by decide +kernel
theorem digs_bs {l : List UInt8} (h : l.all digitU = true) (hne : l ≠ []) : digitsB (bs l) = true ∧ perV (bs l) = perL 0 l := by
  have hd : digitsB (bs l) = true := by
    unfold digitsB
    rw [ls_bs, h]
    cases l with
    | nil => exact absurd rfl hne
    | cons c r => rfl
  refine ⟨hd, ?_⟩
  unfold perV
  rw [hd, if_pos rfl, ls_bs]
theorem pol_age {l : List UInt8} (h : l.all digitU = true) (hne : l ≠ []) : polL [dAge l] = (⟨perL 0 l, false⟩, 0) := by
  obtain ⟨h1, h2⟩ := digs_bs h hne
  have hd : dupL [dAge l] = false := by unfold dupL; simp
  rw [polL_eq, hd]
  have hb : badD (dAge l) = false := by
    unfold badD isA isI dAge
    simp only [h1]
    simp [nm_ne]
  have ha : isA (dAge l) = true := by simp [isA, dAge]
  have hi : isI (dAge l) = false := by simp [isI, dAge, nm_ne]
  simp only [List.any_cons, List.any_nil, hb, ha, hi]
  show ((⟨lastA [dAge l] 0, false⟩, 0) : Pv × Int) = _
  rw [show lastA [dAge l] 0 = perV (bs l) by simp [lastA, dAge], h2]
theorem pol_both {l : List UInt8} (h : l.all digitU = true) (hne : l ≠ []) : polL [dAge l, dInc] = (⟨perL 0 l, true⟩, 0) := by
  obtain ⟨h1, h2⟩ := digs_bs h hne
  have hd : dupL [dAge l, dInc] = false := by
    unfold dupL
    simp [dAge, dInc, nm_ne]
  rw [polL_eq, hd]
  have hb : badD (dAge l) = false := by
    unfold badD isA isI dAge
    simp only [h1]
    simp [nm_ne]
  have ha : isA (dAge l) = true := by simp [isA, dAge]
  have hi : isI (dAge l) = false := by simp [isI, dAge, nm_ne]
  have hb2 : badD dInc = false := by decide +kernel
  have hi2 : isI dInc = true := by decide +kernel
  have ha2 : isA dInc = false := by decide +kernel
  simp only [List.any_cons, List.any_nil, hb, ha, hi, hb2, hi2, ha2]
  show ((⟨lastA [dAge l, dInc] 0, true⟩, 0) : Pv × Int) = _
  have hn : ¬ nmI = nmA := fun e => nm_ne e.symm
  rw [show lastA [dAge l, dInc] 0 = perV (bs l) by simp [lastA, dAge, dInc, hn], h2]
theorem sts_age {l : List UInt8} (h : l.all digitU = true) (hne : l ≠ []) (hz : l.length ≤ 4000) : stsP (nmA ++ 61 :: l) = (⟨perL 0 l, false⟩, 0) := by
  rw [stsP_list (dirL_age h hne hz), pol_age h hne]
theorem sts_both {l : List UInt8} (h : l.all digitU = true) (hne : l ≠ []) (hz : l.length ≤ 4000) : stsP (nmA ++ 61 :: l ++ inclT) = (⟨perL 0 l, true⟩, 0) := by
  have hj := dirL_join (dirL_age h hne hz) inc_dir (by simp) (by
    have : nmA.length = 7 := rfl
    simp only [List.length_append, List.length_cons, this]
    simp
    omega)
  have e : nmA ++ 61 :: l ++ inclT = nmA ++ 61 :: l ++ 59 :: [32, 105, 110, 99, 108, 117, 100, 101, 83, 117, 98, 68, 111, 109, 97, 105, 110, 115] := rfl
  rw [e, stsP_list hj]
  exact pol_both h hne
theorem sts_front {l : List UInt8} (h : l.all digitU = true) (hne : l ≠ []) (hz : l.length ≤ 4000) : stsP ([105, 110, 99, 108, 117, 100, 101, 83, 117, 98, 68, 111, 109, 97, 105, 110, 115] ++ 59 :: (nmA ++ 61 :: l)) = (⟨perL 0 l, true⟩, 0) := by
  have hj := dirL_join inc_dir0 (dirL_age h hne hz) (by simp) (by
    have : nmA.length = 7 := rfl
    simp only [List.length_append, List.length_cons, this]
    simp
    omega)
  rw [stsP_list hj, show [dInc] ++ [dAge l] = [dInc, dAge l] from rfl, polL_perm (m := [dAge l, dInc]) (List.Perm.swap _ _ _)]
  exact pol_both h hne
/-- The number that digits mean, however great it is. -/
theorem dec_sat (u : Nat) : perL 0 (Lib.decDigits u) = min (u : Int) 2147483647 := by
  induction u using Nat.strongRecOn with
  | ind u ih =>
    by_cases h : u < 10
    · rw [Lib.decDigits_one h, perL_one, perStep, digit_of u h]
      omega
    · rw [dec_step u h, perL_append, ih (u / 10) (by omega), perL_one, perStep, digit_of (u % 10) (by omega)]
      omega
theorem perL_rep (n : Nat) (l : List UInt8) : perL 0 (List.replicate n 48 ++ l) = perL 0 l := by
  induction n with
  | zero => rfl
  | succ n ih =>
    rw [List.replicate_succ, List.cons_append]
    show perL (perStep 0 48) _ = _
    rw [show perStep 0 48 = 0 from rfl]
    exact ih
theorem rep_digits (n : Nat) (l : List UInt8) (h : l.all digitU = true) : (List.replicate n 48 ++ l).all digitU = true := by
  rw [List.all_append, h, Bool.and_true, List.all_eq_true]
  intro c hc
  rw [List.eq_of_mem_replicate hc]
  decide +kernel
/-- What Format returns is read back. -/
theorem fmtP_back {p : Pv} (h0 : 0 ≤ p.age) (h1 : p.age ≤ 2147483647) : stsP (fmtP p).1 = (p, 0) := by
  have hr : ¬ (p.age < 0 ∨ 2147483647 < p.age) := by omega
  have hd := dec_digits p.age.toNat
  have hne := dec_ne p.age.toNat
  have hz : (Lib.decDigits p.age.toNat).length ≤ 4000 := by
    have := dec_size p.age.toNat (by omega)
    rw [bs_size] at this
    omega
  have hv : perL 0 (Lib.decDigits p.age.toNat) = p.age := by
    rw [dec_value _ (by omega)]
    omega
  obtain ⟨a, b⟩ := p
  unfold fmtP
  rw [if_neg hr]
  simp only at hd hne hz hv ⊢
  cases b with
  | true =>
    rw [if_pos rfl, sts_both hd hne hz, hv]
  | false =>
    rw [if_neg (by decide), List.append_nil, sts_age hd hne hz, hv]

end Go.Proofs.YtpopkeidpohdiaaDoor
