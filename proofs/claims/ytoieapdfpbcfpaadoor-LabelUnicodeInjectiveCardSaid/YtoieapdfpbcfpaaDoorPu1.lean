/-
  Contracts of Point, threshold, digit, value and adapt of the reference of layer 12.
-/
import Derived.Test.YtoieapdfpbcfpaaDoorRows
import Derived.Test.YtoieapdfpbcfpaaDoorPuD
import Derived.Test.YtoieapdfpbcfpaaDoorMin2
namespace Go.Proofs.YtoieapdfpbcfpaaDoor
open Go.RowKit

theorem thr_int (k bias : Nat) : max (1 : Int) (min 26 (36 * ((k : Int) + 1) - (bias : Int))) = ((thr k bias : Nat) : Int) := by unfold thr; omega
theorem ptZ_nat (n : Nat) : ptZ (n : Int) = ptN n := by
  unfold ptZ
  rw [decide_eq_true (by omega)]
  rfl

theorem refPoint_any (z : Int) (w : World) :
    Calls Tryd.prog 39 #[.int .i64 z] w fun e w' => e = .returned (.bool (ptZ z)) ∧ w = w' := by
  by_cases h0 : 0 ≤ z
  · by_cases h1 : z ≤ 1114111
    · by_cases h2 : z < 55296
      · have HE : Hid (ptZ z = true) := by show _ = _; unfold ptZ ptN; simp; omega
        have d0 : decide ((0 : Int) ≤ z) = true := decide_eq_true h0
        have d1 : decide (z ≤ 1114111) = true := decide_eq_true h1
        have d2 : decide (z < 55296) = true := decide_eq_true h2
        go_enter Tryd.func39, Tryd.ntmps39
        go_wp2
        go_ret
        exact ⟨ret_bool HE.out.symm, rfl⟩
      · by_cases h3 : 57343 < z
        · have HE : Hid (ptZ z = true) := by show _ = _; unfold ptZ ptN; simp; omega
          have d0 : decide ((0 : Int) ≤ z) = true := decide_eq_true h0
          have d1 : decide (z ≤ 1114111) = true := decide_eq_true h1
          have d2 : decide (z < 55296) = false := decide_eq_false h2
          have d3 : decide ((57343 : Int) < z) = true := decide_eq_true h3
          go_enter Tryd.func39, Tryd.ntmps39
          go_wp2
          go_ret
          exact ⟨ret_bool HE.out.symm, rfl⟩
        · have HE : Hid (ptZ z = false) := by show _ = _; unfold ptZ ptN; simp; omega
          have d0 : decide ((0 : Int) ≤ z) = true := decide_eq_true h0
          have d1 : decide (z ≤ 1114111) = true := decide_eq_true h1
          have d2 : decide (z < 55296) = false := decide_eq_false h2
          have d3 : decide ((57343 : Int) < z) = false := decide_eq_false h3
          go_enter Tryd.func39, Tryd.ntmps39
          go_wp2
          go_ret
          exact ⟨ret_bool HE.out.symm, rfl⟩
    · have HE : Hid (ptZ z = false) := by show _ = _; unfold ptZ ptN; simp; omega
      have d0 : decide ((0 : Int) ≤ z) = true := decide_eq_true h0
      have d1 : decide (z ≤ 1114111) = false := decide_eq_false h1
      go_enter Tryd.func39, Tryd.ntmps39
      go_wp2
      go_ret
      exact ⟨ret_bool HE.out.symm, rfl⟩
  · have HE : Hid (ptZ z = false) := by show _ = _; unfold ptZ; simp; omega
    have d0 : decide ((0 : Int) ≤ z) = false := decide_eq_false h0
    go_enter Tryd.func39, Tryd.ntmps39
    go_wp2
    go_ret
    exact ⟨ret_bool HE.out.symm, rfl⟩

theorem refThr_any (k bias : Nat) (hk : k ≤ 1000000000) (hb : bias ≤ 1000000000) (w : World) :
    Calls Tryd.prog 40 #[.int .i64 (k : Int), .int .i64 (bias : Int)] w fun e w' => e = .returned (.int .i64 (thr k bias : Nat)) ∧ w = w' := by
  obtain ⟨x, hx⟩ : ∃ x, min (26 : Int) (36 * ((k : Int) + 1) - (bias : Int)) = x := ⟨_, rfl⟩
  have hy : max (1 : Int) x = (thr k bias : Nat) := by rw [← hx]; exact thr_int k bias
  have hmin : ∀ (W : World) ts ty, (Builtin.min_ ts ty #[.int .i64 26, .int .i64 (36 * ((k : Int) + 1) - (bias : Int))]).run Tryd.prog W = .ok (.int .i64 x) W := fun W ts ty => min_two W ts ty _ _ _ hx
  have hmax : ∀ (W : World) ts ty, (Builtin.max_ ts ty #[.int .i64 1, .int .i64 x]).run Tryd.prog W = .ok (.int .i64 (thr k bias : Nat)) W := fun W ts ty => max_two W ts ty _ _ _ hy
  clear hx hy
  go_enter Tryd.func40, Tryd.ntmps40
  go_wp2
  go_ret
  exact ⟨rfl, rfl⟩

theorem refDig_any (d : Nat) (hd : d < 36) (w : World) :
    Calls Tryd.prog 41 #[.int .i64 (d : Int)] w fun e w' => e = .returned (.int .u8 ((digB d).toNat : Int)) ∧ w = w' := by
  by_cases h : d < 26
  · have d1 : decide ((d : Int) < 26) = true := decide_eq_true (by omega)
    have HE : Hid (((digB d).toNat : Int) = 97 + (d : Int)) := by
      show _ = _
      unfold digB
      rw [if_pos h, UInt8.toNat_ofNat']
      omega
    go_enter Tryd.func41, Tryd.ntmps41
    go_wp2
    go_ret
    exact ⟨ret_int HE.out.symm, rfl⟩
  · have d1 : decide ((d : Int) < 26) = false := decide_eq_false (by omega)
    have HE : Hid (((digB d).toNat : Int) = 48 + (d : Int) - 26) := by
      show _ = _
      unfold digB
      rw [if_neg h, UInt8.toNat_ofNat']
      omega
    go_enter Tryd.func41, Tryd.ntmps41
    go_wp2
    go_ret
    exact ⟨ret_int HE.out.symm, rfl⟩

/-- The value of a digit, or -1. -/
def valZ (b : UInt8) : Int := match pval b with
  | some d => (d : Int)
  | none => -1
theorem refVal_any (b : UInt8) (w : World) :
    Calls Tryd.prog 51 #[.int .u8 (b.toNat : Int)] w fun e w' => e = .returned (.int .i64 (valZ b)) ∧ w = w' := by
  have hlt := b.toNat_lt
  by_cases h1 : 97 ≤ b.toNat ∧ b.toNat ≤ 122
  · have HE : Hid (valZ b = (b.toNat : Int) - 97) := by show _ = _; unfold valZ pval; rw [if_pos h1]; show ((b.toNat - 97 : Nat) : Int) = _; omega
    have d1 : decide ((97 : Int) ≤ (b.toNat : Int)) = true := decide_eq_true (by omega)
    have d2 : decide ((b.toNat : Int) ≤ 122) = true := decide_eq_true (by omega)
    go_enter Tryd.func51, Tryd.ntmps51
    go_wp2
    go_ret
    exact ⟨ret_int HE.out.symm, rfl⟩
  · by_cases h2 : 65 ≤ b.toNat ∧ b.toNat ≤ 90
    · have HE : Hid (valZ b = (b.toNat : Int) - 65) := by show _ = _; unfold valZ pval; rw [if_neg h1, if_pos h2]; show ((b.toNat - 65 : Nat) : Int) = _; omega
      have d1 : decide ((97 : Int) ≤ (b.toNat : Int)) = false := decide_eq_false (by omega)
      have d2 : decide ((65 : Int) ≤ (b.toNat : Int)) = true := decide_eq_true (by omega)
      have d3 : decide ((b.toNat : Int) ≤ 90) = true := decide_eq_true (by omega)
      go_enter Tryd.func51, Tryd.ntmps51
      go_wp2
      go_ret
      exact ⟨ret_int HE.out.symm, rfl⟩
    · by_cases h3 : 48 ≤ b.toNat ∧ b.toNat ≤ 57
      · have HE : Hid (valZ b = (b.toNat : Int) - 48 + 26) := by show _ = _; unfold valZ pval; rw [if_neg h1, if_neg h2, if_pos h3]; show ((b.toNat - 22 : Nat) : Int) = _; omega
        have d1 : decide ((97 : Int) ≤ (b.toNat : Int)) = false := decide_eq_false (by omega)
        have d2 : decide ((65 : Int) ≤ (b.toNat : Int)) = false := decide_eq_false (by omega)
        have d3 : decide ((48 : Int) ≤ (b.toNat : Int)) = true := decide_eq_true (by omega)
        have d4 : decide ((b.toNat : Int) ≤ 57) = true := decide_eq_true (by omega)
        go_enter Tryd.func51, Tryd.ntmps51
        go_wp2
        go_ret
        exact ⟨ret_int HE.out.symm, rfl⟩
      · have HE : Hid (valZ b = -1) := by show _ = _; unfold valZ pval; rw [if_neg h1, if_neg h2, if_neg h3]
        have c1 : (decide ((97 : Int) ≤ (b.toNat : Int)) && decide ((b.toNat : Int) ≤ 122)) = false := by rw [Bool.and_eq_false_iff, decide_eq_false_iff_not, decide_eq_false_iff_not]; omega
        have c2 : (decide ((65 : Int) ≤ (b.toNat : Int)) && decide ((b.toNat : Int) ≤ 90)) = false := by rw [Bool.and_eq_false_iff, decide_eq_false_iff_not, decide_eq_false_iff_not]; omega
        have c3 : (decide ((48 : Int) ≤ (b.toNat : Int)) && decide ((b.toNat : Int) ≤ 57)) = false := by rw [Bool.and_eq_false_iff, decide_eq_false_iff_not, decide_eq_false_iff_not]; omega
        go_enter Tryd.func51, Tryd.ntmps51
        go_wp2
        all_goals (go_ret; exact ⟨ret_int HE.out.symm, rfl⟩)

set_option maxHeartbeats 800000 in
theorem refAdp_any (delta n : Nat) (first : Bool) (hd : delta ≤ 2199023255552) (hn : 1 ≤ n) (hn2 : n ≤ 1000000000) (w : World) :
    Calls Tryd.prog 42 #[.int .i64 (delta : Int), .int .i64 (n : Int), .bool first] w fun e w' => e = .returned (.int .i64 (adp delta n first : Nat)) ∧ w = w' := by
  obtain ⟨R, hR⟩ : ∃ R, R = adp delta n first := ⟨_, rfl⟩
  rw [← hR]
  have e700 : Int.tdiv (delta : Int) 700 = ((delta / 700 : Nat) : Int) := by rw [Int.tdiv_eq_ediv_of_nonneg (by omega)]; omega
  have e2 : Int.tdiv (delta : Int) 2 = ((delta / 2 : Nat) : Int) := by rw [Int.tdiv_eq_ediv_of_nonneg (by omega)]; omega
  have key : ∀ d0 : Nat, d0 ≤ 1099511627776 → Int.tdiv (d0 : Int) (n : Int) = ((d0 / n : Nat) : Int) := by
    intro d0 _
    rw [Int.tdiv_eq_ediv_of_nonneg (by omega)]
    exact (Int.natCast_ediv d0 n).symm
  have hn0 : ¬ (n : Int) = 0 := by omega
  cases first with
  | true =>
    obtain ⟨d0, hd0⟩ : ∃ d0 : Nat, d0 = delta / 700 := ⟨_, rfl⟩
    have hb0 : d0 ≤ 1099511627776 := by omega
    have k0 := key d0 hb0
    obtain ⟨q, hq⟩ : ∃ q : Nat, q = d0 / n := ⟨_, rfl⟩
    have hqb : q ≤ d0 := by rw [hq]; exact Nat.div_le_self _ _
    rw [← hq] at k0
    rw [← hd0] at e700
    have HA : Hid (adpGo (d0 + q) 0 = R) := Lib.hid (by rw [hR, hq, hd0]; rfl)
    clear key hq hd0 hR e2
    go_enter Tryd.func42, Tryd.ntmps42
    go_wp2
    go_loop [0, 7] (fun d k => ∃ D K : Nat, d = .int .i64 D ∧ k = .int .i64 K ∧ K + D ≤ 4398046511104 ∧ Hid (adpGo D K = R)) (fun d _ => (intOf d).toNat)
    case atStart => exact ⟨d0 + q, 0, by go_num, rfl, by omega, HA⟩
    case round =>
      obtain ⟨D, K, rfl, rfl, hDK, HG⟩ := hrel
      by_cases h455 : 455 < D
      · have hc : decide ((455 : Int) < (D : Int)) = true := decide_eq_true (by omega)
        have h35 : Int.tdiv (D : Int) 35 = ((D / 35 : Nat) : Int) := by rw [Int.tdiv_eq_ediv_of_nonneg (by omega)]; omega
        have HG2 : Hid (adpGo (D / 35) (K + 36) = R) := by
          show _ = _
          rw [← HG.out, adpGo.eq_def D K, if_pos h455]
        go_wp2
        go_round
        case rel => exact ⟨D / 35, K + 36, by go_num, by go_num, by omega, HG2⟩
        case measure => simp [intOf]; omega
      · have hc : decide ((455 : Int) < (D : Int)) = false := decide_eq_false (by omega)
        have h38 : Int.tdiv (36 * (D : Int)) ((D : Int) + 38) = ((36 * D / (D + 38) : Nat) : Int) := by
          rw [Int.tdiv_eq_ediv_of_nonneg (by omega)]
          exact (Int.natCast_ediv (36 * D) (D + 38)).symm
        have hq2 : 36 * D / (D + 38) ≤ 36 := by
          refine Nat.div_le_of_le_mul ?_
          rw [Nat.add_mul]
          omega
        have hne : ¬ (D : Int) + 38 = 0 := by omega
        have HG2 : Hid (((K + 36 * D / (D + 38) : Nat) : Int) = (R : Int)) := by
          show _ = _
          rw [← HG.out, adpGo.eq_def D K, if_neg h455]
        obtain ⟨z, hz⟩ : ∃ z, z = 36 * D / (D + 38) := ⟨_, rfl⟩
        rw [← hz] at h38 hq2 HG2
        clear hz
        go_wp2
        go_ret
        exact ⟨ret_int (by rw [← HG2.out]; omega), rfl⟩
  | false =>
    obtain ⟨d0, hd0⟩ : ∃ d0 : Nat, d0 = delta / 2 := ⟨_, rfl⟩
    have hb0 : d0 ≤ 1099511627776 := by omega
    have k0 := key d0 hb0
    obtain ⟨q, hq⟩ : ∃ q : Nat, q = d0 / n := ⟨_, rfl⟩
    have hqb : q ≤ d0 := by rw [hq]; exact Nat.div_le_self _ _
    rw [← hq] at k0
    rw [← hd0] at e2
    have HA : Hid (adpGo (d0 + q) 0 = R) := Lib.hid (by rw [hR, hq, hd0]; rfl)
    clear key hq hd0 hR e700
    go_enter Tryd.func42, Tryd.ntmps42
    go_wp2
    go_loop [0, 7] (fun d k => ∃ D K : Nat, d = .int .i64 D ∧ k = .int .i64 K ∧ K + D ≤ 4398046511104 ∧ Hid (adpGo D K = R)) (fun d _ => (intOf d).toNat)
    case atStart => exact ⟨d0 + q, 0, by go_num, rfl, by omega, HA⟩
    case round =>
      obtain ⟨D, K, rfl, rfl, hDK, HG⟩ := hrel
      by_cases h455 : 455 < D
      · have hc : decide ((455 : Int) < (D : Int)) = true := decide_eq_true (by omega)
        have h35 : Int.tdiv (D : Int) 35 = ((D / 35 : Nat) : Int) := by rw [Int.tdiv_eq_ediv_of_nonneg (by omega)]; omega
        have HG2 : Hid (adpGo (D / 35) (K + 36) = R) := by
          show _ = _
          rw [← HG.out, adpGo.eq_def D K, if_pos h455]
        go_wp2
        go_round
        case rel => exact ⟨D / 35, K + 36, by go_num, by go_num, by omega, HG2⟩
        case measure => simp [intOf]; omega
      · have hc : decide ((455 : Int) < (D : Int)) = false := decide_eq_false (by omega)
        have h38 : Int.tdiv (36 * (D : Int)) ((D : Int) + 38) = ((36 * D / (D + 38) : Nat) : Int) := by
          rw [Int.tdiv_eq_ediv_of_nonneg (by omega)]
          exact (Int.natCast_ediv (36 * D) (D + 38)).symm
        have hq2 : 36 * D / (D + 38) ≤ 36 := by
          refine Nat.div_le_of_le_mul ?_
          rw [Nat.add_mul]
          omega
        have hne : ¬ (D : Int) + 38 = 0 := by omega
        have HG2 : Hid (((K + 36 * D / (D + 38) : Nat) : Int) = (R : Int)) := by
          show _ = _
          rw [← HG.out, adpGo.eq_def D K, if_neg h455]
        obtain ⟨z, hz⟩ : ∃ z, z = 36 * D / (D + 38) := ⟨_, rfl⟩
        rw [← hz] at h38 hq2 HG2
        clear hz
        go_wp2
        go_ret
        exact ⟨ret_int (by rw [← HG2.out]; omega), rfl⟩

end Go.Proofs.YtoieapdfpbcfpaaDoor
