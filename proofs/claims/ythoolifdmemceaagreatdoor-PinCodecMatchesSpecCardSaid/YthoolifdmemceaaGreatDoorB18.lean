/-
The reference's Valid of layer 13.
Contracts of the small functions of package punycode: isPoint, digitByte, digitOf, adapted.
Contracts of package punycode's closure of thresholds, and of the functions that call it: thresholds, appendNumber, addNumber.
-/
import Derived.Test.YthoolifdmemceaaGreatDoorB17
import Derived.Test.YthoolifdmemceaaGreatDoorB11
import Derived.Test.YthoolifdmemceaaGreatDoorB12
import Derived.Test.YthoolifdmemceaaGreatDoorB13
import Derived.OneCell
namespace Go.Proofs.YthoolifdmemceaaGreatDoor
section
open Go.RowKit

set_option maxRecDepth 20000 in
set_option maxHeartbeats 2000000 in
theorem refLab_any (s : ByteArray) (w : World) (hs : s.size ≤ 1000000000) :
    Calls Tryz.prog 31 #[.string s] w fun e w' => e = .returned (.bool (labL (ls s))) ∧ Below w.heap.size w w' := by
  by_cases h0 : s.size = 0
  · have hlab := Lib.hid (lab_zero h0)
    have he : s.toList.isEmpty = true := by rw [toList_ls]; exact List.isEmpty_iff.2 (List.eq_nil_of_length_eq_zero (by rw [ls_length]; exact h0))
    go_enter Tryz.func31, Tryz.ntmps31
    go_wp2
    go_ret
    exact ⟨ret_bool hlab.out.symm, Below.refl _ _⟩
  · have he : s.toList.isEmpty = false := by rw [toList_ls]; exact ne_empty h0
    by_cases h1 : 63 < s.size
    · have hlab := Lib.hid (lab_long h1)
      have hd : decide ((63 : Int) < (s.size : Int)) = true := decide_eq_true (by omega)
      go_enter Tryz.func31, Tryz.ntmps31
      go_wp2
      go_ret
      exact ⟨ret_bool hlab.out.symm, Below.refl _ _⟩
    · have hd : decide ((63 : Int) < (s.size : Int)) = false := decide_eq_false (by omega)
      have hz0 : (0 : Int) < (s.size : Int) := by omega
      have hf0 : 0 < s.size := by omega
      obtain ⟨y0, hy0⟩ : ∃ y0 : Nat, y0 = (s[0]'hf0).toNat := ⟨_, rfl⟩
      obtain ⟨y1, hy1⟩ : ∃ y1 : Nat, y1 = (s[s.size - 1]'(by omega)).toNat := ⟨_, rfl⟩
      have hends := Lib.hid (lab_ends hf0 hy0 hy1)
      by_cases h2 : y0 = 45
      · have hlab := Lib.hid (hends.out.1 (.inl h2))
        have e0 : (((s[0]'hf0).toNat : Int) == 45) = true := by rw [← hy0, h2]; rfl
        clear hy0 hy1
        go_enter Tryz.func31, Tryz.ntmps31
        go_wp2
        go_ret
        exact ⟨ret_bool hlab.out.symm, Below.refl _ _⟩
      · have e0 : (((s[0]'hf0).toNat : Int) == 45) = false := by rw [← hy0]; simp; omega
        have hsub : (s.size : Int) - 1 = ((s.size - 1 : Nat) : Int) := by omega
        by_cases h3 : y1 = 45
        · have hlab := Lib.hid (hends.out.1 (.inr h3))
          have e1 : (((s[s.size - 1]'(by omega)).toNat : Int) == 45) = true := by rw [← hy1, h3]; rfl
          clear hy0 hy1
          go_enter Tryz.func31, Tryz.ntmps31
          go_wp2
          go_ret
          exact ⟨ret_bool hlab.out.symm, Below.refl _ _⟩
        · have hlab := Lib.hid (hends.out.2 ⟨h2, h3, by omega⟩)
          have e1 : (((s[s.size - 1]'(by omega)).toNat : Int) == 45) = false := by rw [← hy1]; simp; omega
          clear hy0 hy1 hends
          rw [hlab.out]
          have HS : Hid (s.size ≤ 63) := by show _ ≤ _; omega
          obtain ⟨R, hR⟩ : ∃ R, R = restLab (ls s) := ⟨_, rfl⟩
          have HR := Lib.hid hR
          rw [← hR]
          clear hR hlab
          go_enter Tryz.func31, Tryz.ntmps31
          go_wp2
          clear e0 e1 h2 h3 hsub he
          go_loop [3] (fun i => ∃ k : Nat, k ≤ s.size ∧ i = .int .i64 k ∧ Hid (okK (ls s) k = true)) (fun i => s.size - (intOf i).toNat)
          case atStart => exact ⟨0, Nat.zero_le _, rfl, rfl⟩
          case round =>
            obtain ⟨k, hk, rfl, HK⟩ := hrel
            have hs63 : s.size ≤ 63 := HS.out
            by_cases hlt : k < s.size
            · have hkl : k < (ls s).length := by rw [ls_length]; exact hlt
              have HG := Lib.hid (okK_succ (ls s) k hkl)
              have HB : Hid (okN (ls s)[k].toNat = false → R = false) := fun hb => by rw [HR.out]; exact rest_bad k hkl hb
              rw [ls_getE s k hlt hkl] at HG HB
              have hkd : decide ((k : Int) < (s.size : Int)) = true := decide_eq_true (by omega)
              have hyl := byte_lt s[k]
              go_wp2
              all_goals
                first
                | (go_ret
                   have hno : okN s[k].toNat = false := by
                     rw [okN_no]
                     first
                     | omega
                     | (have h := ‹(_ ∧ _) ∧ _›; simp at h; first | done | omega)
                     | (have h := ‹_ ∧ _›; simp at h; first | done | omega)
                   exact ⟨ret_bool (HB.out hno).symm, Below.refl _ _⟩)
                | (have hyes : okN s[k].toNat = true := by
                     rw [okN_yes]
                     first
                     | omega
                     | (have h := ‹(_ ∨ _) ∨ _›; simp at h; first | done | omega)
                     | (have h := ‹_ ∨ _›; simp at h; first | done | omega)
                   have HK2 : Hid (okK (ls s) (k + 1) = true) := by show _ = _; rw [HG.out, HK.out, hyes]; rfl
                   clear hyes
                   go_round
                   case rel => exact ⟨k + 1, by omega, by go_num, HK2⟩
                   case measure => simp [intOf]; omega)
            · obtain rfl : k = s.size := by omega
              have hkd : decide ((s.size : Int) < (s.size : Int)) = false := by simp
              have HR2 : Hid (R = (decide ((ls s).take 4 ≠ xnL) || propL ((ls s).drop 4))) := by
                show _ = _
                rw [HR.out]
                exact rest_all (by rw [ls_length]; exact HK.out)
              by_cases h4 : s.size < 4
              · have hd4 : decide ((s.size : Int) < 4) = true := decide_eq_true (by omega)
                have HR3 : Hid (R = true) := by show _ = _; rw [HR2.out, xn_short (by rw [ls_length]; exact h4)]; rfl
                go_wp2
                go_ret
                exact ⟨ret_bool HR3.out.symm, Below.refl _ _⟩
              · have hd4 : decide ((s.size : Int) < 4) = false := decide_eq_false (by omega)
                have h4z : (4 : Int) ≤ (s.size : Int) := by omega
                have hx : (s.extract 0 4).toList = (ls s).take 4 := by rw [toList_ls, ls_extract, List.drop_zero]
                by_cases hxn : (ls s).take 4 = xnL
                · have q1 : ((s.extract 0 4).toList != [120, 110, 45, 45]) = false := by rw [hx, hxn]; rfl
                  have q2 : ((s.extract 0 4).toList == [120, 110, 45, 45]) = true := by rw [hx, hxn]; rfl
                  have c1 := refProper_any (s.extract 4 s.size) w
                  have hr : Hid (R = propL (ls (s.extract 4 s.size))) := by
                    show _ = _
                    rw [HR2.out, decide_eq_false (by simp [hxn]), Bool.false_or, ls_extract, List.take_of_length_le (by rw [List.length_drop, ls_length]; exact Nat.le_refl _)]
                  rw [← hr.out] at c1
                  clear hx hxn
                  go_wp2_with (go_at_call 41; refine c1.mono ?_; rintro e w' ⟨rfl, hb'⟩)
                  go_ret
                  exact ⟨rfl, hb'⟩
                · have q1 : ((s.extract 0 4).toList != [120, 110, 45, 45]) = true := by rw [hx, bne_iff_ne]; exact hxn
                  have q2 : ((s.extract 0 4).toList == [120, 110, 45, 45]) = false := by rw [hx]; exact beq_false_of_ne hxn
                  have HR3 : Hid (R = true) := by show _ = _; rw [HR2.out, decide_eq_true hxn]; rfl
                  clear hx hxn
                  go_wp2
                  go_ret
                  exact ⟨ret_bool HR3.out.symm, Below.refl _ _⟩
theorem xn_size {s : ByteArray} (h : (ls s).take 4 = xnL) : 4 ≤ s.size := by
  have := congrArg List.length h
  rw [List.length_take, ls_length] at this
  unfold xnL at this
  simp at this
  omega
theorem ls_from (s : ByteArray) (k : Nat) : ls (s.extract k s.size) = (ls s).drop k := by
  rw [ls_extract, List.take_of_length_le (by rw [List.length_drop, ls_length]; exact Nat.le_refl _)]
theorem toU_no {l : List UInt8} (h : labL l = false) : toU l = (14, []) := by unfold toU; rw [if_neg (by rw [h]; simp)]
theorem toU_xn {l : List UInt8} {p : List Nat} (h : labL l = true) (hx : l.take 4 = xnL) (hd : decL (l.drop 4) = .ok p) : toU l = (0, txtL p) := by
  unfold toU toUOut toUOut.puV'
  rw [if_pos h, if_pos hx, hd]
theorem toU_self {l : List UInt8} (h : labL l = true) (hx : ¬ l.take 4 = xnL) : toU l = (0, l) := by
  unfold toU toUOut
  rw [if_pos h, if_neg hx]
end

section
open Go.RowKit

theorem isPt_any (z : Int) (w : World) :
    Calls Tryz.prog 90 #[.int .i64 z] w fun e w' => e = .returned (.bool (ptZ z)) ∧ w = w' := by
  by_cases h0 : 0 ≤ z
  · by_cases h1 : z ≤ 1114111
    · by_cases h2 : z < 55296
      · have HE : Hid (ptZ z = true) := by show _ = _; unfold ptZ ptN; simp; omega
        have d0 : decide ((0 : Int) ≤ z) = true := decide_eq_true h0
        have d1 : decide (z ≤ 1114111) = true := decide_eq_true h1
        have d2 : decide (z < 55296) = true := decide_eq_true h2
        go_enter Tryz.func90, Tryz.ntmps90
        go_wp2
        go_ret
        exact ⟨ret_bool HE.out.symm, rfl⟩
      · by_cases h3 : 57343 < z
        · have HE : Hid (ptZ z = true) := by show _ = _; unfold ptZ ptN; simp; omega
          have d0 : decide ((0 : Int) ≤ z) = true := decide_eq_true h0
          have d1 : decide (z ≤ 1114111) = true := decide_eq_true h1
          have d2 : decide (z < 55296) = false := decide_eq_false h2
          have d3 : decide ((57343 : Int) < z) = true := decide_eq_true h3
          go_enter Tryz.func90, Tryz.ntmps90
          go_wp2
          go_ret
          exact ⟨ret_bool HE.out.symm, rfl⟩
        · have HE : Hid (ptZ z = false) := by show _ = _; unfold ptZ ptN; simp; omega
          have d0 : decide ((0 : Int) ≤ z) = true := decide_eq_true h0
          have d1 : decide (z ≤ 1114111) = true := decide_eq_true h1
          have d2 : decide (z < 55296) = false := decide_eq_false h2
          have d3 : decide ((57343 : Int) < z) = false := decide_eq_false h3
          go_enter Tryz.func90, Tryz.ntmps90
          go_wp2
          go_ret
          exact ⟨ret_bool HE.out.symm, rfl⟩
    · have HE : Hid (ptZ z = false) := by show _ = _; unfold ptZ ptN; simp; omega
      have d0 : decide ((0 : Int) ≤ z) = true := decide_eq_true h0
      have d1 : decide (z ≤ 1114111) = false := decide_eq_false h1
      go_enter Tryz.func90, Tryz.ntmps90
      go_wp2
      go_ret
      exact ⟨ret_bool HE.out.symm, rfl⟩
  · have HE : Hid (ptZ z = false) := by show _ = _; unfold ptZ; simp; omega
    have d0 : decide ((0 : Int) ≤ z) = false := decide_eq_false h0
    go_enter Tryz.func90, Tryz.ntmps90
    go_wp2
    go_ret
    exact ⟨ret_bool HE.out.symm, rfl⟩

theorem digB_any (d : Nat) (hd : d < 36) (w : World) :
    Calls Tryz.prog 102 #[.int .i64 (d : Int)] w fun e w' => e = .returned (.int .u8 ((digB d).toNat : Int)) ∧ w = w' := by
  by_cases h : d < 26
  · have d1 : decide ((d : Int) < 26) = true := decide_eq_true (by omega)
    have HE : Hid (((digB d).toNat : Int) = 97 + (d : Int)) := by
      show _ = _
      unfold digB
      rw [if_pos h, UInt8.toNat_ofNat']
      omega
    go_enter Tryz.func102, Tryz.ntmps102
    go_wp2
    go_ret
    exact ⟨ret_int HE.out.symm, rfl⟩
  · have d1 : decide ((d : Int) < 26) = false := decide_eq_false (by omega)
    have HE : Hid (((digB d).toNat : Int) = 48 + ((d : Int) - 26)) := by
      show _ = _
      unfold digB
      rw [if_neg h, UInt8.toNat_ofNat']
      omega
    go_enter Tryz.func102, Tryz.ntmps102
    go_wp2
    go_ret
    exact ⟨ret_int HE.out.symm, rfl⟩

/-- The value of a digit, or 36. -/
def dvN (b : UInt8) : Nat := match pval b with
  | some d => d
  | none => 36
theorem dvN_some {b : UInt8} {d : Nat} (h : pval b = some d) : dvN b = d := by unfold dvN; rw [h]
theorem dvN_none {b : UInt8} (h : pval b = none) : dvN b = 36 := by unfold dvN; rw [h]
theorem digOf_any (b : UInt8) (w : World) :
    Calls Tryz.prog 98 #[.int .u8 (b.toNat : Int)] w fun e w' => e = .returned (.int .i64 (dvN b : Nat)) ∧ w = w' := by
  have hlt := b.toNat_lt
  by_cases h1 : 97 ≤ b.toNat ∧ b.toNat ≤ 122
  · have HE : Hid (((dvN b : Nat) : Int) = (b.toNat : Int) - 97) := by show _ = _; unfold dvN pval; rw [if_pos h1]; show ((b.toNat - 97 : Nat) : Int) = _; omega
    have d1 : decide ((97 : Int) ≤ (b.toNat : Int)) = true := decide_eq_true (by omega)
    have d2 : decide ((b.toNat : Int) ≤ 122) = true := decide_eq_true (by omega)
    go_enter Tryz.func98, Tryz.ntmps98
    go_wp2
    go_ret
    exact ⟨ret_int HE.out.symm, rfl⟩
  · by_cases h2 : 65 ≤ b.toNat ∧ b.toNat ≤ 90
    · have HE : Hid (((dvN b : Nat) : Int) = (b.toNat : Int) - 65) := by show _ = _; unfold dvN pval; rw [if_neg h1, if_pos h2]; show ((b.toNat - 65 : Nat) : Int) = _; omega
      have d1 : decide ((97 : Int) ≤ (b.toNat : Int)) = false := decide_eq_false (by omega)
      have d2 : decide ((65 : Int) ≤ (b.toNat : Int)) = true := decide_eq_true (by omega)
      have d3 : decide ((b.toNat : Int) ≤ 90) = true := decide_eq_true (by omega)
      go_enter Tryz.func98, Tryz.ntmps98
      go_wp2
      go_ret
      exact ⟨ret_int HE.out.symm, rfl⟩
    · by_cases h3 : 48 ≤ b.toNat ∧ b.toNat ≤ 57
      · have HE : Hid (((dvN b : Nat) : Int) = 26 + ((b.toNat : Int) - 48)) := by show _ = _; unfold dvN pval; rw [if_neg h1, if_neg h2, if_pos h3]; show ((b.toNat - 22 : Nat) : Int) = _; omega
        have d1 : decide ((97 : Int) ≤ (b.toNat : Int)) = false := decide_eq_false (by omega)
        have d2 : decide ((65 : Int) ≤ (b.toNat : Int)) = false := decide_eq_false (by omega)
        have d3 : decide ((48 : Int) ≤ (b.toNat : Int)) = true := decide_eq_true (by omega)
        have d4 : decide ((b.toNat : Int) ≤ 57) = true := decide_eq_true (by omega)
        go_enter Tryz.func98, Tryz.ntmps98
        go_wp2
        go_ret
        exact ⟨ret_int HE.out.symm, rfl⟩
      · have HE : Hid (((dvN b : Nat) : Int) = 36) := by show _ = _; unfold dvN pval; rw [if_neg h1, if_neg h2, if_neg h3]; rfl
        have c1 : (decide ((97 : Int) ≤ (b.toNat : Int)) && decide ((b.toNat : Int) ≤ 122)) = false := by rw [Bool.and_eq_false_iff, decide_eq_false_iff_not, decide_eq_false_iff_not]; omega
        have c2 : (decide ((65 : Int) ≤ (b.toNat : Int)) && decide ((b.toNat : Int) ≤ 90)) = false := by rw [Bool.and_eq_false_iff, decide_eq_false_iff_not, decide_eq_false_iff_not]; omega
        have c3 : (decide ((48 : Int) ≤ (b.toNat : Int)) && decide ((b.toNat : Int) ≤ 57)) = false := by rw [Bool.and_eq_false_iff, decide_eq_false_iff_not, decide_eq_false_iff_not]; omega
        go_enter Tryz.func98, Tryz.ntmps98
        go_wp2
        all_goals (go_ret; exact ⟨ret_int HE.out.symm, rfl⟩)

set_option maxHeartbeats 800000 in
theorem adp_any (delta n : Nat) (first : Bool) (hd : delta ≤ 2199023255552) (hn : 1 ≤ n) (hn2 : n ≤ 1000000000) (w : World) :
    Calls Tryz.prog 89 #[.int .i64 (delta : Int), .int .i64 (n : Int), .bool first] w fun e w' => e = .returned (.int .i64 (adp delta n first : Nat)) ∧ w = w' := by
  obtain ⟨R, hR⟩ : ∃ R, R = adp delta n first := ⟨_, rfl⟩
  rw [← hR]
  have e700 : Int.tdiv (delta : Int) 700 = ((delta / 700 : Nat) : Int) := by rw [Int.tdiv_eq_ediv_of_nonneg (by omega)]; omega
  have e2 : Int.tdiv (delta : Int) 2 = ((delta / 2 : Nat) : Int) := by rw [Int.tdiv_eq_ediv_of_nonneg (by omega)]; omega
  have key : ∀ d0 : Nat, d0 ≤ 1099511627776 → Int.tdiv (d0 : Int) (n : Int) = ((d0 / n : Nat) : Int) := by
    intro d0 _
    rw [Int.tdiv_eq_ediv_of_nonneg (by omega)]
    exact (Int.natCast_ediv d0 n).symm
  have hn0 : ¬ (n : Int) = 0 := by omega
  cases first with
  | true =>
    obtain ⟨d0, hd0⟩ : ∃ d0 : Nat, d0 = delta / 700 := ⟨_, rfl⟩
    have hb0 : d0 ≤ 1099511627776 := by omega
    have k0 := key d0 hb0
    obtain ⟨q, hq⟩ : ∃ q : Nat, q = d0 / n := ⟨_, rfl⟩
    have hqb : q ≤ d0 := by rw [hq]; exact Nat.div_le_self _ _
    rw [← hq] at k0
    rw [← hd0] at e700
    have HA : Hid (adpGo (d0 + q) 0 = R) := Lib.hid (by rw [hR, hq, hd0]; rfl)
    clear key hq hd0 hR e2
    go_enter Tryz.func89, Tryz.ntmps89
    go_wp2
    go_loop [0, 7] (fun d k => ∃ D K : Nat, d = .int .i64 D ∧ k = .int .i64 K ∧ K + D ≤ 4398046511104 ∧ Hid (adpGo D K = R)) (fun d _ => (intOf d).toNat)
    case atStart => exact ⟨d0 + q, 0, by go_num, rfl, by omega, HA⟩
    case round =>
      obtain ⟨D, K, rfl, rfl, hDK, HG⟩ := hrel
      by_cases h455 : 455 < D
      · have hc : decide ((455 : Int) < (D : Int)) = true := decide_eq_true (by omega)
        have h35 : Int.tdiv (D : Int) 35 = ((D / 35 : Nat) : Int) := by rw [Int.tdiv_eq_ediv_of_nonneg (by omega)]; omega
        have HG2 : Hid (adpGo (D / 35) (K + 36) = R) := by
          show _ = _
          rw [← HG.out, adpGo.eq_def D K, if_pos h455]
        go_wp2
        go_round
        case rel => exact ⟨D / 35, K + 36, by go_num, by go_num, by omega, HG2⟩
        case measure => simp [intOf]; omega
      · have hc : decide ((455 : Int) < (D : Int)) = false := decide_eq_false (by omega)
        have h38 : Int.tdiv (36 * (D : Int)) ((D : Int) + 38) = ((36 * D / (D + 38) : Nat) : Int) := by
          rw [Int.tdiv_eq_ediv_of_nonneg (by omega)]
          exact (Int.natCast_ediv (36 * D) (D + 38)).symm
        have hq2 : 36 * D / (D + 38) ≤ 36 := by
          refine Nat.div_le_of_le_mul ?_
          rw [Nat.add_mul]
          omega
        have hne : ¬ (D : Int) + 38 = 0 := by omega
        have HG2 : Hid (((K + 36 * D / (D + 38) : Nat) : Int) = (R : Int)) := by
          show _ = _
          rw [← HG.out, adpGo.eq_def D K, if_neg h455]
        obtain ⟨z, hz⟩ : ∃ z, z = 36 * D / (D + 38) := ⟨_, rfl⟩
        rw [← hz] at h38 hq2 HG2
        clear hz
        go_wp2
        go_ret
        exact ⟨ret_int (by rw [← HG2.out]; omega), rfl⟩
  | false =>
    obtain ⟨d0, hd0⟩ : ∃ d0 : Nat, d0 = delta / 2 := ⟨_, rfl⟩
    have hb0 : d0 ≤ 1099511627776 := by omega
    have k0 := key d0 hb0
    obtain ⟨q, hq⟩ : ∃ q : Nat, q = d0 / n := ⟨_, rfl⟩
    have hqb : q ≤ d0 := by rw [hq]; exact Nat.div_le_self _ _
    rw [← hq] at k0
    rw [← hd0] at e2
    have HA : Hid (adpGo (d0 + q) 0 = R) := Lib.hid (by rw [hR, hq, hd0]; rfl)
    clear key hq hd0 hR e700
    go_enter Tryz.func89, Tryz.ntmps89
    go_wp2
    go_loop [0, 7] (fun d k => ∃ D K : Nat, d = .int .i64 D ∧ k = .int .i64 K ∧ K + D ≤ 4398046511104 ∧ Hid (adpGo D K = R)) (fun d _ => (intOf d).toNat)
    case atStart => exact ⟨d0 + q, 0, by go_num, rfl, by omega, HA⟩
    case round =>
      obtain ⟨D, K, rfl, rfl, hDK, HG⟩ := hrel
      by_cases h455 : 455 < D
      · have hc : decide ((455 : Int) < (D : Int)) = true := decide_eq_true (by omega)
        have h35 : Int.tdiv (D : Int) 35 = ((D / 35 : Nat) : Int) := by rw [Int.tdiv_eq_ediv_of_nonneg (by omega)]; omega
        have HG2 : Hid (adpGo (D / 35) (K + 36) = R) := by
          show _ = _
          rw [← HG.out, adpGo.eq_def D K, if_pos h455]
        go_wp2
        go_round
        case rel => exact ⟨D / 35, K + 36, by go_num, by go_num, by omega, HG2⟩
        case measure => simp [intOf]; omega
      · have hc : decide ((455 : Int) < (D : Int)) = false := decide_eq_false (by omega)
        have h38 : Int.tdiv (36 * (D : Int)) ((D : Int) + 38) = ((36 * D / (D + 38) : Nat) : Int) := by
          rw [Int.tdiv_eq_ediv_of_nonneg (by omega)]
          exact (Int.natCast_ediv (36 * D) (D + 38)).symm
        have hq2 : 36 * D / (D + 38) ≤ 36 := by
          refine Nat.div_le_of_le_mul ?_
          rw [Nat.add_mul]
          omega
        have hne : ¬ (D : Int) + 38 = 0 := by omega
        have HG2 : Hid (((K + 36 * D / (D + 38) : Nat) : Int) = (R : Int)) := by
          show _ = _
          rw [← HG.out, adpGo.eq_def D K, if_neg h455]
        obtain ⟨z, hz⟩ : ∃ z, z = 36 * D / (D + 38) := ⟨_, rfl⟩
        rw [← hz] at h38 hq2 HG2
        clear hz
        go_wp2
        go_ret
        exact ⟨ret_int (by rw [← HG2.out]; omega), rfl⟩
end

section
open Go.RowKit

/-- The two variables of a closure of thresholds: K calls of it are done. -/
structure Clo (w : World) (B bk bb K bias : Nat) : Prop where
  lk : B ≤ bk
  ne : bk ≠ bb
  hk : w.heap[bk]? = some (.cells #[.int .i64 ((36 * K : Nat) : Int)] 3 (0, 0))
  hb : w.heap[bb]? = some (.cells #[.int .i64 (bias : Int)] 3 (0, 0))
theorem Clo.mono {w : World} {B B' bk bb K bias : Nat} (h : Clo w B bk bb K bias) (hB : B' ≤ B) : Clo w B' bk bb K bias := ⟨Nat.le_trans hB h.lk, h.ne, h.hk, h.hb⟩
theorem Clo.kept {w w' : World} {B bk bb K bias : Nat} {row : Option Nat} (h : Clo w B bk bb K bias) (hg : w.grownBy w' row) (h1 : some bk ≠ row) (h2 : some bb ≠ row) : Clo w' B bk bb K bias :=
  ⟨h.lk, h.ne, (hg.block bk (lt_of_block h.hk) h1).trans h.hk, (hg.block bb (lt_of_block h.hb) h2).trans h.hb⟩
theorem own_no_int {w : World} {base b n : Nat} {v u : Value} {xs : List Value} (h : w.ownsRow base 5 1 v n xs) (hb : w.heap[b]? = some (.cells #[u] 3 (0, 0))) : some b ≠ v.ownBlock := by
  rcases h.2 with ⟨rfl, _⟩ | ⟨g, cap, cur, rfl, _, hg, _⟩
  · simp [Value.ownBlock]
  · intro he
    simp [Value.ownBlock] at he
    subst he
    rw [hb] at hg
    simp at hg
theorem grown_setCell (w : World) (b : Nat) (u : Value) : w.grownBy (w.setCell ⟨b, 0, none⟩ u) (some b) :=
  ⟨rfl, rfl, rfl, by simp [World.setCell], fun k _ hne => Below.heap_setCell _ _ _ _ (fun e => hne (by rw [e]))⟩

set_option maxRecDepth 20000 in
theorem thr_make (bias : Nat) (_hb : bias ≤ 1000000) (w : World) :
    Calls Tryz.prog 88 #[.int .i64 (bias : Int)] w fun e w' => (∃ bk bb, e = .returned (.func (.func 99) #[] #[.pointer (some ⟨bk, 0, none⟩), .pointer (some ⟨bb, 0, none⟩)]) ∧ Clo w' w.heap.size bk bb 0 bias) ∧ Below w.heap.size w w' := by
  have hmf : ∀ (fn : Fn) (first cap : Array Value) (w : World), (Instr.makeFunc fn first cap).run Tryz.prog w = .ok (.func fn first cap) w := fun _ _ _ _ => rfl
  go_enter Tryz.func88, Tryz.ntmps88
  go_wp2
  go_ret
  refine ⟨⟨_, _, rfl, ⟨by omega, by omega, ?_, ?_⟩⟩, ((Below.refl _ _).alloc (Nat.le_refl _) _).alloc (by simp) _⟩
  · show ((w.heap.push _).push _)[w.heap.size + 1]? = _
    rw [Array.getElem?_push, if_pos (by simp)]
    rfl
  · show ((w.heap.push _).push _)[w.heap.size]? = _
    rw [Array.getElem?_push, if_neg (by simp), Array.getElem?_push, if_pos rfl]

theorem thr_clo (K bias : Nat) (x : Int) (hx : max ((36 : Int) * K + 36 - bias) 1 = x) : min x 26 = ((thr K bias : Nat) : Int) := by rw [← hx]; unfold thr; omega

set_option maxRecDepth 20000 in
/-- One call of the closure. -/
theorem clo_call (w : World) (B bk bb K bias : Nat) (hc : Clo w B bk bb K bias) (hK : K ≤ 100000000) (hbi : bias ≤ 1000000) :
    Calls Tryz.prog 99 #[.pointer (some ⟨bk, 0, none⟩), .pointer (some ⟨bb, 0, none⟩)] w fun e w' => e = .returned (.int .i64 (thr K bias : Nat)) ∧ Clo w' B bk bb (K + 1) bias ∧ w.grownBy w' (some bk) := by
  have c1 := cell_of_one hc.hk
  have c2 := cell_of_one hc.hb
  have f1 := free_of_one hc.hk
  obtain ⟨z, hz⟩ : ∃ z : Int, z = ((36 * K : Nat) : Int) := ⟨_, rfl⟩
  rw [← hz] at c1
  have hne := hc.ne
  have c3 : (w.setCell ⟨bk, 0, none⟩ (.int .i64 (z + 36))).cell? ⟨bk, 0, none⟩ = some (.int .i64 (z + 36)) := cell_of_one (one_setCell hc.hk)
  have c4 : (w.setCell ⟨bk, 0, none⟩ (.int .i64 (z + 36))).cell? ⟨bb, 0, none⟩ = some (.int .i64 (bias : Int)) := by
    rw [World.cell?_of_block (w := w) (Below.heap_setCell _ _ _ _ (fun e => hne e.symm))]
    exact c2
  obtain ⟨x, hx⟩ : ∃ x, max (z + 36 - (bias : Int)) (1 : Int) = x := ⟨_, rfl⟩
  have hy : min x (26 : Int) = (thr K bias : Nat) := thr_clo K bias x (by rw [← hx, hz]; omega)
  have hmax : ∀ (W : World) ts ty, (Builtin.max_ ts ty #[.int .i64 (z + 36 - (bias : Int)), .int .i64 1]).run Tryz.prog W = .ok (.int .i64 x) W := fun W ts ty => max_two W ts ty _ _ _ hx
  have hmin : ∀ (W : World) ts ty, (Builtin.min_ ts ty #[.int .i64 x, .int .i64 26]).run Tryz.prog W = .ok (.int .i64 (thr K bias : Nat)) W := fun W ts ty => min_two W ts ty _ _ _ hy
  have hz0 : 0 ≤ z := by omega
  have hz1 : z ≤ 3600000000 := by omega
  have HC : Hid (Clo (w.setCell ⟨bk, 0, none⟩ (.int .i64 (z + 36))) B bk bb (K + 1) bias) := by
    refine Lib.hid ⟨hc.lk, hne, ?_, (Below.heap_setCell _ _ _ _ (fun e => hne e.symm)).trans hc.hb⟩
    have := one_setCell (u := .int .i64 (z + 36)) hc.hk
    rw [show ((36 * (K + 1) : Nat) : Int) = z + 36 by omega]
    exact this
  clear hx hy hz hc
  go_enter Tryz.func99, Tryz.ntmps99
  go_wp2
  go_ret
  exact ⟨rfl, HC.out, grown_setCell _ _ _⟩

set_option maxRecDepth 20000 in
set_option maxHeartbeats 2000000 in
/-- appendNumber: the digits of a number behind bytes of the caller's own. -/
theorem appN_any (B : Nat) (w0 w : World) (v : Value) (X : List UInt8) (N : Nat) (hN : N = X.length) (e bias bk bb : Nat) (hown : w.ownsRow B 5 1 v N (X.map bv)) (hc : Clo w B bk bb 0 bias) (hb : Below B w0 w) (hB : B ≤ w0.heap.size) (he : e ≤ 17179869184) (hbi : bias ≤ 1000) (hX : N ≤ 4000) :
    Calls Tryz.prog 94 #[v, .int .i64 (e : Int), .func (.func 99) #[] #[.pointer (some ⟨bk, 0, none⟩), .pointer (some ⟨bb, 0, none⟩)]] w fun e' w' => (∃ v', e' = .returned v' ∧ w'.ownsRow B 5 1 v' (N + (genV e 0 bias).length) ((X ++ (genV e 0 bias).map digB).map bv)) ∧ Below B w0 w' := by
  obtain ⟨i5, hi5, hz0, hz1, hz2⟩ := info_parts infoU8
  have hgl : (genV e 0 bias).length ≤ 12 := genV_len 11 e 0 bias (Nat.lt_of_le_of_lt he (by decide))
  have HGL := Lib.hid hgl
  have HC0 := Lib.hid hc
  clear hgl hc
  go_enter Tryz.func94, Tryz.ntmps94
  go_wp2_with fail
  go_loopw [0, 1] (fun v q wr => ∃ (Q K : Nat) (L : List Nat), q = .int .i64 Q ∧ Q ≤ 17179869184 ∧ K ≤ 12 ∧ Hid (K = L.length) ∧ Hid (L ++ genV Q K bias = genV e 0 bias) ∧
    wr.ownsRow B 5 1 v (N + K) ((X ++ L.map digB).map bv) ∧ Hid (Clo wr B bk bb K bias) ∧ Below B w0 wr) (fun _ q _ => (intOf q).toNat)
  case atStart => exact ⟨e, 0, [], rfl, he, by omega, Lib.hid rfl, Lib.hid rfl, by simpa using hown, HC0, hb⟩
  case round =>
    clear hown hb
    obtain ⟨Q, K, L, rfl, hQ, hK, HK, HLG, hown, HC, hb⟩ := hrel
    have ht := thr_range K bias
    have cT := fun h1 h2 => clo_call wr B bk bb K bias HC.out h1 h2
    replace cT := cT (by omega) (by omega)
    have hlenG : L.length + (genV Q K bias).length ≤ 12 := by have := HGL.out; rw [← HLG.out, List.length_append] at this; exact this
    have hno := own_no_int hown HC.out.hk
    have HNO := Lib.hid hno
    have HLK := Lib.hid HC.out.lk
    clear hno
    by_cases hqt : Q < thr K bias
    · have hone := genV_one hqt
      have hge : decide ((Q : Int) < ((thr K bias : Nat) : Int)) = true := decide_eq_true (by omega)
      have hgeN : decide (Q < thr K bias) = true := decide_eq_true hqt
      have cD := digB_any Q (by omega)
      have HLE : Hid (X ++ (genV e 0 bias).map digB = (X ++ L.map digB) ++ [digB Q]) := by
        show _ = _
        rw [← HLG.out, hone, List.map_append, List.append_assoc]
        rfl
      have HLL : Hid (N + (genV e 0 bias).length = N + K + 1) := by
        show _ = _
        rw [← HLG.out, hone, List.length_append, HK.out]
        rfl
      generalize thr K bias = t at *
      clear hone hlenG
      go_wp2_with fail
      refine cT.mono ?_
      rintro e' w1 ⟨rfl, hc1, hg1⟩
      have hown1 := hown.kept hg1 (.inr (fun h => HNO.out h.symm))
      have hb1 := hb.grown hg1 (Nat.le_trans hB hb.size) (fun k hk => by injection hk with hk; rw [← hk]; exact HLK.out)
      clear hg1 hown hb hc1
      go_wp2_with (first
        | (go_at_call 102; refine (cD _).mono ?_; rintro e w' ⟨rfl, rfl⟩)
        | (at_builtin; refine wpList_app_one w1 rfl _ _ 24 rfl B 5 i5 (.int .u8 0) 1 tyBs hi5 hz0 hz1 hz2 rfl _ (by exact rfl) _ _ _ (by exact rfl) hown1 (by exact rfl) (by unfold maxLen; omega) (by omega) hb1 hB ?_; intro v' w' hown' hb' _))
      go_ret
      refine ⟨⟨_, rfl, ?_⟩, hb'⟩
      rw [HLE.out, HLL.out, List.map_append]
      exact hown'
    · have hmore := genV_more hqt
      have hge : decide ((Q : Int) < ((thr K bias : Nat) : Int)) = false := decide_eq_false (by omega)
      have hgeN : decide (Q < thr K bias) = false := decide_eq_false hqt
      have hless := gen_less Q _ hqt ht.1
      obtain ⟨t, hte⟩ : ∃ t, t = thr K bias := ⟨_, rfl⟩
      rw [← hte] at hmore hge hgeN hless ht hqt cT
      obtain ⟨rm, hrm⟩ : ∃ rm, rm = (Q - t) % (36 - t) := ⟨_, rfl⟩
      obtain ⟨Q2, hQ2⟩ : ∃ Q2, Q2 = (Q - t) / (36 - t) := ⟨_, rfl⟩
      have hrmb : rm < 36 - t := by rw [hrm]; exact Nat.mod_lt _ (by omega)
      have hmod : Int.tmod ((Q : Int) - (t : Int)) (36 - (t : Int)) = (rm : Int) := by
        rw [Int.tmod_eq_emod_of_nonneg (by omega), hrm, show ((Q : Int) - (t : Int)) = ((Q - t : Nat) : Int) by omega, show (36 - (t : Int)) = ((36 - t : Nat) : Int) by omega]
        exact (Int.natCast_emod _ _).symm
      have hdiv : Int.tdiv ((Q : Int) - (t : Int)) (36 - (t : Int)) = (Q2 : Int) := by
        rw [Int.tdiv_eq_ediv_of_nonneg (by omega), hQ2, show ((Q : Int) - (t : Int)) = ((Q - t : Nat) : Int) by omega, show (36 - (t : Int)) = ((36 - t : Nat) : Int) by omega]
        exact (Int.natCast_ediv _ _).symm
      have hne0 : ¬ (36 - (t : Int) = 0) := by omega
      rw [← hrm, ← hQ2] at hmore
      rw [← hQ2] at hless
      have cD := digB_any (t + rm) (by omega)
      rw [show ((t + rm : Nat) : Int) = (t : Int) + (rm : Int) by omega] at cD
      have HL2 : Hid ((L ++ [t + rm]) ++ genV Q2 (K + 1) bias = genV e 0 bias) := by
        show _ = _
        rw [← HLG.out, hmore, List.append_assoc]
        rfl
      have hK12 : K + 1 ≤ 12 := by
        rw [hmore, List.length_cons] at hlenG
        have := HK.out
        omega
      have HXL : Hid ((X ++ (L ++ [t + rm]).map digB).map bv = (X ++ L.map digB).map bv ++ [bv (digB (t + rm))]) := by
        show _ = _
        simp
      clear hmore hrm hQ2 hlenG hte hqt
      go_wp2_with fail
      refine cT.mono ?_
      rintro e' w1 ⟨rfl, hc1, hg1⟩
      have hown1 := hown.kept hg1 (.inr (fun h => HNO.out h.symm))
      have hb1 := hb.grown hg1 (Nat.le_trans hB hb.size) (fun k hk => by injection hk with hk; rw [← hk]; exact HLK.out)
      have HN1 := Lib.hid (own_no_int hown1 hc1.hk)
      have HN2 := Lib.hid (own_no_int hown1 hc1.hb)
      have HC1 := Lib.hid hc1
      clear hg1 hown hb hc1
      go_wp2_with (first
        | (go_at_call 102; refine (cD _).mono ?_; rintro e w' ⟨rfl, rfl⟩)
        | (at_builtin; refine wpList_app_one w1 rfl _ _ 24 rfl B 5 i5 (.int .u8 0) 1 tyBs hi5 hz0 hz1 hz2 rfl _ (by exact rfl) _ _ _ (by exact rfl) hown1 (by exact rfl) (by unfold maxLen; omega) (by omega) hb1 hB ?_; intro v' w' hown' hb' hg'))
      go_roundw
      case rel =>
        refine ⟨Q2, K + 1, L ++ [t + rm], rfl, by omega, hK12, ?_, HL2, ?_, Lib.hid (HC1.out.kept hg' HN1.out HN2.out), hb'⟩
        · show _ = _
          rw [List.length_append, ← HK.out]
          rfl
        · rw [HXL.out]
          exact hown'
      case measure => simp [intOf]; omega
end

end Go.Proofs.YthoolifdmemceaaGreatDoor
