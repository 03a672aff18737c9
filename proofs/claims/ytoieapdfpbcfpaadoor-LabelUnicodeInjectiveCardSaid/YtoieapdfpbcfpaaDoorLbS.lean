/-
  Contracts of package label's small functions: isLabelByte, isPlain, isNotBasic, isUpper, and of slices.ContainsFunc with the last two.
-/
import Derived.Test.YtoieapdfpbcfpaaDoorLbC
import Derived.Test.YtoieapdfpbcfpaaDoorLbR
import Derived.Test.YtoieapdfpbcfpaaDoorPuQ
import Derived.Test.YtoieapdfpbcfpaaDoorYes
import Derived.BigQuiet
import Derived.Deep.QuietTactic
namespace Go.Proofs.YtoieapdfpbcfpaaDoor
open Go.RowKit

def okI (y : Int) : Bool := (decide (97 ≤ y) && decide (y ≤ 122)) || (decide (48 ≤ y) && decide (y ≤ 57)) || y == 45 || y == 95
theorem okI_nat (n : Nat) : okI (n : Int) = okN n := by
  have e : okI (n : Int) = true ↔ okN n = true := by
    rw [okN_yes]
    unfold okI
    simp only [Bool.or_eq_true, Bool.and_eq_true, decide_eq_true_eq, beq_iff_eq]
    omega
  cases h : okN n with
  | true => exact e.2 h
  | false =>
    cases h2 : okI (n : Int) with
    | true => rw [e.1 h2] at h; cases h
    | false => rfl
set_option maxHeartbeats 400000 in
theorem isLb_int (b : Int) (w : World) : Calls Tryd.prog 43 #[.int .u8 b] w fun e w' => e = .returned (.bool (okI b)) ∧ w = w' := by
  go_enter Tryd.func43, Tryd.ntmps43
  go_wp2
  all_goals
    go_ret
    exact ⟨ret_bool (by first | (simp [okI, *]; done) | (exfalso; simp_all; done) | (simp [okI, *]; omega) | (rw [Bool.eq_iff_iff]; simp [okI, *]; done) | (rw [Bool.eq_iff_iff]; simp [okI, *]; omega)), rfl⟩
theorem isLb_any (c : UInt8) (w : World) : Calls Tryd.prog 43 #[.int .u8 (c.toNat : Int)] w fun e w' => e = .returned (.bool (okN c.toNat)) ∧ w = w' := by
  rw [← okI_nat]
  exact isLb_int _ w

/-- What a label's bytes and ends ask. -/
def plainL (l : List UInt8) : Bool := endsL l && l.all (fun b => okN b.toNat)
theorem lab_plain (l : List UInt8) : labL l = (plainL l && (decide (l.take 4 ≠ xnL) || propL (l.drop 4))) := rfl
theorem plain_zero {s : ByteArray} (h : s.size = 0) : plainL (ls s) = false := by
  have : ls s = [] := List.eq_nil_of_length_eq_zero (by rw [ls_length]; exact h)
  rw [this]
  rfl
theorem plain_long {s : ByteArray} (h : 63 < s.size) : plainL (ls s) = false := by
  unfold plainL endsL
  rw [ls_length, decide_eq_false (p := s.size ≤ 63) (by omega)]
  simp
theorem plain_ends {s : ByteArray} {y0 y1 : Nat} (h : 0 < s.size) (h0 : y0 = (s[0]'h).toNat) (h1 : y1 = (s[s.size - 1]'(by omega)).toNat) :
    ((y0 = 45 ∨ y1 = 45) → plainL (ls s) = false) ∧ ((y0 ≠ 45 ∧ y1 ≠ 45 ∧ s.size ≤ 63) → plainL (ls s) = okK (ls s) s.size) := by
  have g0 : (ls s).head? = some (s[0]'h) := by rw [List.head?_eq_getElem?, ls_get s 0 h]
  have g1 : (ls s).getLast? = some (s[s.size - 1]'(by omega)) := by rw [List.getLast?_eq_getElem?, ls_length, ls_get s _ (by omega)]
  have hne : ls s ≠ [] := by
    intro e
    have := ls_length s
    rw [e] at this
    simp at this
    omega
  have e : endsL (ls s) = (decide (s.size ≤ 63) && decide (y0 ≠ 45) && decide (y1 ≠ 45)) := by
    unfold endsL
    rw [g0, g1, ls_length, decide_eq_true hne, Bool.true_and]
    congr 1
    · congr 1
      rw [decide_eq_decide]
      rw [h0, ne_eq, ne_eq, Option.some.injEq, u8_45]
    · rw [decide_eq_decide]
      rw [h1, ne_eq, ne_eq, Option.some.injEq, u8_45]
  refine ⟨?_, ?_⟩
  · intro hh
    unfold plainL
    rw [e]
    rcases hh with hh | hh
    · simp [hh]
    · simp [hh]
  · rintro ⟨a, b, c⟩
    unfold plainL okK
    rw [e, decide_eq_true a, decide_eq_true b, decide_eq_true c, take_ls_all]
    simp
theorem okK_bad {l : List UInt8} (n k : Nat) (h : k < l.length) (hn : k < n) (hb : okN (l[k]).toNat = false) : okK l n = false := by
  unfold okK
  rw [List.all_eq_false]
  refine ⟨l[k], ?_, by rw [hb]; simp⟩
  rw [List.mem_take_iff_getElem]
  exact ⟨k, by omega, rfl⟩

set_option maxRecDepth 20000 in
set_option maxHeartbeats 2000000 in
theorem plain_any (s : ByteArray) (w : World) :
    Calls Tryd.prog 23 #[.string s] w fun e w' => e = .returned (.bool (plainL (ls s))) ∧ w = w' := by
  by_cases h0 : s.size = 0
  · have hlab := Lib.hid (plain_zero h0)
    have he : s.toList.isEmpty = true := by rw [toList_ls]; exact List.isEmpty_iff.2 (List.eq_nil_of_length_eq_zero (by rw [ls_length]; exact h0))
    go_enter Tryd.func23, Tryd.ntmps23
    go_wp2
    go_ret
    exact ⟨ret_bool hlab.out.symm, rfl⟩
  · have he : s.toList.isEmpty = false := by rw [toList_ls]; exact ne_empty h0
    by_cases h1 : 63 < s.size
    · have hlab := Lib.hid (plain_long h1)
      have hd : decide ((63 : Int) < (s.size : Int)) = true := decide_eq_true (by omega)
      go_enter Tryd.func23, Tryd.ntmps23
      go_wp2
      go_ret
      exact ⟨ret_bool hlab.out.symm, rfl⟩
    · have hd : decide ((63 : Int) < (s.size : Int)) = false := decide_eq_false (by omega)
      have hz0 : (0 : Int) < (s.size : Int) := by omega
      have hf0 : 0 < s.size := by omega
      obtain ⟨y0, hy0⟩ : ∃ y0 : Nat, y0 = (s[0]'hf0).toNat := ⟨_, rfl⟩
      obtain ⟨y1, hy1⟩ : ∃ y1 : Nat, y1 = (s[s.size - 1]'(by omega)).toNat := ⟨_, rfl⟩
      have hends := Lib.hid (plain_ends hf0 hy0 hy1)
      have hsub : (s.size : Int) - 1 = ((s.size - 1 : Nat) : Int) := by omega
      by_cases h2 : y0 = 45
      · have hlab := Lib.hid (hends.out.1 (.inl h2))
        have e0 : (((s[0]'hf0).toNat : Int) == 45) = true := by rw [← hy0, h2]; rfl
        clear hy0 hy1
        go_enter Tryd.func23, Tryd.ntmps23
        go_wp2
        go_ret
        exact ⟨ret_bool hlab.out.symm, rfl⟩
      · have e0 : (((s[0]'hf0).toNat : Int) == 45) = false := by rw [← hy0]; simp; omega
        by_cases h3 : y1 = 45
        · have hlab := Lib.hid (hends.out.1 (.inr h3))
          have e1 : (((s[s.size - 1]'(by omega)).toNat : Int) == 45) = true := by rw [← hy1, h3]; rfl
          clear hy0 hy1
          go_enter Tryd.func23, Tryd.ntmps23
          go_wp2
          go_ret
          exact ⟨ret_bool hlab.out.symm, rfl⟩
        · have hlab := Lib.hid (hends.out.2 ⟨h2, h3, by omega⟩)
          have e1 : (((s[s.size - 1]'(by omega)).toNat : Int) == 45) = false := by rw [← hy1]; simp; omega
          clear hy0 hy1 hends
          rw [hlab.out]
          have HS : Hid (s.size ≤ 63) := by show _ ≤ _; omega
          obtain ⟨R, hR⟩ : ∃ R, R = okK (ls s) s.size := ⟨_, rfl⟩
          have HR := Lib.hid hR
          rw [← hR]
          clear hR hlab
          go_enter Tryd.func23, Tryd.ntmps23
          go_wp2
          clear e0 e1 h2 h3 hsub he
          go_loop [26] (fun i => ∃ k : Nat, k ≤ s.size ∧ i = .int .i64 k ∧ Hid (okK (ls s) k = true)) (fun i => s.size - (intOf i).toNat)
          case atStart => exact ⟨0, Nat.zero_le _, rfl, rfl⟩
          case round =>
            obtain ⟨k, hk, rfl, HK⟩ := hrel
            have hs63 : s.size ≤ 63 := HS.out
            by_cases hlt : k < s.size
            · have hkl : k < (ls s).length := by rw [ls_length]; exact hlt
              have HG := Lib.hid (okK_succ (ls s) k hkl)
              have HB : Hid (okN (ls s)[k].toNat = false → R = false) := fun hb => by rw [HR.out]; exact okK_bad s.size k hkl hlt hb
              rw [ls_getE s k hlt hkl] at HG HB
              have hkd : decide ((k : Int) < (s.size : Int)) = true := decide_eq_true (by omega)
              have cB := isLb_any s[k]
              cases hq : okN s[k].toNat with
              | true =>
                have HK2 : Hid (okK (ls s) (k + 1) = true) := by show _ = _; rw [HG.out, HK.out, hq]; rfl
                rw [hq] at cB
                clear hq
                go_wp2_with (go_at_call 43; refine (cB _).mono ?_; rintro e w' ⟨rfl, rfl⟩)
                go_round
                case rel => exact ⟨k + 1, by omega, by go_num, HK2⟩
                case measure => simp [intOf]; omega
              | false =>
                have HE := Lib.hid (HB.out hq)
                rw [hq] at cB
                clear hq
                go_wp2_with (go_at_call 43; refine (cB _).mono ?_; rintro e w' ⟨rfl, rfl⟩)
                go_ret
                exact ⟨ret_bool HE.out.symm, rfl⟩
            · obtain rfl : k = s.size := by omega
              have hkd : decide ((s.size : Int) < (s.size : Int)) = false := by simp
              have HR2 : Hid (R = true) := by show _ = _; rw [HR.out, HK.out]
              go_wp2
              go_ret
              exact ⟨ret_bool HR2.out.symm, rfl⟩

theorem nb_any (x : Nat) (w : World) : Calls Tryd.prog 48 #[.int .i64 (x : Int)] w fun e w' => e = .returned (.bool (decide (128 ≤ x))) ∧ w = w' := by
  have e : decide ((128 : Int) ≤ (x : Int)) = decide (128 ≤ x) := by rw [decide_eq_decide]; omega
  go_enter Tryd.func48, Tryd.ntmps48
  go_wp2
  go_ret
  exact ⟨ret_bool (by first | exact e | simp), rfl⟩
theorem iu_any (x : Nat) (w : World) : Calls Tryd.prog 49 #[.int .i64 (x : Int)] w fun e w' => e = .returned (.bool (bigP x)) ∧ w = w' := by
  rcases kind_of x with ⟨n1, n2⟩ | ⟨n1, n2, n3⟩ | ⟨n1, n2, n3⟩ | ⟨n1, n3⟩
  · have t : decide ((65 : Int) ≤ (x : Int)) = false := decide_eq_false (by omega)
    have tN : decide (65 ≤ x) = false := decide_eq_false (by omega)
    rw [n2]
    clear n1 n2
    go_enter Tryd.func49, Tryd.ntmps49
    go_wp2
    go_ret
    exact ⟨rfl, rfl⟩
  all_goals
    have t : decide ((65 : Int) ≤ (x : Int)) = true := decide_eq_true (by omega)
    have tN : decide (65 ≤ x) = true := decide_eq_true (by omega)
    rw [n3]
  · have t2 : decide ((x : Int) ≤ 90) = true := decide_eq_true (by omega)
    have t2N : decide (x ≤ 90) = true := decide_eq_true (by omega)
    clear n1 n2 n3
    go_enter Tryd.func49, Tryd.ntmps49
    go_wp2
    go_ret
    exact ⟨rfl, rfl⟩
  · have t2 : decide ((x : Int) ≤ 90) = false := decide_eq_false (by omega)
    have t2N : decide (x ≤ 90) = false := decide_eq_false (by omega)
    clear n1 n2 n3
    go_enter Tryd.func49, Tryd.ntmps49
    go_wp2
    go_ret
    exact ⟨rfl, rfl⟩
  · have t2 : decide ((x : Int) ≤ 90) = false := decide_eq_false (by omega)
    have t2N : decide (x ≤ 90) = false := decide_eq_false (by omega)
    clear n1 n3
    go_enter Tryd.func49, Tryd.ntmps49
    go_wp2
    go_ret
    exact ⟨rfl, rfl⟩

end Go.Proofs.YtoieapdfpbcfpaaDoor
