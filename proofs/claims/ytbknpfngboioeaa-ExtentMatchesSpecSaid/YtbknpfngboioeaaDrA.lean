/-
  The contracts of the reference's Valid and Arm.
-/
import Derived.Test.YtbknpfngboioeaaDr9
namespace Go.Proofs.Ytbknpfngboioeaa
open Go.RowKit

theorem badFs_step {ps : List (Int × Int)} {k : Nat} (h : badFs ps = badFs (ps.drop k)) (hk : k < ps.length) : badFs ps = (badF ps[k] || badFs (ps.drop (k + 1))) := by
  rw [h, List.drop_eq_getElem_cons hk]
  rfl
set_option maxRecDepth 20000 in
set_option maxHeartbeats 3200000 in
theorem rvalid_any {F : Nat → Prop} (A : Option Addr) (m c : Nat) (ps : List (Int × Int)) (w : World) (hP : PairsF F w A m ps) (hm : m ≤ 1000000) :
    Calls Try.prog 61 #[.slice A m c] w fun e w' => e = .returned (.bool (armOk ps)) ∧ w = w' := by
  have HP := Lib.hid hP
  have HM := Lib.hid hm
  clear hP hm
  go_enter Try.func61, Try.ntmps61
  go_wp2
  go_loop [3] (fun i => ∃ k : Nat, k ≤ m ∧ i = .int .i64 k ∧ Hid (badFs ps = badFs (ps.drop k))) (fun i => m - (RowKit.intOf i).toNat)
  case atStart => exact ⟨0, Nat.zero_le _, rfl, by show _ = _; simp⟩
  case round =>
    obtain ⟨k, hk, rfl, HR⟩ := hrel
    have hkb : (k : Int) ≤ 1000000 := by have := HM.out; omega
    have hkw : wrap64 ((k : Int) + 1) = (k : Int) + 1 := by unfold wrap64; omega
    by_cases hlt : k < m
    · obtain ⟨b, off, rfl, hbw, _, hc⟩ := HP.out.2.2 (by omega)
      have hkf : k < ps.length := by rw [HP.out.1]; exact hlt
      obtain ⟨d1, d2⟩ := hc k hkf
      have hstep := Lib.hid (badFs_step HR.out hkf)
      have hd : decide ((k : Int) < (m : Int)) = true := by simpa using hlt
      have hlti : (k : Int) < (m : Int) := by omega
      generalize ps[k] = p at d1 d2 hstep
      obtain ⟨x, y⟩ := p
      simp only at d1 d2
      clear hc hkf hk
      by_cases h1 : x < 0
      · have h1' : decide (x < 0) = true := by simpa using h1
        have hr : Hid (armOk ps = false) := by show _ = _; unfold armOk; rw [hstep.out]; simp [badF, h1]
        clear h1
        go_wp2
        go_ret
        exact ⟨ret_bool (by rw [hr.out]), rfl⟩
      · have h1' : decide (x < 0) = false := by simpa using h1
        by_cases h2 : y = 1
        · have h2' : (y != 1) = false := by simp [h2]
          have hr : Hid (badFs ps = badFs (ps.drop (k + 1))) := by show _ = _; rw [hstep.out]; simp [badF, h1', h2]
          clear h1 h2
          go_wp2
          go_round
          case rel => exact ⟨k + 1, by omega, by go_num, hr⟩
          case measure => simp [RowKit.intOf]; omega
        · have h2' : (y != 1) = true := by simpa using h2
          by_cases h3 : y = 2
          · have h3' : (y != 2) = false := by simp [h3]
            have hr : Hid (badFs ps = badFs (ps.drop (k + 1))) := by show _ = _; rw [hstep.out]; simp [badF, h1', h3]
            clear h1 h2 h3
            go_wp2
            go_round
            case rel => exact ⟨k + 1, by omega, by go_num, hr⟩
            case measure => simp [RowKit.intOf]; omega
          · have h3' : (y != 2) = true := by simpa using h3
            have hr : Hid (armOk ps = false) := by show _ = _; unfold armOk; rw [hstep.out]; simp [badF, h1', h2, h3]
            clear h1 h2 h3
            go_wp2
            go_ret
            exact ⟨ret_bool (by rw [hr.out]), rfl⟩
    · obtain rfl : k = m := by omega
      have hd : decide ((k : Int) < (k : Int)) = false := by simp
      have hr : Hid (armOk ps = decide ((k : Int) ≤ 64)) := by
        show _ = _
        unfold armOk
        rw [HR.out, List.drop_of_length_le (by rw [HP.out.1]; exact Nat.le_refl _), HP.out.1]
        by_cases h64 : k ≤ 64
        · simp [badFs, h64]; omega
        · simp [badFs, h64]; omega
      go_wp2
      go_ret
      exact ⟨ret_bool (by rw [hr.out]), rfl⟩

end Go.Proofs.Ytbknpfngboioeaa
