/-
  Contract of Digits of the reference of layer 1.
-/
import Derived.Test.YtpopkeidpohdiaaTyB
import Derived.Test.YtpopkeidpohdiaaAscP
namespace Go.Proofs.Ytpopkeidpohdiaa
open Go.RowKit

set_option maxHeartbeats 1000000 in
theorem refDigits_any (s : ByteArray) (w : World) (hs : s.size ≤ 1000000000) :
    Calls Try.prog 27 #[.string s] w fun e w' => e = .returned (.bool (digitsB s)) ∧ w = w' := by
  go_enter Try.func27, Try.ntmps27
  go_wp2
  go_loop [3] (fun i => ∃ k : Nat, k ≤ s.size ∧ i = .int .i64 k ∧ ((ls s).take k).all digitU = true) (fun i => s.size - (intOf i).toNat)
  case atStart => exact ⟨0, Nat.zero_le _, rfl, rfl⟩
  case round =>
    obtain ⟨k, hk, rfl, hall⟩ := hrel
    have HA := Lib.hid hall
    clear hall
    by_cases hlt : k < s.size
    · by_cases h1 : (s[k].toNat : Int) < 48
      · have HF := Lib.hid (digits_no s k hlt (by simp [digitU, digitB]; omega))
        go_wp2
        go_ret
        exact ⟨ret_bool HF.out.symm, rfl⟩
      · by_cases h2 : 57 < (s[k].toNat : Int)
        · have HF := Lib.hid (digits_no s k hlt (by simp [digitU, digitB]; omega))
          go_wp2
          go_ret
          exact ⟨ret_bool HF.out.symm, rfl⟩
        · have HD : Hid (digitU s[k] = true) := by show _ = _; simp [digitU, digitB]; omega
          go_wp2
          go_round
          case rel => exact ⟨k + 1, by omega, by go_num, take_all_succ digitU s k hlt HA.out HD.out⟩
          case measure => simp [intOf]; omega
    · obtain rfl : k = s.size := by omega
      have HF := Lib.hid (digits_yes s HA.out)
      go_wp2
      go_ret
      exact ⟨ret_bool (by rw [HF.out, toList_ls]), rfl⟩

end Go.Proofs.Ytpopkeidpohdiaa
