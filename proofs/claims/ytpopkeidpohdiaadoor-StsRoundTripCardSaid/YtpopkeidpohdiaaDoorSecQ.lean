/-
  Contract of Parse of package seconds.
-/
import Derived.Test.YtpopkeidpohdiaaDoorSecB
import Derived.Test.YtpopkeidpohdiaaDoorSecP
import Derived.Test.YtpopkeidpohdiaaDoorMin2
namespace Go.Proofs.YtpopkeidpohdiaaDoor
open Go.RowKit

set_option maxHeartbeats 1000000 in
theorem parse_any (s : ByteArray) (w : World) (hs : s.size ≤ 1000000000) :
    Calls Tryd.prog 12 #[.string s] w fun e w' => e = .returned (.tuple #[.int .i64 (perV s), .bool (digitsB s)]) ∧ Below w.heap.size w w' := by
  obtain ⟨c, w1, hconv, hb1, hc, hcell⟩ := to_bytes w s
  have HC := Lib.hid hcell
  clear hcell
  go_enter Tryd.func12, Tryd.ntmps12
  go_wp2
  go_loop [4, 10] (fun v i => ∃ (k : Nat) (z : Int), k ≤ s.size ∧ i = .int .i64 k ∧ v = .int .i64 z ∧ 0 ≤ z ∧ z ≤ 2147483647 ∧ Hid (z = perL 0 ((ls s).take k) ∧ ((ls s).take k).all digitU = true)) (fun _ i => s.size - (intOf i).toNat)
  case atStart => exact ⟨0, 0, Nat.zero_le _, rfl, rfl, by omega, by omega, Lib.hid ⟨rfl, rfl⟩⟩
  case round =>
    obtain ⟨k, z, hk, rfl, rfl, hz0, hz1, HA⟩ := hrel
    by_cases hlt : k < s.size
    · have hck := HC.out k hlt
      obtain ⟨y, hy⟩ : ∃ y : Int, y = (s[k].toNat : Int) := ⟨_, rfl⟩
      have hbl := byte_lt s[k]
      rw [← hy] at hck hbl
      have hy0 : 0 ≤ y := by omega
      by_cases h1 : y < 48
      · have HF := Lib.hid (digits_no s k hlt (by simp [digitU, digitB]; omega))
        have HV := Lib.hid (perV_no s HF.out)
        clear hy
        go_wp2
        go_ret2
        exact ⟨by rw [HF.out, HV.out]; rfl, hb1⟩
      · by_cases h2 : 57 < y
        · have HF := Lib.hid (digits_no s k hlt (by simp [digitU, digitB]; omega))
          have HV := Lib.hid (perV_no s HF.out)
          clear hy
          go_wp2
          go_ret2
          exact ⟨by rw [HF.out, HV.out]; rfl, hb1⟩
        · have HD : Hid (digitU s[k] = true) := by show _ = _; rw [digitU_iff]; omega
          obtain ⟨v, hv⟩ : ∃ v, perStep z s[k] = v := ⟨_, rfl⟩
          have hm : min (10 * z + (y - 48)) 2147483647 = v := by rw [← hv, hy]; rfl
          have hmin : ∀ ts t, (Builtin.min_ ts t #[.int .i64 (10 * z + (y - 48)), .int .i64 2147483647]).run Tryd.prog w1 = .ok (.int .i64 v) w1 := fun ts t => min_two w1 ts t _ _ _ hm
          have hv0 : 0 ≤ v := by omega
          have hv1 : v ≤ 2147483647 := by omega
          have HN : Hid (v = perL 0 ((ls s).take (k + 1)) ∧ ((ls s).take (k + 1)).all digitU = true) :=
            Lib.hid ⟨by rw [perL_take_succ s k hlt, ← HA.out.1, hv], take_all_succ digitU s k hlt HA.out.2 HD.out⟩
          clear hy hv hm
          go_wp2
          go_round
          case rel => exact ⟨k + 1, v, by omega, by go_num, rfl, hv0, hv1, HN⟩
          case measure => simp [intOf]; omega
    · obtain rfl : k = s.size := by omega
      have HF := Lib.hid (digits_yes s HA.out.2)
      have HV := Lib.hid (perV_yes s HA.out.2)
      have HE := Lib.hid (isEmpty_ls s)
      have HE2 := Lib.hid (beq_empty s)
      go_wp2
      go_ret2
      exact ⟨by rw [HF.out, HV.out, ← HA.out.1, toList_ls]; rfl, hb1⟩

end Go.Proofs.YtpopkeidpohdiaaDoor
