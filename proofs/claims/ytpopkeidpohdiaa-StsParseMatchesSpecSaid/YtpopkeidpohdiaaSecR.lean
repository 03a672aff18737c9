/-
  Contract of Parse of the reference of layer 4.
-/
import Derived.Test.YtpopkeidpohdiaaRfD
import Derived.Test.YtpopkeidpohdiaaSecP
import Derived.Test.YtpopkeidpohdiaaMin2
namespace Go.Proofs.Ytpopkeidpohdiaa
open Go.RowKit

set_option maxHeartbeats 1000000 in
theorem refParse_any (s : ByteArray) (w : World) (hs : s.size ≤ 1000000000) :
    Calls Try.prog 17 #[.string s] w fun e w' => e = .returned (.tuple #[.int .i64 (perV s), .bool (digitsB s)]) ∧ w = w' := by
  cases hd : digitsB s with
  | false =>
    have hc := refDigits_any s w hs
    rw [hd] at hc
    have HV := Lib.hid (perV_no s hd)
    clear hd
    go_enter Try.func17, Try.ntmps17
    go_wp2_with fail
    refine hc.mono ?_
    rintro e w' ⟨rfl, rfl⟩
    go_wp2_with fail
    go_ret2
    exact ⟨by rw [HV.out]; rfl, rfl⟩
  | true =>
    have hc := refDigits_any s w hs
    rw [hd] at hc
    have HA := Lib.hid (digitsB_all hd)
    have HV : Hid (perV s = perL 0 (ls s)) := by show _ = _; unfold perV; rw [hd]; rfl
    clear hd
    go_enter Try.func17, Try.ntmps17
    go_wp2_with fail
    refine hc.mono ?_
    rintro e w' ⟨rfl, rfl⟩
    clear hc
    go_wp2_with fail
    go_loop [4, 5] (fun v i => ∃ (k : Nat) (z : Int), k ≤ s.size ∧ i = .int .i64 k ∧ v = .int .i64 z ∧ 0 ≤ z ∧ z ≤ 2147483647 ∧ Hid (z = perL 0 ((ls s).take k))) (fun _ i => s.size - (intOf i).toNat)
    case atStart => exact ⟨0, 0, Nat.zero_le _, rfl, rfl, by omega, by omega, Lib.hid rfl⟩
    case round =>
      obtain ⟨k, z, hk, rfl, rfl, hz0, hz1, HZ⟩ := hrel
      by_cases hlt : k < s.size
      · have hdk : digitU s[k] = true := by
          have := HA.out
          rw [List.all_eq_true] at this
          exact this _ (List.mem_of_getElem? (ls_get s k hlt))
        rw [digitU_iff] at hdk
        have hl := hdk.1
        have hu := hdk.2
        clear hdk
        obtain ⟨v, hv⟩ : ∃ v, perStep z s[k] = v := ⟨_, rfl⟩
        have hm : min (z * 10 + ((s[k].toNat : Int) - 48)) 2147483647 = v := by rw [← hv]; unfold perStep; rw [Int.mul_comm]
        have hmin : ∀ ts t, (Builtin.min_ ts t #[.int .i64 (z * 10 + ((s[k].toNat : Int) - 48)), .int .i64 2147483647]).run Try.prog w = .ok (.int .i64 v) w := fun ts t => min_two w ts t _ _ _ hm
        have hv0 : 0 ≤ v := by omega
        have hv1 : v ≤ 2147483647 := by omega
        have HN : Hid (v = perL 0 ((ls s).take (k + 1))) := Lib.hid (by rw [perL_take_succ s k hlt, ← HZ.out, hv])
        clear hv hm
        go_wp2
        go_round
        case rel => exact ⟨k + 1, v, by omega, by go_num, rfl, hv0, hv1, HN⟩
        case measure => simp [intOf]; omega
      · obtain rfl : k = s.size := by omega
        go_wp2
        go_ret2
        exact ⟨by rw [HV.out, HZ.out, take_ls_all]; rfl, rfl⟩

end Go.Proofs.Ytpopkeidpohdiaa
