/-
  Contracts of Parse of package seconds and of its reference (layer 4); Digits of the reference of layer 1.
-/
import Derived.Test.YtmpkkhcplfodlaaDoorSec1
import Derived.Lib.ConvBytes
import Derived.Laws.AppendOwn
namespace Go.Proofs.YtmpkkhcplfodlaaDoor
open Go.RowKit

theorem tyBs : Tryd.prog.underlying 33 = some (.slice 5) := by kernel_rfl
theorem tyU8 : Tryd.prog.underlying 5 = some (.int .u8) := by kernel_rfl
theorem tyStr : Tryd.prog.underlying 9 = some .string := by kernel_rfl

theorem below_bytes (w : World) (e : TypeId) (s : ByteArray) : Below w.heap.size w (Lib.bytesWorld w e s) :=
  ⟨rfl, rfl, rfl, by rw [Lib.bytesWorld_size]; omega, fun k hk => Lib.bytesWorld_at_old w e s k hk⟩

/-- []byte(s) of a string. -/
theorem to_bytes (w : World) (s : ByteArray) : ∃ c w1, (convert 9 33 (.string s)).run Tryd.prog w = .ok (.slice (some ⟨w.heap.size, 0, none⟩) s.size c) w1 ∧
    Below w.heap.size w w1 ∧ s.size ≤ c ∧ ∀ k (h : k < s.size), w1.cell? ⟨w.heap.size, k, none⟩ = some (.int .u8 (s[k].toNat : Int)) := by
  refine ⟨_, _, Lib.run_convert_string_bytes (P := Tryd.prog) w _ _ _ s tyStr tyBs tyU8, below_bytes w _ s, ?_, fun k h => ?_⟩
  · exact grownCap_ge _ _ _ _
  · rw [Lib.bytesWorld_cell w _ s k h]
    have : s.data.toList.getD k 0 = s[k] := by
      have h' : k < s.data.toList.length := by simpa using h
      rw [List.getD_eq_getElem?_getD, List.getElem?_eq_getElem h']
      rfl
    rw [this]

theorem beq_empty (s : ByteArray) : (s.toList == ([] : List UInt8)) = decide (s.size = 0) := by
  rw [toList_ls, ← isEmpty_ls]
  cases ls s <;> rfl

set_option maxHeartbeats 1000000 in
theorem refDigits_any (s : ByteArray) (w : World) (hs : s.size ≤ 1000000000) :
    Calls Tryd.prog 16 #[.string s] w fun e w' => e = .returned (.bool (digitsB s)) ∧ w = w' := by
  go_enter Tryd.func16, Tryd.ntmps16
  go_wp2
  go_loop [3] (fun i => ∃ k : Nat, k ≤ s.size ∧ i = .int .i64 k ∧ ((ls s).take k).all digitU = true) (fun i => s.size - (intOf i).toNat)
  case atStart => exact ⟨0, Nat.zero_le _, rfl, rfl⟩
  case round =>
    obtain ⟨k, hk, rfl, hall⟩ := hrel
    have HA := Lib.hid hall
    clear hall
    by_cases hlt : k < s.size
    · by_cases h1 : (s[k].toNat : Int) < 48
      · have HF := Lib.hid (digits_no s k hlt (by simp [digitU, digitB]; omega))
        go_wp2
        go_ret
        exact ⟨ret_bool HF.out.symm, rfl⟩
      · by_cases h2 : 57 < (s[k].toNat : Int)
        · have HF := Lib.hid (digits_no s k hlt (by simp [digitU, digitB]; omega))
          go_wp2
          go_ret
          exact ⟨ret_bool HF.out.symm, rfl⟩
        · have HD : Hid (digitU s[k] = true) := by show _ = _; simp [digitU, digitB]; omega
          go_wp2
          go_round
          case rel => exact ⟨k + 1, by omega, by go_num, take_all_succ digitU s k hlt HA.out HD.out⟩
          case measure => simp [intOf]; omega
    · obtain rfl : k = s.size := by omega
      have HF := Lib.hid (digits_yes s HA.out)
      go_wp2
      go_ret
      exact ⟨ret_bool (by rw [HF.out, toList_ls]), rfl⟩

/-- What Parse returns. -/
def parseR (s : ByteArray) : Value := .tuple #[.int .i64 (perV s), .bool (digitsB s)]

set_option maxHeartbeats 1000000 in
theorem parse_any (s : ByteArray) (w : World) (hs : s.size ≤ 1000000000) :
    Calls Tryd.prog 8 #[.string s] w fun e w' => e = .returned (.tuple #[.int .i64 (perV s), .bool (digitsB s)]) ∧ Below w.heap.size w w' := by
  obtain ⟨c, w1, hconv, hb1, hc, hcell⟩ := to_bytes w s
  have HC := Lib.hid hcell
  clear hcell
  go_enter Tryd.func8, Tryd.ntmps8
  go_wp2
  go_loop [4, 10] (fun v i => ∃ (k : Nat) (z : Int), k ≤ s.size ∧ i = .int .i64 k ∧ v = .int .i64 z ∧ 0 ≤ z ∧ z ≤ 2147483647 ∧ Hid (z = perL 0 ((ls s).take k) ∧ ((ls s).take k).all digitU = true)) (fun _ i => s.size - (intOf i).toNat)
  case atStart => exact ⟨0, 0, Nat.zero_le _, rfl, rfl, by omega, by omega, Lib.hid ⟨rfl, rfl⟩⟩
  case round =>
    obtain ⟨k, z, hk, rfl, rfl, hz0, hz1, HA⟩ := hrel
    by_cases hlt : k < s.size
    · have hck := HC.out k hlt
      obtain ⟨y, hy⟩ : ∃ y : Int, y = (s[k].toNat : Int) := ⟨_, rfl⟩
      have hbl := byte_lt s[k]
      rw [← hy] at hck hbl
      have hy0 : 0 ≤ y := by omega
      by_cases h1 : y < 48
      · have HF := Lib.hid (digits_no s k hlt (by simp [digitU, digitB]; omega))
        have HV := Lib.hid (perV_no s HF.out)
        clear hy
        go_wp2
        go_ret2
        exact ⟨by rw [HF.out, HV.out]; rfl, hb1⟩
      · by_cases h2 : 57 < y
        · have HF := Lib.hid (digits_no s k hlt (by simp [digitU, digitB]; omega))
          have HV := Lib.hid (perV_no s HF.out)
          clear hy
          go_wp2
          go_ret2
          exact ⟨by rw [HF.out, HV.out]; rfl, hb1⟩
        · have HD : Hid (digitU s[k] = true) := by show _ = _; rw [digitU_iff]; omega
          obtain ⟨v, hv⟩ : ∃ v, perStep z s[k] = v := ⟨_, rfl⟩
          have hm : min (10 * z + (y - 48)) 2147483647 = v := by rw [← hv, hy]; rfl
          have hmin : ∀ ts t, (Builtin.min_ ts t #[.int .i64 (10 * z + (y - 48)), .int .i64 2147483647]).run Tryd.prog w1 = .ok (.int .i64 v) w1 := fun ts t => min_two w1 ts t _ _ _ hm
          have hv0 : 0 ≤ v := by omega
          have hv1 : v ≤ 2147483647 := by omega
          have HN : Hid (v = perL 0 ((ls s).take (k + 1)) ∧ ((ls s).take (k + 1)).all digitU = true) :=
            Lib.hid ⟨by rw [perL_take_succ s k hlt, ← HA.out.1, hv], take_all_succ digitU s k hlt HA.out.2 HD.out⟩
          clear hy hv hm
          go_wp2
          go_round
          case rel => exact ⟨k + 1, v, by omega, by go_num, rfl, hv0, hv1, HN⟩
          case measure => simp [intOf]; omega
    · obtain rfl : k = s.size := by omega
      have HF := Lib.hid (digits_yes s HA.out.2)
      have HV := Lib.hid (perV_yes s HA.out.2)
      have HE := Lib.hid (isEmpty_ls s)
      have HE2 := Lib.hid (beq_empty s)
      go_wp2
      go_ret2
      exact ⟨by rw [HF.out, HV.out, ← HA.out.1, toList_ls]; rfl, hb1⟩

set_option maxHeartbeats 1000000 in
theorem refParse_any (s : ByteArray) (w : World) (hs : s.size ≤ 1000000000) :
    Calls Tryd.prog 9 #[.string s] w fun e w' => e = .returned (.tuple #[.int .i64 (perV s), .bool (digitsB s)]) ∧ w = w' := by
  cases hd : digitsB s with
  | false =>
    have hc := refDigits_any s w hs
    rw [hd] at hc
    have HV := Lib.hid (perV_no s hd)
    clear hd
    go_enter Tryd.func9, Tryd.ntmps9
    go_wp2_with fail
    refine hc.mono ?_
    rintro e w' ⟨rfl, rfl⟩
    go_wp2_with fail
    go_ret2
    exact ⟨by rw [HV.out]; rfl, rfl⟩
  | true =>
    have hc := refDigits_any s w hs
    rw [hd] at hc
    have HA := Lib.hid (digitsB_all hd)
    have HV : Hid (perV s = perL 0 (ls s)) := by show _ = _; unfold perV; rw [hd]; rfl
    clear hd
    go_enter Tryd.func9, Tryd.ntmps9
    go_wp2_with fail
    refine hc.mono ?_
    rintro e w' ⟨rfl, rfl⟩
    clear hc
    go_wp2_with fail
    go_loop [4, 5] (fun v i => ∃ (k : Nat) (z : Int), k ≤ s.size ∧ i = .int .i64 k ∧ v = .int .i64 z ∧ 0 ≤ z ∧ z ≤ 2147483647 ∧ Hid (z = perL 0 ((ls s).take k))) (fun _ i => s.size - (intOf i).toNat)
    case atStart => exact ⟨0, 0, Nat.zero_le _, rfl, rfl, by omega, by omega, Lib.hid rfl⟩
    case round =>
      obtain ⟨k, z, hk, rfl, rfl, hz0, hz1, HZ⟩ := hrel
      by_cases hlt : k < s.size
      · have hdk : digitU s[k] = true := by
          have := HA.out
          rw [List.all_eq_true] at this
          exact this _ (List.mem_of_getElem? (ls_get s k hlt))
        rw [digitU_iff] at hdk
        have hl := hdk.1
        have hu := hdk.2
        clear hdk
        obtain ⟨v, hv⟩ : ∃ v, perStep z s[k] = v := ⟨_, rfl⟩
        have hm : min (z * 10 + ((s[k].toNat : Int) - 48)) 2147483647 = v := by rw [← hv]; unfold perStep; rw [Int.mul_comm]
        have hmin : ∀ ts t, (Builtin.min_ ts t #[.int .i64 (z * 10 + ((s[k].toNat : Int) - 48)), .int .i64 2147483647]).run Tryd.prog w = .ok (.int .i64 v) w := fun ts t => min_two w ts t _ _ _ hm
        have hv0 : 0 ≤ v := by omega
        have hv1 : v ≤ 2147483647 := by omega
        have HN : Hid (v = perL 0 ((ls s).take (k + 1))) := Lib.hid (by rw [perL_take_succ s k hlt, ← HZ.out, hv])
        clear hv hm
        go_wp2
        go_round
        case rel => exact ⟨k + 1, v, by omega, by go_num, rfl, hv0, hv1, HN⟩
        case measure => simp [intOf]; omega
      · obtain rfl : k = s.size := by omega
        go_wp2
        go_ret2
        exact ⟨by rw [HV.out, HZ.out, take_ls_all]; rfl, rfl⟩

end Go.Proofs.YtmpkkhcplfodlaaDoor
