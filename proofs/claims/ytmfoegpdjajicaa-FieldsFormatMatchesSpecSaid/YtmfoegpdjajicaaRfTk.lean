/-
  Contracts of text, Token, IsToken, Value of the reference of layer 17.
-/
import Derived.Test.YtmfoegpdjajicaaQdP
import Derived.Test.YtmfoegpdjajicaaAscT
import Derived.Test.YtmfoegpdjajicaaTyB
import Derived.BigQuiet
import Derived.Deep.QuietTactic
import Derived.WalkSmall
namespace Go.Proofs.Ytmfoegpdjajicaa
open Go.RowKit

theorem nil_toList (s : ByteArray) : (s.toList == ([] : List UInt8)) = decide (s.size = 0) := by
  rw [toList_ls, ← ls_length]
  cases ls s <;> rfl
theorem tk_test (s : ByteArray) (h : s.size ≠ 0) : isTk s = (tkE s 0 == (s.size : Int)) := by
  rw [isTk_eq s h, show (0 : Int) = ((0 : Nat) : Int) from rfl, tkE_nat, Nat.zero_add]
  by_cases he : tkN s 0 = s.size
  · rw [he]; simp
  · rw [decide_eq_false he, eq_comm, beq_eq_false_iff_ne]; omega
set_option maxHeartbeats 400000 in
theorem refText_any17 (b : Int) (w : World) : Calls Try.prog 45 #[.int .u8 b] w fun e w' => e = .returned (.bool (inV b)) ∧ w = w' := by
  go_enter Try.func45, Try.ntmps45
  go_wp2
  all_goals
    go_ret
    exact ⟨ret_bool (by first | (simp [inV, *]; done) | (simp [inV, *]; omega) | (rw [Bool.eq_iff_iff]; simp at *; simp [inV]; omega)), rfl⟩
set_option maxHeartbeats 1000000 in
theorem refToken_any17 (s : ByteArray) (i : Int) (h0 : -9223372036854775808 ≤ i) (h1 : i ≤ 9223372036854775807) (hs : s.size ≤ 1000000000) (w : World) :
    Calls Try.prog 25 #[.string s, .int .i64 i] w fun e w' => e = .returned (.int .i64 (tkE s i)) ∧ w = w' := by
  by_cases hi : i < 0
  · have HE := Lib.hid (tkE_neg s i hi)
    go_enter Try.func25, Try.ntmps25
    go_wp2
    go_ret
    exact ⟨ret_int HE.out.symm, rfl⟩
  · by_cases hf : (s.size : Int) < i
    · have HE := Lib.hid (tkE_far s i (by omega))
      go_enter Try.func25, Try.ntmps25
      go_wp2
      go_ret
      exact ⟨ret_int HE.out.symm, rfl⟩
    · obtain ⟨k0, rfl⟩ : ∃ k0 : Nat, i = (k0 : Int) := ⟨i.toNat, by omega⟩
      have HE := Lib.hid (tkE_nat s k0)
      have hk0 : k0 ≤ s.size := by omega
      obtain ⟨N, hN⟩ : ∃ N, k0 + tkN s k0 = N := ⟨_, rfl⟩
      have HN := Lib.hid hN
      clear hN h0 h1
      have d1 : decide ((k0 : Int) < 0) = false := decide_eq_false hi
      have d2 : decide (s.size < k0) = false := decide_eq_false (by omega)
      have n2 : ¬ s.size < k0 := by omega
      clear hf
      go_enter Try.func25, Try.ntmps25
      go_wp2
      go_loop [1] (fun t => ∃ k : Nat, k ≤ s.size ∧ t = .int .i64 k ∧ Hid (k + tkN s k = N)) (fun t => s.size - (intOf t).toNat)
      case atStart => exact ⟨k0, hk0, rfl, HN⟩
      case round =>
        obtain ⟨k, hk, rfl, HK⟩ := hrel
        by_cases hlt : k < s.size
        · cases ht : tokU s[k] with
          | true =>
            have ht' : tokenB (s[k].toNat : Int) = true := ht
            have HS : Hid (k + 1 + tkN s (k + 1) = N) := by
              show _ = _
              have := HK.out
              rw [tkN_step s k hlt ht] at this
              omega
            clear ht
            go_wp2_with (go_at_call 44; refine (refIsToken_any _ _).mono ?_; rintro e w' ⟨rfl, rfl⟩)
            go_round
            case rel => exact ⟨k + 1, by omega, by go_num, HS⟩
            case measure => simp [intOf]; omega
          | false =>
            have ht' : tokenB (s[k].toNat : Int) = false := ht
            have HS : Hid (tkE s (k0 : Int) = (k : Int)) := by
              show _ = _
              have h1 := HK.out
              have h2 := HN.out
              rw [tkN_stop s k hlt ht] at h1
              rw [HE.out]
              omega
            clear ht
            go_wp2_with (go_at_call 44; refine (refIsToken_any _ _).mono ?_; rintro e w' ⟨rfl, rfl⟩)
            go_ret
            exact ⟨ret_int HS.out.symm, rfl⟩
        · have HS : Hid (tkE s (k0 : Int) = (k : Int)) := by
            show _ = _
            have h1 := HK.out
            have h2 := HN.out
            rw [tkN_end s k (by omega)] at h1
            rw [HE.out]
            omega
          go_wp2
          go_ret
          exact ⟨ret_int HS.out.symm, rfl⟩
set_option maxHeartbeats 1000000 in
theorem refIsTk_any (s : ByteArray) (hs : s.size ≤ 1000000000) (w : World) :
    Calls Try.prog 32 #[.string s] w fun e w' => e = .returned (.bool (isTk s)) ∧ w = w' := by
  have hE := nil_toList s
  by_cases h : s.size = 0
  · have HT := Lib.hid (isTk_nil s h)
    rw [decide_eq_true h] at hE
    clear h
    go_enter Try.func32, Try.ntmps32
    go_wp2
    go_ret
    exact ⟨ret_bool HT.out.symm, rfl⟩
  · have HT := Lib.hid (tk_test s h)
    have c1 := fun W => refToken_any17 s 0 (by decide) (by decide) hs W
    rw [decide_eq_false h] at hE
    clear h
    generalize tkE s 0 = T at *
    go_enter Try.func32, Try.ntmps32
    go_wp2_with fail
    refine (c1 _).mono ?_
    rintro e w' ⟨rfl, rfl⟩
    go_wp2
    go_ret
    exact ⟨ret_bool HT.out.symm, rfl⟩
set_option maxHeartbeats 1000000 in
theorem refValue_any17 (v : ByteArray) (hs : v.size ≤ 1000000000) (w : World) :
    Calls Try.prog 26 #[.string v] w fun e w' => e = .returned (.bool ((ls v).all inU)) ∧ w = w' := by
  go_enter Try.func26, Try.ntmps26
  go_wp2
  go_loop [3] (fun i => ∃ k : Nat, k ≤ v.size ∧ i = .int .i64 k ∧ Hid (((ls v).take k).all inU = true)) (fun i => v.size - (intOf i).toNat)
  case atStart => exact ⟨0, Nat.zero_le _, rfl, Lib.hid rfl⟩
  case round =>
    obtain ⟨k, hk, rfl, HA⟩ := hrel
    by_cases hlt : k < v.size
    · cases hin : inU v[k] with
      | false =>
        have hin' : inV (v[k].toNat : Int) = false := hin
        have HE : Hid ((ls v).all inU = false) := by
          show _ = _
          rw [List.all_eq_false]
          exact ⟨v[k], List.mem_of_getElem? (ls_get v k hlt), by rw [hin]; decide⟩
        clear hin
        go_wp2_with (go_at_call 45; refine (refText_any17 _ _).mono ?_; rintro e w' ⟨rfl, rfl⟩)
        go_ret
        exact ⟨ret_bool HE.out.symm, rfl⟩
      | true =>
        have hin' : inV (v[k].toNat : Int) = true := hin
        have HN := Lib.hid (take_all_succ inU v k hlt HA.out hin)
        clear hin
        go_wp2_with (go_at_call 45; refine (refText_any17 _ _).mono ?_; rintro e w' ⟨rfl, rfl⟩)
        go_round
        case rel => exact ⟨k + 1, by omega, by go_num, HN⟩
        case measure => simp [intOf]; omega
    · have HE : Hid ((ls v).all inU = true) := by
        have := HA.out
        rwa [List.take_of_length_le (by rw [ls_length]; omega)] at this
      go_wp2
      go_ret
      exact ⟨ret_bool HE.out.symm, rfl⟩

end Go.Proofs.Ytmfoegpdjajicaa
