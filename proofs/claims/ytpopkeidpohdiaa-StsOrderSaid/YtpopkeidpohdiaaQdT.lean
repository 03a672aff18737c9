/-
  The reference of layer 17: text, Token, IsToken.
-/
import Derived.Test.YtpopkeidpohdiaaQdA
import Derived.Test.YtpopkeidpohdiaaAscT
namespace Go.Proofs.Ytpopkeidpohdiaa
open Go.RowKit

set_option maxHeartbeats 400000 in
theorem refText_any17 (b : Int) (w : World) : Calls Try.prog 38 #[.int .u8 b] w fun e w' => e = .returned (.bool (inV b)) ∧ w = w' := by
  go_enter Try.func38, Try.ntmps38
  go_wp2
  all_goals
    go_ret
    exact ⟨ret_bool (by first | (simp [inV, *]; done) | (simp [inV, *]; omega) | (rw [Bool.eq_iff_iff]; simp at *; simp [inV]; omega)), rfl⟩
set_option maxHeartbeats 1000000 in
theorem refToken_any17 (s : ByteArray) (i : Int) (h0 : -9223372036854775808 ≤ i) (h1 : i ≤ 9223372036854775807) (hs : s.size ≤ 1000000000) (w : World) :
    Calls Try.prog 30 #[.string s, .int .i64 i] w fun e w' => e = .returned (.int .i64 (tkE s i)) ∧ w = w' := by
  by_cases hi : i < 0
  · have HE := Lib.hid (tkE_neg s i hi)
    go_enter Try.func30, Try.ntmps30
    go_wp2
    go_ret
    exact ⟨ret_int HE.out.symm, rfl⟩
  · by_cases hf : (s.size : Int) < i
    · have HE := Lib.hid (tkE_far s i (by omega))
      go_enter Try.func30, Try.ntmps30
      go_wp2
      go_ret
      exact ⟨ret_int HE.out.symm, rfl⟩
    · obtain ⟨k0, rfl⟩ : ∃ k0 : Nat, i = (k0 : Int) := ⟨i.toNat, by omega⟩
      have HE := Lib.hid (tkE_nat s k0)
      have hk0 : k0 ≤ s.size := by omega
      obtain ⟨N, hN⟩ : ∃ N, k0 + tkN s k0 = N := ⟨_, rfl⟩
      have HN := Lib.hid hN
      clear hN h0 h1
      have d1 : decide ((k0 : Int) < 0) = false := decide_eq_false hi
      have d2 : decide (s.size < k0) = false := decide_eq_false (by omega)
      have n2 : ¬ s.size < k0 := by omega
      clear hf
      go_enter Try.func30, Try.ntmps30
      go_wp2
      go_loop [1] (fun t => ∃ k : Nat, k ≤ s.size ∧ t = .int .i64 k ∧ Hid (k + tkN s k = N)) (fun t => s.size - (intOf t).toNat)
      case atStart => exact ⟨k0, hk0, rfl, HN⟩
      case round =>
        obtain ⟨k, hk, rfl, HK⟩ := hrel
        by_cases hlt : k < s.size
        · cases ht : tokU s[k] with
          | true =>
            have ht' : tokenB (s[k].toNat : Int) = true := ht
            have HS : Hid (k + 1 + tkN s (k + 1) = N) := by
              show _ = _
              have := HK.out
              rw [tkN_step s k hlt ht] at this
              omega
            clear ht
            go_wp2_with (go_at_call 39; refine (refIsToken_any _ _).mono ?_; rintro e w' ⟨rfl, rfl⟩)
            go_round
            case rel => exact ⟨k + 1, by omega, by go_num, HS⟩
            case measure => simp [intOf]; omega
          | false =>
            have ht' : tokenB (s[k].toNat : Int) = false := ht
            have HS : Hid (tkE s (k0 : Int) = (k : Int)) := by
              show _ = _
              have h1 := HK.out
              have h2 := HN.out
              rw [tkN_stop s k hlt ht] at h1
              rw [HE.out]
              omega
            clear ht
            go_wp2_with (go_at_call 39; refine (refIsToken_any _ _).mono ?_; rintro e w' ⟨rfl, rfl⟩)
            go_ret
            exact ⟨ret_int HS.out.symm, rfl⟩
        · have HS : Hid (tkE s (k0 : Int) = (k : Int)) := by
            show _ = _
            have h1 := HK.out
            have h2 := HN.out
            rw [tkN_end s k (by omega)] at h1
            rw [HE.out]
            omega
          go_wp2
          go_ret
          exact ⟨ret_int HS.out.symm, rfl⟩
set_option maxHeartbeats 1000000 in
theorem refIsTk_any (s : ByteArray) (hs : s.size ≤ 1000000000) (w : World) :
    Calls Try.prog 19 #[.string s] w fun e w' => e = .returned (.bool (isTk s)) ∧ w = w' := by
  have hE := nil_toList s
  by_cases h : s.size = 0
  · have HT := Lib.hid (isTk_nil s h)
    rw [decide_eq_true h] at hE
    clear h
    go_enter Try.func19, Try.ntmps19
    go_wp2
    go_ret
    exact ⟨ret_bool HT.out.symm, rfl⟩
  · have HT := Lib.hid (tk_test s h)
    have c1 := fun W => refToken_any17 s 0 (by decide) (by decide) hs W
    rw [decide_eq_false h] at hE
    clear h
    generalize tkE s 0 = T at *
    go_enter Try.func19, Try.ntmps19
    go_wp2_with fail
    refine (c1 _).mono ?_
    rintro e w' ⟨rfl, rfl⟩
    go_wp2
    go_ret
    exact ⟨ret_bool HT.out.symm, rfl⟩

end Go.Proofs.Ytpopkeidpohdiaa
