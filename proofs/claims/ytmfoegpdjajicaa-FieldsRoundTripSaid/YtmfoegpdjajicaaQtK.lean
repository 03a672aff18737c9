/-
  Contracts of Token and IsToken of package quoted (where the program holds no inValue of it).
-/
import Derived.Test.YtmfoegpdjajicaaRfTk
import Derived.Test.YtmfoegpdjajicaaAscK
import Derived.LoopN
import Derived.Handy
namespace Go.Proofs.Ytmfoegpdjajicaa
open Go.RowKit

set_option maxHeartbeats 1000000 in
theorem token_any (s : ByteArray) (i : Int) (h0 : -9223372036854775808 ≤ i) (h1 : i ≤ 9223372036854775807) (hs : s.size ≤ 1000000000) (w : World) :
    Calls Try.prog 53 #[.string s, .int .i64 i] w fun e w' => e = .returned (.int .i64 (tkE s i)) ∧ w = w' := by
  by_cases hi : i < 0
  · have HE := Lib.hid (tkE_neg s i hi)
    go_enter Try.func53, Try.ntmps53
    go_wp2
    go_ret
    exact ⟨ret_int HE.out.symm, rfl⟩
  · by_cases hf : (s.size : Int) ≤ i
    · have HE := Lib.hid (tkE_far s i hf)
      go_enter Try.func53, Try.ntmps53
      go_wp2
      go_loop [1] (fun t => t = .int .i64 i) (fun _ => 0)
      case atStart => exact rfl
      case round =>
        subst hrel
        go_wp2
        go_ret
        exact ⟨ret_int HE.out.symm, rfl⟩
    · obtain ⟨k0, rfl⟩ : ∃ k0 : Nat, i = (k0 : Int) := ⟨i.toNat, by omega⟩
      have HE := Lib.hid (tkE_nat s k0)
      have hk0 : k0 ≤ s.size := by omega
      obtain ⟨N, hN⟩ : ∃ N, k0 + tkN s k0 = N := ⟨_, rfl⟩
      have HN := Lib.hid hN
      clear hN hi hf h0 h1
      go_enter Try.func53, Try.ntmps53
      go_wp2
      go_loop [1] (fun t => ∃ k : Nat, k ≤ s.size ∧ t = .int .i64 k ∧ Hid (k + tkN s k = N)) (fun t => s.size - (intOf t).toNat)
      case atStart => exact ⟨k0, hk0, rfl, HN⟩
      case round =>
        obtain ⟨k, hk, rfl, HK⟩ := hrel
        by_cases hlt : k < s.size
        · cases ht : tokU s[k] with
          | true =>
            have ht' : tokenB (s[k].toNat : Int) = true := ht
            have HS : Hid (k + 1 + tkN s (k + 1) = N) := by
              show _ = _
              have := HK.out
              rw [tkN_step s k hlt ht] at this
              omega
            clear ht
            go_wp2_with (go_at_call 59; refine (isToken_any _ _).mono ?_; rintro e w' ⟨rfl, rfl⟩)
            go_round
            case rel => exact ⟨k + 1, by omega, by go_num, HS⟩
            case measure => simp [intOf]; omega
          | false =>
            have ht' : tokenB (s[k].toNat : Int) = false := ht
            have HS : Hid (tkE s (k0 : Int) = (k : Int)) := by
              show _ = _
              have h1 := HK.out
              have h2 := HN.out
              rw [tkN_stop s k hlt ht] at h1
              rw [HE.out]
              omega
            clear ht
            go_wp2_with (go_at_call 59; refine (isToken_any _ _).mono ?_; rintro e w' ⟨rfl, rfl⟩)
            go_ret
            exact ⟨ret_int HS.out.symm, rfl⟩
        · have HS : Hid (tkE s (k0 : Int) = (k : Int)) := by
            show _ = _
            have h1 := HK.out
            have h2 := HN.out
            rw [tkN_end s k (by omega)] at h1
            rw [HE.out]
            omega
          go_wp2
          go_ret
          exact ⟨ret_int HS.out.symm, rfl⟩


set_option maxHeartbeats 1000000 in
theorem isTk_any (s : ByteArray) (hs : s.size ≤ 1000000000) (w : World) :
    Calls Try.prog 40 #[.string s] w fun e w' => e = .returned (.bool (isTk s)) ∧ w = w' := by
  have hE := nil_toList s
  by_cases h : s.size = 0
  · have HT := Lib.hid (isTk_nil s h)
    rw [decide_eq_true h] at hE
    clear h
    go_enter Try.func40, Try.ntmps40
    go_wp2
    go_ret
    exact ⟨ret_bool HT.out.symm, rfl⟩
  · have HT := Lib.hid (tk_test s h)
    have c1 := fun W => token_any s 0 (by decide) (by decide) hs W
    rw [decide_eq_false h] at hE
    clear h
    generalize tkE s 0 = T at *
    go_enter Try.func40, Try.ntmps40
    go_wp2_with fail
    refine (c1 _).mono ?_
    rintro e w' ⟨rfl, rfl⟩
    go_wp2
    go_ret
    exact ⟨ret_bool HT.out.symm, rfl⟩

end Go.Proofs.Ytmfoegpdjajicaa
