/-
  Contract of the helper Mod of the statements (package hstsstorekeep); it needs nothing else.
-/
import Derived.Test.YtpopkeidpohdiaaRows
import Derived.Test.YtpopkeidpohdiaaBase
namespace Go.Proofs.Ytpopkeidpohdiaa
open Go.RowKit

set_option maxHeartbeats 400000 in
theorem mod_any (a n : Int) (hn : 0 < n) (hn2 : n ≤ 4611686018427387904) (_ha0 : -9223372036854775808 ≤ a) (_ha1 : a ≤ 9223372036854775807) (w : World) :
    Calls Try.prog 11 #[.int .i64 a, .int .i64 n] w fun e w' => e = .returned (.int .i64 (a % n)) ∧ w = w' := by
  have hne : n ≠ 0 := by omega
  have h1 := Int.emod_nonneg a hne
  have h2 := Int.emod_lt_of_pos a hn
  have ht : Int.tmod a n = if 0 ≤ a ∨ n ∣ a then a % n else a % n - n := by
    rw [Int.tmod_eq_emod]
    split
    · simp
    · rw [Int.natAbs_of_nonneg (by omega)]
  by_cases hneg : Int.tmod a n < 0
  · have hv : Hid (Int.tmod a n + n = a % n) := by
      show _ = _
      rw [ht] at hneg ⊢
      split at hneg
      · omega
      · rename_i h; rw [if_neg h]; omega
    have hlo : -n < Int.tmod a n := by have := hv.out; omega
    have hw : wrap64 (Int.tmod a n + n) = Int.tmod a n + n := by unfold wrap64; omega
    clear ht
    go_enter Try.func11, Try.ntmps11
    go_wp2
    go_ret
    exact ⟨ret_int hv.out, rfl⟩
  · have hv : Hid (Int.tmod a n = a % n) := by
      show _ = _
      rw [ht] at hneg ⊢
      split at hneg
      · rename_i h; rw [if_pos h]
      · omega
    clear ht
    go_enter Try.func11, Try.ntmps11
    go_wp2
    go_ret
    exact ⟨ret_int hv.out, rfl⟩

end Go.Proofs.Ytpopkeidpohdiaa
