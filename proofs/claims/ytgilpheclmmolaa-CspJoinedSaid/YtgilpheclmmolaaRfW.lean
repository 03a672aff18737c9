/-
  Contract of Words of the reference of layer 1.
-/
import Derived.Test.YtgilpheclmmolaaWrd
import Derived.Test.YtgilpheclmmolaaAsBr
namespace Go.Proofs.Ytgilpheclmmolaa
open Go.RowKit

set_option maxHeartbeats 400000 in
theorem refIsSpace_any (b : Int) (w : World) : Calls Try.prog 29 #[.int .u8 b] w fun e w' => e = .returned (.bool (spaceB b)) ∧ w = w' := by
  go_enter Try.func29, Try.ntmps29
  go_wp2_with (go_at_call 32; refine (refIsBlank_any _ _).mono ?_; rintro e w' ⟨rfl, rfl⟩)
  all_goals
    go_ret
    exact ⟨ret_bool (by simp [spaceB, *]), rfl⟩

set_option maxHeartbeats 2000000 in
theorem refWords_any (s : ByteArray) (w : World) (hs : s.size ≤ 1000000000) :
    Calls Try.prog 24 #[.string s] w (WordsPost s w) := by
  obtain ⟨i9, hi9, hz0, hz1, hz2⟩ := info_parts infoStr
  go_enter Try.func24, Try.ntmps24
  go_wp2
  go_loopw [3, 4, 5] (fun v f i wr => ∃ (k m : Nat) (acc : List (List UInt8)), m ≤ k ∧ k ≤ s.size + 1 ∧ acc.length ≤ k ∧ (s.size < k → m = k) ∧ i = .int .i64 k ∧ f = .int .i64 m ∧ WordsAt s acc (sub s m k) k ∧
      wr.ownsRow w.heap.size 9 1 v acc.length (wv acc) ∧ Below w.heap.size w wr) (fun _ _ i _ => s.size + 1 - (intOf i).toNat)
  case atStart => exact ⟨0, 0, [], Nat.le_refl _, by omega, Nat.le_refl _, by omega, rfl, rfl, wordsAt_start s, World.ownsRow_nil _ _ _ _, Below.refl _ _⟩
  case round =>
    obtain ⟨k, m, acc, hmk, hk, hal, hend, rfl, rfl, hat, hown, hb⟩ := hrel
    have HAT := Lib.hid hat
    clear hat
    by_cases hlt : k < s.size
    · by_cases hsp : spaceU s[k] = true
      · have hsp' : spaceB (s[k].toNat : Int) = true := hsp
        have HSP := Lib.hid hsp
        clear hsp
        by_cases hmk2 : m < k
        · go_wp2_with (first | (go_at_call 29; refine (refIsSpace_any _ _).mono ?_; rintro e w' ⟨rfl, rfl⟩) | (at_builtin; refine wpList_app_one _ rfl _ _ 22 rfl w.heap.size 9 i9 (.string ByteArray.empty) 16 tyStrs hi9 hz0 hz1 hz2 rfl _ (by exact rfl) _ _ _ (by exact rfl) hown (by exact rfl) (by unfold maxLen; omega) (by omega) hb (Nat.le_refl _) ?_; intro v' w' hown' hb' _))
          go_roundw
          case rel =>
            refine ⟨k + 1, k + 1, acc ++ [sub s m k], Nat.le_refl _, by omega, by simp; omega, fun _ => rfl, by go_num, by go_num, ?_, ?_, hb'⟩
            · rw [sub_self]; exact wordsAt_word HAT.out hlt HSP.out (by rw [sub_length s m k (by omega)]; omega)
            · rw [← wv_snoc, ← sub_extract]; simpa using hown'
          case measure => simp [intOf]; omega
        · obtain rfl : m = k := by omega
          go_wp2_with (go_at_call 29; refine (refIsSpace_any _ _).mono ?_; rintro e w' ⟨rfl, rfl⟩)
          go_roundw
          case rel =>
            refine ⟨m + 1, m + 1, acc, Nat.le_refl _, by omega, by omega, fun _ => rfl, by go_num, by go_num, ?_, hown, hb⟩
            rw [sub_self]; exact wordsAt_skip (by have := HAT.out; rwa [sub_self] at this) hlt HSP.out
          case measure => simp [intOf]; omega
      · have hsp' : spaceB (s[k].toNat : Int) = false := by simpa [spaceU] using hsp
        have HSP : Hid (spaceU s[k] = false) := by show _ = _; simpa using hsp
        clear hsp
        go_wp2_with (go_at_call 29; refine (refIsSpace_any _ _).mono ?_; rintro e w' ⟨rfl, rfl⟩)
        go_roundw
        case rel =>
          refine ⟨k + 1, m, acc, by omega, by omega, by omega, by omega, by go_num, rfl, ?_, hown, hb⟩
          rw [sub_succ s m k hmk hlt]; exact wordsAt_byte HAT.out hlt HSP.out
        case measure => simp [intOf]; omega
    · by_cases hle : k ≤ s.size
      · obtain rfl : k = s.size := by omega
        by_cases hmk2 : m < s.size
        · go_wp2_with (at_builtin; refine wpList_app_one _ rfl _ _ 22 rfl w.heap.size 9 i9 (.string ByteArray.empty) 16 tyStrs hi9 hz0 hz1 hz2 rfl _ (by exact rfl) _ _ _ (by exact rfl) hown (by exact rfl) (by unfold maxLen; omega) (by omega) hb (Nat.le_refl _) ?_; intro v' w' hown' hb' _)
          go_roundw
          case rel =>
            refine ⟨s.size + 1, s.size + 1, acc ++ [sub s m s.size], Nat.le_refl _, by omega, by simp; omega, fun _ => rfl, by go_num, by go_num, ?_, ?_, hb'⟩
            · rw [sub_self]; exact wordsAt_of (wordsAt_last HAT.out (Nat.le_refl _) (by rw [sub_length s m _ (Nat.le_refl _)]; omega)) (by omega)
            · rw [← wv_snoc, ← sub_extract]; simpa using hown'
          case measure => simp [intOf]
        · obtain rfl : m = s.size := by omega
          go_wp2
          go_roundw
          case rel =>
            refine ⟨s.size + 1, s.size + 1, acc, Nat.le_refl _, by omega, by omega, fun _ => rfl, by go_num, by go_num, ?_, hown, hb⟩
            rw [sub_self]; exact wordsAt_of (wordsAt_end (by have := HAT.out; rwa [sub_self] at this) (Nat.le_refl _)) (by omega)
          case measure => simp [intOf]
      · obtain rfl : k = s.size + 1 := by omega
        have HE : Hid (acc = wordsL (ls s)) := by
          have h := HAT.out
          rw [hend (by omega), sub_self] at h
          exact wordsAt_end h (by omega)
        go_wp2
        go_ret
        exact ⟨_, _, rfl, by rw [← HE.out]; exact hown, hb⟩

end Go.Proofs.Ytgilpheclmmolaa
