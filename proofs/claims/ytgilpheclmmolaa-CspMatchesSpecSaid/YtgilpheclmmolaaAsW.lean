/-
  Contract of Words of package ascii.
-/
import Derived.Test.YtgilpheclmmolaaWrd
namespace Go.Proofs.Ytgilpheclmmolaa
open Go.RowKit

set_option maxHeartbeats 400000 in
theorem isSpace_any (b : Int) (w : World) : Calls Try.prog 27 #[.int .u8 b] w fun e w' => e = .returned (.bool (spaceB b)) ∧ w = w' := by
  go_enter Try.func27, Try.ntmps27
  go_wp2
  all_goals
    go_ret
    exact ⟨ret_bool (by simp [spaceB, blankB, *]), rfl⟩

set_option maxHeartbeats 2000000 in
theorem words_any (s : ByteArray) (w : World) (hs : s.size ≤ 1000000000) :
    Calls Try.prog 21 #[.string s] w (WordsPost s w) := by
  obtain ⟨i9, hi9, hz0, hz1, hz2⟩ := info_parts infoStr
  obtain ⟨i5, hi5, hy0, hy1, hy2⟩ := info_parts infoU8
  go_enter Try.func21, Try.ntmps21
  go_wp2
  go_step3
  go_wp2
  go_step3
  go_wp2
  go_loopg [3, 4] (s.size + 1) (fun g v i wr => ∃ (k : Nat) (acc : List (List UInt8)), k ≤ s.size ∧ acc.length ≤ k ∧ g = s.size + 1 - k ∧ i = .int .i64 k ∧ WordsAt s acc [] k ∧
      wr.ownsRow w.heap.size 9 1 v acc.length (wv acc) ∧ Below w.heap.size w wr)
  case atStart => exact ⟨0, [], Nat.zero_le _, Nat.le_refl _, rfl, rfl, wordsAt_start s, World.ownsRow_nil _ _ _ _, Below.refl _ _⟩
  case round =>
    obtain ⟨k, acc, hk, hal, hg, rfl, hat, hown, hb⟩ := hrel
    have HAT := Lib.hid hat
    have HG := Lib.hid hg
    clear hat hg
    go_wp2
    obtain ⟨wo, rfl⟩ : ∃ wo : World, wo = wr := ⟨_, rfl⟩
    obtain ⟨go, rfl⟩ : ∃ go : Nat, go = gk := ⟨_, rfl⟩
    go_loopg [4] (s.size + 1 - k) (fun g i wr => ∃ (j : Nat), wr = wo ∧ k ≤ j ∧ j ≤ s.size ∧ g = s.size + 1 - j ∧ i = .int .i64 j ∧ WordsAt s acc [] j)
    case atStart => exact ⟨k, rfl, Nat.le_refl _, hk, rfl, rfl, HAT.out⟩
    case round =>
      obtain ⟨j, rfl, hkj, hjs, hg2, rfl, hat2⟩ := hrel
      have HAT2 := Lib.hid hat2
      have HG2 := Lib.hid hg2
      clear hat2 hg2
      by_cases hlt : j < s.size
      · have hne : ((j : Int) == (s.size : Int)) = false := by simp; omega
        by_cases hsp : spaceU s[j] = true
        · have hsp' : spaceB (s[j].toNat : Int) = true := hsp
          have HSP := Lib.hid hsp
          clear hsp
          go_wp2_with (go_at_call 27; refine (isSpace_any _ _).mono ?_; rintro e w' ⟨rfl, rfl⟩)
          go_roundg (s.size + 1 - (j + 1))
          case rel => exact ⟨j + 1, rfl, by omega, by omega, rfl, by go_num, wordsAt_skip HAT2.out hlt HSP.out⟩
          case measure => rw [HG2.out]; omega
        · have hsp' : spaceB (s[j].toNat : Int) = false := by simpa [spaceU] using hsp
          have HSP : Hid (spaceU s[j] = false) := by show _ = _; simpa using hsp
          clear hsp
          go_wp2_with (go_at_call 27; refine (isSpace_any _ _).mono ?_; rintro e w' ⟨rfl, rfl⟩)
          go_loopg [5, 4] (s.size + 1 - j) (fun g v i wr => ∃ (m : Nat) (l : List UInt8), j ≤ m ∧ m ≤ s.size ∧ l.length = m - j ∧ g = s.size + 1 - m ∧ i = .int .i64 m ∧ WordsAt s acc l m ∧
            wr.ownsRow w.heap.size 5 1 v l.length (l.map bv) ∧ wr.ownsRow w.heap.size 9 1 u3 acc.length (wv acc) ∧ Below w.heap.size w wr)
          case atStart => exact ⟨j, [], Nat.le_refl _, hjs, by simp, rfl, rfl, HAT2.out, World.ownsRow_nil _ _ _ _, hown, hb⟩
          case round =>
            obtain ⟨m, l, hjm, hms, hll, hg3, rfl, hat3, hwo, hown2, hb2⟩ := hrel
            have HAT3 := Lib.hid hat3
            have HG3 := Lib.hid hg3
            have HLL := Lib.hid hll
            have hlb : l.length ≤ m := by omega
            clear hat3 hg3 hll
            by_cases hc : ∃ h : m < s.size, spaceU s[m] = false
            · obtain ⟨hlt2, hns⟩ := hc
              have hns' : spaceB (s[m].toNat : Int) = false := hns
              have HNS := Lib.hid hns
              clear hns
              go_wp2_with (first | (go_at_call 27; refine (isSpace_any _ _).mono ?_; rintro e w' ⟨rfl, rfl⟩) | (at_builtin; refine wpList_app_one _ rfl _ _ 43 rfl w.heap.size 5 i5 (.int .u8 0) 1 tyBs hi5 hy0 hy1 hy2 rfl _ (by exact rfl) _ _ _ (by exact rfl) hwo (by exact rfl) (by unfold maxLen; omega) (by omega) hb2 (Nat.le_refl _) ?_; intro v' w' hown' hb' hgr))
              go_roundg (s.size + 1 - (m + 1))
              case rel => exact ⟨m + 1, l ++ [s[m]], by omega, by omega, by rw [List.length_append, HLL.out]; simp; omega, rfl, by go_num, wordsAt_byte HAT3.out hlt2 HNS.out, by simpa [bv] using hown', hown2.kept hgr (owns_ne hown2 hwo (by decide)), hb'⟩
              case measure => rw [HG3.out]; omega
            · have hjm2 : j < m := by
                rcases Nat.lt_or_ge j m with h | h
                · exact h
                · obtain rfl : j = m := by omega
                  exact absurd ⟨hlt, HSP.out⟩ hc
              have hconv := str_owned wr _ _ _ _ hwo
              by_cases hlt2 : m < s.size
              · have hns' : spaceB (s[m].toNat : Int) = true := by
                  cases hb : spaceU s[m] with
                  | true => exact hb
                  | false => exact absurd ⟨hlt2, hb⟩ hc
                clear hc
                have HNX := Lib.hid (wordsAt_stop HAT3.out hlt2 hns' (by rw [HLL.out]; omega))
                go_wp2_with (first | (go_at_call 27; refine (isSpace_any _ _).mono ?_; rintro e w' ⟨rfl, rfl⟩) | (at_builtin; refine wpList_app_one _ rfl _ _ 22 rfl w.heap.size 9 i9 (.string ByteArray.empty) 16 tyStrs hi9 hz0 hz1 hz2 rfl _ (by exact rfl) _ _ _ (by exact rfl) hown2 (by exact rfl) (by unfold maxLen; omega) (by omega) hb2 (Nat.le_refl _) ?_; intro v' w' hown' hb' hgr))
                go_roundg (s.size + 1 - m)
                case rel => exact ⟨m, acc ++ [l], hms, by simp; omega, rfl, rfl, HNX.out, by rw [← wv_snoc]; simpa using hown', hb'⟩
                case measure => rw [HG.out]; omega
              · clear hc
                have HNX := Lib.hid (wordsAt_of (wordsAt_last HAT3.out (by omega) (by rw [HLL.out]; omega)) (i := m) (by omega))
                go_wp2_with (first | (go_at_call 27; refine (isSpace_any _ _).mono ?_; rintro e w' ⟨rfl, rfl⟩) | (at_builtin; refine wpList_app_one _ rfl _ _ 22 rfl w.heap.size 9 i9 (.string ByteArray.empty) 16 tyStrs hi9 hz0 hz1 hz2 rfl _ (by exact rfl) _ _ _ (by exact rfl) hown2 (by exact rfl) (by unfold maxLen; omega) (by omega) hb2 (Nat.le_refl _) ?_; intro v' w' hown' hb' hgr))
                go_roundg (s.size + 1 - m)
                case rel => exact ⟨m, acc ++ [l], hms, by simp; omega, rfl, rfl, HNX.out, by rw [← wv_snoc]; simpa using hown', hb'⟩
                case measure => rw [HG.out]; omega
      · obtain rfl : j = s.size := by omega
        have HE := Lib.hid (wordsAt_end HAT2.out (Nat.le_refl _))
        go_wp2
        rw [Exit.noGoto_ret]
        go_ret
        exact ⟨_, _, rfl, by rw [← HE.out]; exact hown, hb⟩

end Go.Proofs.Ytgilpheclmmolaa
