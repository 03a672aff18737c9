/-
  Contracts of Words, of package ascii and of its reference.
-/
import Derived.Test.YtibimijpkmddeaaAsc3
import Derived.Deep.LoopGhost
import Derived.WalkMore
namespace Go.Proofs.Ytibimijpkmddeaa
open Go.RowKit

theorem tyStrs : Try.prog.underlying 28 = some (.slice 9) := by kernel_rfl
theorem infoStr : (Try.prog.info? 9).map (fun i => (i.zero, i.size, i.bytes)) = some (some (.string ByteArray.empty), 1, 16) := by kernel_rfl

def wv (acc : List (List UInt8)) : List Value := acc.map fun l => .string (bs l)
theorem wv_snoc (acc : List (List UInt8)) (l : List UInt8) : wv acc ++ [.string (bs l)] = wv (acc ++ [l]) := by simp [wv]
def WordsPost (s : ByteArray) (w : World) (e : Ending) (w' : World) : Prop :=
  ∃ v n, e = .returned v ∧ w'.ownsRow w.heap.size 9 1 v n (wv (wordsL (ls s))) ∧ Below w.heap.size w w'

set_option maxHeartbeats 2000000 in
theorem refWords_any (s : ByteArray) (w : World) (hs : s.size ≤ 1000000000) :
    Calls Try.prog 23 #[.string s] w (WordsPost s w) := by
  obtain ⟨i9, hi9, hz0, hz1, hz2⟩ := info_parts infoStr
  go_enter Try.func23, Try.ntmps23
  go_wp2
  go_loopw [3, 4, 5] (fun v f i wr => ∃ (k m : Nat) (acc : List (List UInt8)), m ≤ k ∧ k ≤ s.size + 1 ∧ acc.length ≤ k ∧ (s.size < k → m = k) ∧ i = .int .i64 k ∧ f = .int .i64 m ∧ WordsAt s acc (sub s m k) k ∧
      wr.ownsRow w.heap.size 9 1 v acc.length (wv acc) ∧ Below w.heap.size w wr) (fun _ _ i _ => s.size + 1 - (intOf i).toNat)
  case atStart => exact ⟨0, 0, [], Nat.le_refl _, by omega, Nat.le_refl _, by omega, rfl, rfl, wordsAt_start s, World.ownsRow_nil _ _ _ _, Below.refl _ _⟩
  case round =>
    obtain ⟨k, m, acc, hmk, hk, hal, hend, rfl, rfl, hat, hown, hb⟩ := hrel
    have HAT := Lib.hid hat
    clear hat
    by_cases hlt : k < s.size
    · by_cases hsp : spaceU s[k] = true
      · have hsp' : spaceB (s[k].toNat : Int) = true := hsp
        have HSP := Lib.hid hsp
        clear hsp
        by_cases hmk2 : m < k
        · go_wp2_with (first | (go_at_call 12; refine (refIsSpace_any _ _).mono ?_; rintro e w' ⟨rfl, rfl⟩) | (at_builtin; refine wpList_app_one _ rfl _ _ 28 rfl w.heap.size 9 i9 (.string ByteArray.empty) 16 tyStrs hi9 hz0 hz1 hz2 rfl _ (by exact rfl) _ _ _ (by exact rfl) hown (by exact rfl) (by unfold maxLen; omega) (by omega) hb (Nat.le_refl _) ?_; intro v' w' hown' hb' _))
          go_roundw
          case rel =>
            refine ⟨k + 1, k + 1, acc ++ [sub s m k], Nat.le_refl _, by omega, by simp; omega, fun _ => rfl, by go_num, by go_num, ?_, ?_, hb'⟩
            · rw [sub_self]; exact wordsAt_word HAT.out hlt HSP.out (by rw [sub_length s m k (by omega)]; omega)
            · rw [← wv_snoc, ← sub_extract]; simpa using hown'
          case measure => simp [intOf]; omega
        · obtain rfl : m = k := by omega
          go_wp2_with (go_at_call 12; refine (refIsSpace_any _ _).mono ?_; rintro e w' ⟨rfl, rfl⟩)
          go_roundw
          case rel =>
            refine ⟨m + 1, m + 1, acc, Nat.le_refl _, by omega, by omega, fun _ => rfl, by go_num, by go_num, ?_, hown, hb⟩
            rw [sub_self]; exact wordsAt_skip (by have := HAT.out; rwa [sub_self] at this) hlt HSP.out
          case measure => simp [intOf]; omega
      · have hsp' : spaceB (s[k].toNat : Int) = false := by simpa [spaceU] using hsp
        have HSP : Hid (spaceU s[k] = false) := by show _ = _; simpa using hsp
        clear hsp
        go_wp2_with (go_at_call 12; refine (refIsSpace_any _ _).mono ?_; rintro e w' ⟨rfl, rfl⟩)
        go_roundw
        case rel =>
          refine ⟨k + 1, m, acc, by omega, by omega, by omega, by omega, by go_num, rfl, ?_, hown, hb⟩
          rw [sub_succ s m k hmk hlt]; exact wordsAt_byte HAT.out hlt HSP.out
        case measure => simp [intOf]; omega
    · by_cases hle : k ≤ s.size
      · obtain rfl : k = s.size := by omega
        by_cases hmk2 : m < s.size
        · go_wp2_with (at_builtin; refine wpList_app_one _ rfl _ _ 28 rfl w.heap.size 9 i9 (.string ByteArray.empty) 16 tyStrs hi9 hz0 hz1 hz2 rfl _ (by exact rfl) _ _ _ (by exact rfl) hown (by exact rfl) (by unfold maxLen; omega) (by omega) hb (Nat.le_refl _) ?_; intro v' w' hown' hb' _)
          go_roundw
          case rel =>
            refine ⟨s.size + 1, s.size + 1, acc ++ [sub s m s.size], Nat.le_refl _, by omega, by simp; omega, fun _ => rfl, by go_num, by go_num, ?_, ?_, hb'⟩
            · rw [sub_self]; exact wordsAt_of (wordsAt_last HAT.out (Nat.le_refl _) (by rw [sub_length s m _ (Nat.le_refl _)]; omega)) (by omega)
            · rw [← wv_snoc, ← sub_extract]; simpa using hown'
          case measure => simp [intOf]
        · obtain rfl : m = s.size := by omega
          go_wp2
          go_roundw
          case rel =>
            refine ⟨s.size + 1, s.size + 1, acc, Nat.le_refl _, by omega, by omega, fun _ => rfl, by go_num, by go_num, ?_, hown, hb⟩
            rw [sub_self]; exact wordsAt_of (wordsAt_end (by have := HAT.out; rwa [sub_self] at this) (Nat.le_refl _)) (by omega)
          case measure => simp [intOf]
      · obtain rfl : k = s.size + 1 := by omega
        have HE : Hid (acc = wordsL (ls s)) := by
          have h := HAT.out
          rw [hend (by omega), sub_self] at h
          exact wordsAt_end h (by omega)
        go_wp2
        go_ret
        exact ⟨_, _, rfl, by rw [← HE.out]; exact hown, hb⟩

set_option maxHeartbeats 2000000 in
theorem words_any (s : ByteArray) (w : World) (hs : s.size ≤ 1000000000) :
    Calls Try.prog 22 #[.string s] w (WordsPost s w) := by
  obtain ⟨i9, hi9, hz0, hz1, hz2⟩ := info_parts infoStr
  obtain ⟨i5, hi5, hy0, hy1, hy2⟩ := info_parts infoU8
  go_enter Try.func22, Try.ntmps22
  go_wp2
  go_step3
  go_wp2
  go_step3
  go_wp2
  go_loopg [3, 4] (s.size + 1) (fun g v i wr => ∃ (k : Nat) (acc : List (List UInt8)), k ≤ s.size ∧ acc.length ≤ k ∧ g = s.size + 1 - k ∧ i = .int .i64 k ∧ WordsAt s acc [] k ∧
      wr.ownsRow w.heap.size 9 1 v acc.length (wv acc) ∧ Below w.heap.size w wr)
  case atStart => exact ⟨0, [], Nat.zero_le _, Nat.le_refl _, rfl, rfl, wordsAt_start s, World.ownsRow_nil _ _ _ _, Below.refl _ _⟩
  case round =>
    obtain ⟨k, acc, hk, hal, hg, rfl, hat, hown, hb⟩ := hrel
    have HAT := Lib.hid hat
    have HG := Lib.hid hg
    clear hat hg
    go_wp2
    obtain ⟨wo, rfl⟩ : ∃ wo : World, wo = wr := ⟨_, rfl⟩
    obtain ⟨go, rfl⟩ : ∃ go : Nat, go = gk := ⟨_, rfl⟩
    go_loopg [4] (s.size + 1 - k) (fun g i wr => ∃ (j : Nat), wr = wo ∧ k ≤ j ∧ j ≤ s.size ∧ g = s.size + 1 - j ∧ i = .int .i64 j ∧ WordsAt s acc [] j)
    case atStart => exact ⟨k, rfl, Nat.le_refl _, hk, rfl, rfl, HAT.out⟩
    case round =>
      obtain ⟨j, rfl, hkj, hjs, hg2, rfl, hat2⟩ := hrel
      have HAT2 := Lib.hid hat2
      have HG2 := Lib.hid hg2
      clear hat2 hg2
      by_cases hlt : j < s.size
      · have hne : ((j : Int) == (s.size : Int)) = false := by simp; omega
        by_cases hsp : spaceU s[j] = true
        · have hsp' : spaceB (s[j].toNat : Int) = true := hsp
          have HSP := Lib.hid hsp
          clear hsp
          go_wp2_with (go_at_call 11; refine (isSpace_any _ _).mono ?_; rintro e w' ⟨rfl, rfl⟩)
          go_roundg (s.size + 1 - (j + 1))
          case rel => exact ⟨j + 1, rfl, by omega, by omega, rfl, by go_num, wordsAt_skip HAT2.out hlt HSP.out⟩
          case measure => rw [HG2.out]; omega
        · have hsp' : spaceB (s[j].toNat : Int) = false := by simpa [spaceU] using hsp
          have HSP : Hid (spaceU s[j] = false) := by show _ = _; simpa using hsp
          clear hsp
          go_wp2_with (go_at_call 11; refine (isSpace_any _ _).mono ?_; rintro e w' ⟨rfl, rfl⟩)
          go_loopg [5, 4] (s.size + 1 - j) (fun g v i wr => ∃ (m : Nat) (l : List UInt8), j ≤ m ∧ m ≤ s.size ∧ l.length = m - j ∧ g = s.size + 1 - m ∧ i = .int .i64 m ∧ WordsAt s acc l m ∧
            wr.ownsRow w.heap.size 5 1 v l.length (l.map bv) ∧ wr.ownsRow w.heap.size 9 1 u3 acc.length (wv acc) ∧ Below w.heap.size w wr)
          case atStart => exact ⟨j, [], Nat.le_refl _, hjs, by simp, rfl, rfl, HAT2.out, World.ownsRow_nil _ _ _ _, hown, hb⟩
          case round =>
            obtain ⟨m, l, hjm, hms, hll, hg3, rfl, hat3, hwo, hown2, hb2⟩ := hrel
            have HAT3 := Lib.hid hat3
            have HG3 := Lib.hid hg3
            have HLL := Lib.hid hll
            have hlb : l.length ≤ m := by omega
            clear hat3 hg3 hll
            by_cases hc : ∃ h : m < s.size, spaceU s[m] = false
            · obtain ⟨hlt2, hns⟩ := hc
              have hns' : spaceB (s[m].toNat : Int) = false := hns
              have HNS := Lib.hid hns
              clear hns
              go_wp2_with (first | (go_at_call 11; refine (isSpace_any _ _).mono ?_; rintro e w' ⟨rfl, rfl⟩) | (at_builtin; refine wpList_app_one _ rfl _ _ 31 rfl w.heap.size 5 i5 (.int .u8 0) 1 tyBs hi5 hy0 hy1 hy2 rfl _ (by exact rfl) _ _ _ (by exact rfl) hwo (by exact rfl) (by unfold maxLen; omega) (by omega) hb2 (Nat.le_refl _) ?_; intro v' w' hown' hb' hgr))
              go_roundg (s.size + 1 - (m + 1))
              case rel => exact ⟨m + 1, l ++ [s[m]], by omega, by omega, by rw [List.length_append, HLL.out]; simp; omega, rfl, by go_num, wordsAt_byte HAT3.out hlt2 HNS.out, by simpa [bv] using hown', hown2.kept hgr (owns_ne hown2 hwo (by decide)), hb'⟩
              case measure => rw [HG3.out]; omega
            · have hjm2 : j < m := by
                rcases Nat.lt_or_ge j m with h | h
                · exact h
                · obtain rfl : j = m := by omega
                  exact absurd ⟨hlt, HSP.out⟩ hc
              have hconv := str_owned wr _ _ _ _ hwo
              by_cases hlt2 : m < s.size
              · have hns' : spaceB (s[m].toNat : Int) = true := by
                  cases hb : spaceU s[m] with
                  | true => exact hb
                  | false => exact absurd ⟨hlt2, hb⟩ hc
                clear hc
                have HNX := Lib.hid (wordsAt_stop HAT3.out hlt2 hns' (by rw [HLL.out]; omega))
                go_wp2_with (first | (go_at_call 11; refine (isSpace_any _ _).mono ?_; rintro e w' ⟨rfl, rfl⟩) | (at_builtin; refine wpList_app_one _ rfl _ _ 28 rfl w.heap.size 9 i9 (.string ByteArray.empty) 16 tyStrs hi9 hz0 hz1 hz2 rfl _ (by exact rfl) _ _ _ (by exact rfl) hown2 (by exact rfl) (by unfold maxLen; omega) (by omega) hb2 (Nat.le_refl _) ?_; intro v' w' hown' hb' hgr))
                go_roundg (s.size + 1 - m)
                case rel => exact ⟨m, acc ++ [l], hms, by simp; omega, rfl, rfl, HNX.out, by rw [← wv_snoc]; simpa using hown', hb'⟩
                case measure => rw [HG.out]; omega
              · clear hc
                have HNX := Lib.hid (wordsAt_of (wordsAt_last HAT3.out (by omega) (by rw [HLL.out]; omega)) (i := m) (by omega))
                go_wp2_with (first | (go_at_call 11; refine (isSpace_any _ _).mono ?_; rintro e w' ⟨rfl, rfl⟩) | (at_builtin; refine wpList_app_one _ rfl _ _ 28 rfl w.heap.size 9 i9 (.string ByteArray.empty) 16 tyStrs hi9 hz0 hz1 hz2 rfl _ (by exact rfl) _ _ _ (by exact rfl) hown2 (by exact rfl) (by unfold maxLen; omega) (by omega) hb2 (Nat.le_refl _) ?_; intro v' w' hown' hb' hgr))
                go_roundg (s.size + 1 - m)
                case rel => exact ⟨m, acc ++ [l], hms, by simp; omega, rfl, rfl, HNX.out, by rw [← wv_snoc]; simpa using hown', hb'⟩
                case measure => rw [HG.out]; omega
      · obtain rfl : j = s.size := by omega
        have HE := Lib.hid (wordsAt_end HAT2.out (Nat.le_refl _))
        go_wp2
        rw [Exit.noGoto_ret]
        go_ret
        exact ⟨_, _, rfl, by rw [← HE.out]; exact hown, hb⟩

end Go.Proofs.Ytibimijpkmddeaa
