/-
  Contract of Split of the reference of layer 1.
-/
import Derived.Test.YtgilpheclmmolaaTyB
import Derived.Test.YtgilpheclmmolaaTyT
import Derived.Test.YtgilpheclmmolaaSplP
namespace Go.Proofs.Ytgilpheclmmolaa
open Go.RowKit

/-- A list of strings that the call has made. -/
def ListPost (l : List (List UInt8)) (w : World) (e : Ending) (w' : World) : Prop :=
  ∃ v n, e = .returned v ∧ w'.ownsRow w.heap.size 9 1 v n (wv l) ∧ Below w.heap.size w w'
def SplitAt (c : UInt8) (s : ByteArray) (acc : List (List UInt8)) (cur : List UInt8) (i : Nat) : Prop := acc ++ splitG c ((ls s).drop i) cur = splitL c (ls s)
theorem splitAt_start (c : UInt8) (s : ByteArray) : SplitAt c s [] [] 0 := rfl
theorem drop_ls (s : ByteArray) (i : Nat) (h : i < s.size) : (ls s).drop i = s[i] :: (ls s).drop (i + 1) := by
  rw [List.drop_eq_getElem_cons (by rw [ls_length]; exact h), ls_getE s i h]
  rfl
theorem splitAt_byte {c : UInt8} {s : ByteArray} {acc cur} {i : Nat} (h : SplitAt c s acc cur i) (hi : i < s.size) (hb : s[i] ≠ c) : SplitAt c s acc (cur ++ [s[i]]) (i + 1) := by
  unfold SplitAt at h ⊢
  rw [drop_ls s i hi, splitG, if_neg hb] at h
  exact h
theorem splitAt_dot {c : UInt8} {s : ByteArray} {acc cur} {i : Nat} (h : SplitAt c s acc cur i) (hi : i < s.size) (hb : s[i] = c) : SplitAt c s (acc ++ [cur]) [] (i + 1) := by
  unfold SplitAt at h ⊢
  rw [drop_ls s i hi, splitG, if_pos hb] at h
  rw [List.append_assoc]
  exact h
theorem splitAt_end {c : UInt8} {s : ByteArray} {acc cur} (h : SplitAt c s acc cur s.size) : acc ++ [cur] = splitL c (ls s) := by
  unfold SplitAt at h
  rw [drop_ls_all, splitG] at h
  exact h

set_option maxRecDepth 20000 in
set_option maxHeartbeats 2000000 in
theorem refSplit_any (s : ByteArray) (c : UInt8) (w : World) (hs : s.size ≤ 1000000000) :
    Calls Try.prog 23 #[.string s, .int .u8 (c.toNat : Int)] w (ListPost (splitL c (ls s)) w) := by
  obtain ⟨i9, hi9, hz0, hz1, hz2⟩ := info_parts infoStr
  obtain ⟨cv, hcv⟩ : ∃ x : Int, x = (c.toNat : Int) := ⟨_, rfl⟩
  have HC := Lib.hid hcv
  rw [← hcv]
  clear hcv
  go_enter Try.func23, Try.ntmps23
  go_wp2
  go_loopw [5, 6, 7] (fun v f i wr => ∃ (k m : Nat) (acc : List (List UInt8)), m ≤ k ∧ k ≤ s.size + 1 ∧ acc.length ≤ k ∧ i = .int .i64 k ∧ f = .int .i64 m ∧ Hid (k ≤ s.size → SplitAt c s acc (sub s m k) k) ∧ Hid (s.size < k → acc = splitL c (ls s)) ∧
      wr.ownsRow w.heap.size 9 1 v acc.length (wv acc) ∧ Below w.heap.size w wr) (fun _ _ i _ => s.size + 1 - (intOf i).toNat)
  case atStart => exact ⟨0, 0, [], Nat.le_refl _, by omega, Nat.le_refl _, rfl, rfl, Lib.hid (fun _ => by rw [sub_self]; exact splitAt_start c s), Lib.hid (fun h => by omega), World.ownsRow_nil _ _ _ _, Below.refl _ _⟩
  case round =>
    obtain ⟨k, m, acc, hmk, hk, hal, rfl, rfl, HAT, HEND, hown, hb⟩ := hrel
    by_cases hlt : k < s.size
    · by_cases hsp : s[k] = c
      · have hq : ((s[k].toNat : Int) == cv) = true := by rw [HC.out, hsp]; simp
        have HSP := Lib.hid hsp
        clear hsp
        go_wp2_with (at_builtin; refine wpList_app_one _ rfl _ _ 22 rfl w.heap.size 9 i9 (.string ByteArray.empty) 16 tyStrs hi9 hz0 hz1 hz2 rfl _ (by exact rfl) _ _ _ (by exact rfl) hown (by exact rfl) (by unfold maxLen; omega) (by omega) hb (Nat.le_refl _) ?_; intro v' w' hown' hb' _)
        go_roundw
        case rel =>
          refine ⟨k + 1, k + 1, acc ++ [sub s m k], Nat.le_refl _, by omega, by simp; omega, by go_num, by go_num, Lib.hid (fun _ => ?_), Lib.hid (fun h => by omega), ?_, hb'⟩
          · rw [sub_self]; exact splitAt_dot (HAT.out (by omega)) hlt HSP.out
          · rw [← wv_snoc, ← sub_extract]; simpa using hown'
        case measure => simp [intOf]; omega
      · have hq : ((s[k].toNat : Int) == cv) = false := by
          rw [HC.out, beq_eq_false_iff_ne]
          exact fun e => hsp (UInt8.toNat_inj.1 (by omega))
        have HSP : Hid (s[k] ≠ c) := Lib.hid hsp
        clear hsp
        go_wp2
        go_roundw
        case rel =>
          refine ⟨k + 1, m, acc, by omega, by omega, by omega, by go_num, rfl, Lib.hid (fun _ => ?_), Lib.hid (fun h => by omega), hown, hb⟩
          rw [sub_succ s m k hmk hlt]; exact splitAt_byte (HAT.out (by omega)) hlt HSP.out
        case measure => simp [intOf]; omega
    · by_cases hle : k ≤ s.size
      · obtain rfl : k = s.size := by omega
        go_wp2_with (at_builtin; refine wpList_app_one _ rfl _ _ 22 rfl w.heap.size 9 i9 (.string ByteArray.empty) 16 tyStrs hi9 hz0 hz1 hz2 rfl _ (by exact rfl) _ _ _ (by exact rfl) hown (by exact rfl) (by unfold maxLen; omega) (by omega) hb (Nat.le_refl _) ?_; intro v' w' hown' hb' _)
        go_roundw
        case rel =>
          refine ⟨s.size + 1, s.size + 1, acc ++ [sub s m s.size], Nat.le_refl _, by omega, by simp; omega, by go_num, by go_num, Lib.hid (fun h => by omega), Lib.hid (fun _ => splitAt_end (HAT.out (Nat.le_refl _))), ?_, hb'⟩
          rw [← wv_snoc, ← sub_extract]; simpa using hown'
        case measure => simp [intOf]
      · obtain rfl : k = s.size + 1 := by omega
        have HE : Hid (acc = splitL c (ls s)) := Lib.hid (HEND.out (by omega))
        go_wp2
        go_ret
        exact ⟨_, _, rfl, by rw [← HE.out]; exact hown, hb⟩

end Go.Proofs.Ytgilpheclmmolaa
