/-
  strings.Cut at a text of one byte (where the program holds no strings.Index).
-/
import Derived.Test.YtmfoegpdjajicaaCutP
import Derived.Test.YtmfoegpdjajicaaTyB
import Derived.Test.YtmfoegpdjajicaaShelf
import Derived.Shelf.RegionOpen
import Derived.WalkKit
import Derived.BigQuiet
import Derived.Deep.QuietTactic
namespace Go.Proofs.Ytmfoegpdjajicaa
open Go.RowKit Go.Shelf

theorem slx1_any (s : ByteArray) (c : UInt8) (w : World) : Calls Try.prog 57 #[.string s, .string ⟨#[c]⟩] w fun e w' => e = .returned (.int .i64 (Lib.indexByte (ls s) c)) ∧ w' = w :=
  Any.stringslite_Index_one Try.lays219 s c w
theorem ls_from9 (s : ByteArray) (k : Nat) : ls (s.extract k s.size) = (ls s).drop k := by
  rw [ls_extract, List.take_of_length_le]
  rw [List.length_drop, ls_length]
  exact Nat.le_refl _
/-- What strings.Cut answers. -/
def CutPost (s : ByteArray) (c : UInt8) (w : World) (e : Ending) (w' : World) : Prop :=
  e = .returned (.tuple #[.string (bs (befL (isB c) (ls s))), .string (bs ((fromL (isB c) (ls s)).drop 1)), .bool ((ls s).any (isB c))]) ∧ Below w.heap.size w w'

set_option maxHeartbeats 1000000 in
theorem slcut_any (s : ByteArray) (c : UInt8) (w : World) (hs : s.size ≤ 1000000000) : Calls Try.prog 51 #[.string s, .string ⟨#[c]⟩] w (CutPost s c w) := by
  have ci := fun W => slx1_any s c W
  unfold CutPost
  have hbf := bef_from (isB c) (ls s)
  rcases indexByte_cut c (ls s) with ⟨h1, h2, h3⟩ | ⟨r, h1, h2⟩
  · simp only [h1] at ci
    have ea : (ls s).any (isB c) = false := by
      refine none_any fun b hb => ?_
      rw [← h2] at hb
      exact bef_not _ _ b hb
    rw [h2, h3, ea, bs_ls]
    clear h1 h2 h3 ea hbf
    go_enter Try.func51, Try.ntmps51
    go_wp2_with (go_at_call 57; refine (ci _).mono ?_; rintro e w1 ⟨rfl, rfl⟩)
    go_ret3
    exact ⟨rfl, Below.refl _ _⟩
  · have ea : (ls s).any (isB c) = true := by
      rw [any_isB, ← hbf, h1]
      simp
    have hz : (befL (isB c) (ls s)).length + 1 ≤ s.size := by
      have := congrArg List.length hbf
      rw [h1, List.length_append, List.length_cons, ls_length] at this
      omega
    have e1 : ls (s.extract 0 (befL (isB c) (ls s)).length) = befL (isB c) (ls s) := by
      rw [ls_extract, List.drop_zero, Nat.sub_zero]
      have : (ls s).take (befL (isB c) (ls s)).length = (befL (isB c) (ls s) ++ fromL (isB c) (ls s)).take (befL (isB c) (ls s)).length := by rw [hbf]
      rw [this, List.take_left]
    have e2 : ls (s.extract ((befL (isB c) (ls s)).length + 1) s.size) = (fromL (isB c) (ls s)).drop 1 := by
      rw [ls_from9]
      have : (ls s).drop ((befL (isB c) (ls s)).length + 1) = (befL (isB c) (ls s) ++ fromL (isB c) (ls s)).drop ((befL (isB c) (ls s)).length + 1) := by rw [hbf]
      rw [this, ← List.drop_drop, List.drop_left]
    rw [ea]
    have f1 : s.extract 0 (befL (isB c) (ls s)).length = bs (befL (isB c) (ls s)) := by rw [← e1, bs_ls, e1]
    have f2 : s.extract ((befL (isB c) (ls s)).length + 1) s.size = bs ((fromL (isB c) (ls s)).drop 1) := by rw [← e2, bs_ls]
    rw [← f1, ← f2]
    simp only [h2] at ci
    generalize (befL (isB c) (ls s)).length = k at *
    clear h1 h2 ea hbf e1 e2 f1 f2
    have g1 : (k : Int) + 1 ≤ (s.size : Int) := by omega
    go_enter Try.func51, Try.ntmps51
    go_wp2_with (go_at_call 57; refine (ci _).mono ?_; rintro e w1 ⟨rfl, rfl⟩)
    go_quiet (fail)
    go_wp2
    go_ret3
    first | exact ⟨rfl, below_drewN (Below.refl _ _) _⟩ | exact ⟨rfl, below_drewN _ _⟩
theorem scut_any (s : ByteArray) (c : UInt8) (w : World) (hs : s.size ≤ 1000000000) : Calls Try.prog 38 #[.string s, .string ⟨#[c]⟩] w (CutPost s c w) := by
  have ci := slcut_any s c w hs
  unfold CutPost at ci ⊢
  generalize bs (befL (isB c) (ls s)) = X at *
  generalize bs ((fromL (isB c) (ls s)).drop 1) = Y at *
  generalize (ls s).any (isB c) = q at *
  go_enter Try.func38, Try.ntmps38
  go_wp2_with (go_at_call 51; refine ci.mono ?_; rintro e w1 ⟨rfl, hb⟩)
  go_ret3
  exact ⟨rfl, hb⟩

end Go.Proofs.Ytmfoegpdjajicaa
