/-
  Contract of EqualFold of the reference of layer 1.
-/
import Derived.Test.YtmfoegpdjajicaaRfL
import Derived.BigQuiet
import Derived.Deep.QuietTactic
import Derived.WalkSmall
namespace Go.Proofs.Ytmfoegpdjajicaa
open Go.RowKit

set_option maxHeartbeats 1000000 in
theorem refEqualFold_any (a b : ByteArray) (w : World) (ha : a.size ≤ 1000000000) (hb : b.size ≤ 1000000000) :
    Calls Try.prog 36 #[.string a, .string b] w fun e w' => e = .returned (.bool (foldB a b)) ∧ Below w.heap.size w w' := by
  have HF : Hid (((lowS a).toList == (lowS b).toList) = foldB a b) := by
    show _ = _
    rw [toList_ls, toList_ls]
    rfl
  go_enter Try.func36, Try.ntmps36
  go_wp2_with fail
  refine (refLower_any a _ ha).mono ?_
  rintro e w1 ⟨rfl, hb1⟩
  go_wp2_with fail
  refine (refLower_any b _ hb).mono ?_
  rintro e w2 ⟨rfl, hb2⟩
  go_wp2_with fail
  go_ret
  exact ⟨ret_bool HF.out, hb1.trans (hb2.mono hb1.size)⟩

end Go.Proofs.Ytmfoegpdjajicaa
