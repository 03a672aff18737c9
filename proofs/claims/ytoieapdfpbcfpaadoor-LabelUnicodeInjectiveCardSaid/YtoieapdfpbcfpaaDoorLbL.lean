/-
  What the statements' listed variables give: the two tables that unicode/utf8 reads.
-/
import Derived.Test.YtoieapdfpbcfpaaDoorU8T
import Derived.Test.YtoieapdfpbcfpaaDoorShelf
import Derived.PinnedBridge
import Derived.Lib.LaidU8
import Derived.MakeChecks
import Derived.Lay
import Derived.LaidOnce
namespace Go.Proofs.YtoieapdfpbcfpaaDoor
open Go.RowKit

/-- The list of the rows: the same for all of them. -/
abbrev laid4 : List (String × DataW Unit) := Rows.labelMatchesSpecRow.laid
theorem acc_data : (Rows.laid_unicode_utf8_acceptRanges : DataW Unit) = Lib.acceptData := by kernel_rfl
theorem fst_data : (Rows.laid_unicode_utf8_first : DataW Unit) = Lib.firstData := Pinned.utf8First_eq
theorem u8_extra : U8Extra Tryd.prog Tryd.lays197_ren := ⟨by kernel_rfl, by kernel_rfl, by kernel_rfl, by kernel_rfl, by kernel_rfl, by kernel_rfl, by kernel_rfl⟩
theorem u8_of_laid {W : World} (h : laidMetH Tryd.prog laid4 W) : U8 W := by
  rw [MakeChecks.laidMetH_plain _ _ _ (by kernel_rfl)] at h
  exact utf8Tabs_of_reads { Tryd.lays197 with } u8_extra (fst_data ▸ Lib.laidMet.reads h (.tail _ (.head _))) (acc_data ▸ Lib.laidMet.reads h (.head _))

end Go.Proofs.YtoieapdfpbcfpaaDoor
