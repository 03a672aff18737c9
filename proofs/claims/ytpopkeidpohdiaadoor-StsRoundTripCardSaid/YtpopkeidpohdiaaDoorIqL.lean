/-
  What the statements' listed variables give: the powers of ten that strconv.AppendUint reads; and that the program's own start lays them so.
-/
import Derived.Test.YtpopkeidpohdiaaDoorPowI
import Derived.LaidMore
import Derived.MakeChecks
import Derived.Stop.Joined
import Derived.Stop.LaidErr
import Derived.Lib.LaidTab
namespace Go.Proofs.YtpopkeidpohdiaaDoor
open Go.RowKit

/-- The list of the rows: the same for all of them. -/
abbrev laid4 : List (String × DataW Unit) := Rows.stsRoundTripRow.laid

theorem door_met (os : Os) (args : Array Value) : laidMetH Tryd.prog laid4 ((World.doorLaid Tryd.prog 400 os).forCall (fun _ _ => 0) ⟨#[], args, []⟩).memory :=
  laidMetH_of_parts3 (fuel := 8) (laidMet_of_run' 8 (by kernel_rfl) (by kernel_rfl)) (by kernel_rfl) (by kernel_rfl)

theorem pow_data : (Rows.laid_internal_strconv_uint64pow10 : DataW Unit) = Lib.tabData .u64 Lib.pow10Tab := by kernel_rfl

theorem pow_of_laid {W : World} (h : laidMetH Tryd.prog laid4 W) : Pow W := by
  rw [MakeChecks.laidMetH_plain _ _ _ (by kernel_rfl)] at h
  have h3 : laidMet Tryd.prog [(tabN, Lib.tabData .u64 Lib.pow10Tab)] W := by
    rw [← pow_data]
    exact h.tail.tail
  exact Lib.tabIs_of_head (g := 0) (t := 73) (e := 59) (n := 20) (by kernel_rfl) (by kernel_rfl) (by kernel_rfl) (by kernel_rfl) (by kernel_rfl) (by kernel_rfl) h3

end Go.Proofs.YtpopkeidpohdiaaDoor
