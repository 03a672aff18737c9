/-
  All that a statement on ipv6 needs; what the statements' listed variables give: the tables that strconv.AppendUint reads.
-/
import Derived.Test.YthihfhmclmmadaaDoorI6H
import Derived.Test.YthihfhmclmmadaaDoorI6J
import Derived.Test.YthihfhmclmmadaaDoorI6W
import Derived.Test.YthihfhmclmmadaaDoorIqL
import Derived.Lib.TrailingZeros
namespace Go.Proofs.YthihfhmclmmadaaDoor
open Go.RowKit

/-- The variable's name. -/
def tabD : String := (Rows.ipv6MatchesSpecRow.named.tail.tail).head (List.cons_ne_nil _ _)
theorem deb_data : ∃ zs : List Int, (Rows.laid_math_bits_deBruijn64tab : DataW Unit) = Lib.tabData .u8 zs ∧ zs.length = 64 ∧ zs.getD 15 0 = 4 :=
  ⟨Lib.deBruijn64tab.map fun (x : Nat) => (x : Int), by kernel_rfl, rfl, rfl⟩
theorem pow6_of_laid {W : World} (h : laidMetH Tryd.prog laid4 W) : Pow6 W := by
  refine ⟨pow_of_laid h, ?_⟩
  rw [MakeChecks.laidMetH_plain _ _ _ (by kernel_rfl)] at h
  obtain ⟨zs, he, hl, hz⟩ := deb_data
  obtain ⟨rest, h3⟩ : ∃ rest, laidMet Tryd.prog ((tabD, Lib.tabData .u8 zs) :: rest) W := by
    rw [← he]
    exact ⟨_, h.tail⟩
  have := (Lib.tabIs_of_head (g := 2) (t := 84) (e := 5) (n := 64) (by kernel_rfl) (by kernel_rfl) (by kernel_rfl) (by kernel_rfl) (by kernel_rfl) (by kernel_rfl) h3).cell (g := 2) (by kernel_rfl) 15 (by omega)
  rwa [hz] at this

end Go.Proofs.YthihfhmclmmadaaDoor
