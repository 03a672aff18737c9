/-
What the statements' listed variables give: the library's tables and the error of a text that is no number.
-/
import Derived.Test.YtdplgbaneggenaaGreatDoorB21
import Derived.Test.YtdplgbaneggenaaGreatDoorShelf
import Derived.PinnedBridge
import Derived.Lib.LaidU8
import Derived.Lib.LaidTab
import Derived.Lib.TrailingZeros
import Derived.MakeChecks
import Derived.Lay
import Derived.LaidOnce
import Derived.Stop.LaidErr
namespace Go.Proofs.YtdplgbaneggenaaGreatDoor
section
open Go.RowKit

/-- The list of the rows: the same for all of them. -/
abbrev laid4 : List (String × DataW Unit) := Rows.hostParseMatchesSpecRow.laid
theorem acc_data : (Rows.laid_unicode_utf8_acceptRanges : DataW Unit) = Lib.acceptData := by kernel_rfl
theorem fst_data : (Rows.laid_unicode_utf8_first : DataW Unit) = Lib.firstData := Pinned.utf8First_eq
theorem pow_data : (Rows.laid_internal_strconv_uint64pow10 : DataW Unit) = Lib.tabData .u64 Lib.pow10Tab := by kernel_rfl
theorem deb_data : ∃ zs : List Int, (Rows.laid_math_bits_deBruijn64tab : DataW Unit) = Lib.tabData .u8 zs ∧ zs.length = 64 ∧ zs.getD 15 0 = 4 :=
  ⟨Lib.deBruijn64tab.map fun (x : Nat) => (x : Int), by kernel_rfl, rfl, rfl⟩
/-- The variable's name. -/
def tabD : String := (Rows.hostParseMatchesSpecRow.named.tail.tail).head (List.cons_ne_nil _ _)
theorem u8_extra : U8Extra Tryz.prog Tryz.lays197_ren := ⟨by kernel_rfl, by kernel_rfl, by kernel_rfl, by kernel_rfl, by kernel_rfl, by kernel_rfl, by kernel_rfl⟩
/-- The variable's name. -/
def tabE : String := (Rows.hostParseMatchesSpecRow.named.tail.tail.tail).head (List.cons_ne_nil _ _)
theorem err_data : ∃ l : List UInt8, (Rows.laid_strconv_ErrSyntax : DataW Unit) = .iface "*errors.errorString" (.ptr (.agg [.lit (.string l)])) := ⟨_, rfl⟩
theorem err_star : "*" ++ "errors.errorString" = "*errors.errorString" := by decide
theorem err_row (u : TypeId) (h : Tryz.prog.typeName? 3 u = some "*errors.errorString") : u = 170 :=
  typeName_ptr_named (nm := "errors.errorString") (by rw [err_star]; kernel_rfl) (by kernel_rfl) (by decide) u (by rw [err_star]; exact h)
set_option maxRecDepth 20000 in
theorem hw_of_laid {W : World} (h : laidMetH Tryz.prog laid4 W) : Hw W := by
  rw [MakeChecks.laidMetH_plain _ _ _ (by kernel_rfl)] at h
  refine ⟨⟨?_, ?_⟩, ?_, ?_⟩
  · obtain ⟨rest, h3⟩ : ∃ rest, laidMet Tryz.prog ((tabN, Lib.tabData .u64 Lib.pow10Tab) :: rest) W := by
      rw [← pow_data]
      exact ⟨_, h.tail.tail⟩
    exact Lib.tabIs_of_head (g := 3) (t := 150) (e := 74) (n := 20) (by kernel_rfl) (by kernel_rfl) (by kernel_rfl) (by kernel_rfl) (by kernel_rfl) (by kernel_rfl) h3
  · obtain ⟨zs, he, hl, hz⟩ := deb_data
    obtain ⟨rest, h3⟩ : ∃ rest, laidMet Tryz.prog ((tabD, Lib.tabData .u8 zs) :: rest) W := by
      rw [← he]
      exact ⟨_, h.tail⟩
    have := (Lib.tabIs_of_head (g := 7) (t := 174) (e := 5) (n := 64) (by kernel_rfl) (by kernel_rfl) (by kernel_rfl) (by kernel_rfl) (by kernel_rfl) (by kernel_rfl) h3).cell (g := 7) (by kernel_rfl) 15 (by omega)
    rwa [hz] at this
  · exact utf8Tabs_of_reads { Tryz.lays197 with } u8_extra (fst_data ▸ Lib.laidMet.reads h (.tail _ (.tail _ (.tail _ (.tail _ (.tail _ (.tail _ (.head _)))))))) (acc_data ▸ Lib.laidMet.reads h (.tail _ (.tail _ (.tail _ (.head _)))))
  · obtain ⟨l, hl⟩ := err_data
    obtain ⟨rest, h3⟩ : ∃ rest, laidMet Tryz.prog ((tabE, .iface "*errors.errorString" (.ptr (.agg [.lit (.string l)]))) :: rest) W := by
      rw [← hl]
      exact ⟨_, h.tail.tail.tail.tail.tail⟩
    obtain ⟨a, s, hv, _⟩ := laid_sentinel (g := 4) (ti := 97) (tp := 170) (te := 172) (ts := 9) h3 (by kernel_rfl) (by kernel_rfl) Tryz.underlying97 (fun u hu => err_row u hu) Tryz.underlying170 Tryz.underlying172 rfl rfl tyStr (by kernel_rfl) (by kernel_rfl)
    exact ⟨_, _, by simpa using World.var?_cell (g := 4) (by kernel_rfl) hv 0⟩
end

end Go.Proofs.YtdplgbaneggenaaGreatDoor
