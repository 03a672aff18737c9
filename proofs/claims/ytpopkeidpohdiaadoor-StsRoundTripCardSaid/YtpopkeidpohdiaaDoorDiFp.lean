/-
  Plain: what is asked of a directive, by names and values.
-/
import Derived.Test.YtpopkeidpohdiaaDoorDvM
import Derived.Test.YtpopkeidpohdiaaDoorQdP
import Derived.Test.YtpopkeidpohdiaaDoorDiT
namespace Go.Proofs.YtpopkeidpohdiaaDoor
open Go.RowKit

theorem bs_beq (a b : List UInt8) : ((bs a).toList == (bs b).toList) = decide (a = b) := by
  rw [toList_ls, toList_ls, ls_bs, ls_bs]
  rw [Bool.eq_iff_iff]
  simp
theorem isTk_bs (l : List UInt8) : isTk (bs l) = (!l.isEmpty && l.all tokU) := rfl
theorem bs_beq0 (a : List UInt8) : ((bs a).toList == ([] : List UInt8)) = a.isEmpty := by
  rw [toList_ls, ls_bs]
  cases a <;> rfl
def nmOk (l : List UInt8) : Bool := !l.isEmpty && l.all tokU && decide (lowL l = l)
def vlOk (h : Bool) (l : List UInt8) : Bool := (h || l.isEmpty) && l.all inU
theorem dv_ok (d : Dv) : d.ok = (nmOk d.name && vlOk d.has d.value) := by
  unfold Dv.ok nmOk vlOk
  simp only [Bool.and_assoc]
/-- Names and values are not too long. -/
def SmDv (l : List Dv) : Prop := ∀ d ∈ l, d.name.length ≤ 1000000 ∧ d.value.length ≤ 1000000
theorem all_drop {l : List Dv} {k : Nat} (h : k < l.length) : (l.drop k).all Dv.ok = (l[k].ok && (l.drop (k + 1)).all Dv.ok) := by
  rw [List.drop_eq_getElem_cons h, List.all_cons]

end Go.Proofs.YtpopkeidpohdiaaDoor
