/-
  Contracts of Format of package seconds and of its reference (layer 4); FromInt of the reference of layer 1; strconv.Itoa.
-/
import Derived.Test.YtmpkkhcplfodlaaDoorSec2
import Derived.Test.YtmpkkhcplfodlaaDoorShelf
import Derived.Deep.RegionWith
namespace Go.Proofs.YtmpkkhcplfodlaaDoor
open Go.RowKit

/-- The name of the variable that strconv.Itoa reads. -/
def tabN : String := Rows.secondsExpiryLawsRow.named.head (List.cons_ne_nil _ _)
/-- The variable holds the powers of ten. -/
def Pow (w : World) : Prop := Lib.TabIs Tryd.prog w tabN .u64 Lib.pow10Tab
theorem var_below {P : Program} {w w' : World} {n : String} {cs : Array Value} (h : w.var? P n = some cs) (hb : Below w.heap.size w w') : w'.var? P n = some cs := by
  unfold World.var? at h ⊢
  cases hg : P.globalNamed n with
  | none => rw [hg] at h; exact h
  | some g =>
    rw [hg] at h
    simp only [Option.bind_some] at h ⊢
    by_cases hlt : g < w.heap.size
    · rw [hb.block g hlt]
      exact h
    · rw [Array.getElem?_eq_none (by omega)] at h
      cases h
theorem pow_below {w w' : World} (h : Pow w) (hb : Below w.heap.size w w') : Pow w' := var_below h hb
theorem below_new (w : World) (k : Nat) (os : Array Obj) : Below w.heap.size w (Go.Sort.grow (w.drewN k) os) := by
  refine ⟨rfl, rfl, rfl, ?_, fun i hi => ?_⟩
  · show w.heap.size ≤ (w.heap ++ os).size
    simp
  · show (w.heap ++ os)[i]? = w.heap[i]?
    exact Array.getElem?_append_left hi

theorem itoa_any (z : Int) (h0 : 0 ≤ z) (h1 : z ≤ 9223372036854775807) (w : World) (hp : Pow w) :
    Calls Tryd.prog 17 #[.int .i64 z] w fun e w' => e = .returned (.string (bs (Lib.decDigits z.toNat))) ∧ Below w.heap.size w w' := by
  refine (Any.strconv_Itoa Tryd.laysM171 z (by omega) h1 w hp).mono ?_
  rintro e w' ⟨rfl, k, os, rfl⟩
  refine ⟨?_, below_new w k os⟩
  rw [Lib.itoa, if_neg (by omega)]
  rfl

theorem itoa_small (z : Int) (h0 : 0 ≤ z) (h1 : z < 100) (w : World) :
    Calls Tryd.prog 17 #[.int .i64 z] w fun e w' => e = .returned (.string (bs (Lib.decDigits z.toNat))) ∧ w = w' := by
  have h := Any.strconv_Itoa_small (P := Tryd.prog) (ρ := Tryd.laysM171_ren) { Tryd.laysM171 with } z.toNat (by omega) w
  rw [show ((z.toNat : Nat) : Int) = z by omega] at h
  refine h.mono ?_
  rintro e w' ⟨rfl, rfl⟩
  exact ⟨rfl, rfl⟩

set_option maxHeartbeats 400000 in
theorem format_any (n : Int) (w : World) (hp : Pow w) :
    Calls Tryd.prog 10 #[.int .i64 n] w fun e w' => e = .returned (.string (fmtS n)) ∧ Below w.heap.size w w' := by
  have hl := lim_range n 2147483647 (by omega)
  have c1 := limited_any n 2147483647 (by omega) w
  have c2 := itoa_any (lim n 2147483647) hl.1 (by omega) w hp
  have HE : Hid (fmtS n = bs (Lib.decDigits (lim n 2147483647).toNat)) := Lib.hid rfl
  generalize lim n 2147483647 = x at *
  clear hl
  go_enter Tryd.func10, Tryd.ntmps10
  go_wp2_with fail
  refine c1.mono ?_
  rintro e w' ⟨rfl, rfl⟩
  go_wp2_with fail
  refine c2.mono ?_
  rintro e w' ⟨rfl, hb⟩
  go_wp2_with fail
  go_ret
  exact ⟨ret_str HE.out.symm, hb⟩

theorem format_small (n : Int) (h0 : 0 ≤ n) (h1 : n < 100) (w : World) :
    Calls Tryd.prog 10 #[.int .i64 n] w fun e w' => e = .returned (.string (fmtS n)) ∧ w = w' := by
  have hl : lim n 2147483647 = n := by unfold lim; omega
  have c1 := limited_any n 2147483647 (by omega) w
  rw [hl] at c1
  have c2 := itoa_small n h0 h1 w
  have HE : Hid (fmtS n = bs (Lib.decDigits n.toNat)) := Lib.hid (by unfold fmtS; rw [hl])
  clear hl
  go_enter Tryd.func10, Tryd.ntmps10
  go_wp2_with fail
  refine c1.mono ?_
  rintro e w' ⟨rfl, rfl⟩
  go_wp2_with fail
  refine c2.mono ?_
  rintro e w' ⟨rfl, rfl⟩
  go_wp2_with fail
  go_ret
  exact ⟨ret_str HE.out.symm, rfl⟩

end Go.Proofs.YtmpkkhcplfodlaaDoor
