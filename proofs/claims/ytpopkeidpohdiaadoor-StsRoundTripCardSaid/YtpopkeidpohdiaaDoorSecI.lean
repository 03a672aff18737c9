/-
  strconv.Itoa; contract of Format of package seconds.
-/
import Derived.Test.YtpopkeidpohdiaaDoorSecM
import Derived.Test.YtpopkeidpohdiaaDoorPowI
import Derived.Test.YtpopkeidpohdiaaDoorShelf
namespace Go.Proofs.YtpopkeidpohdiaaDoor
open Go.RowKit

theorem below_new (w : World) (k : Nat) (os : Array Obj) : Below w.heap.size w (Go.Sort.grow (w.drewN k) os) := by
  refine ⟨rfl, rfl, rfl, ?_, fun i hi => ?_⟩
  · show w.heap.size ≤ (w.heap ++ os).size
    simp
  · show (w.heap ++ os)[i]? = w.heap[i]?
    exact Array.getElem?_append_left hi
theorem itoa_any (z : Int) (h0 : 0 ≤ z) (h1 : z ≤ 9223372036854775807) (w : World) (hp : Pow w) :
    Calls Tryd.prog 13 #[.int .i64 z] w fun e w' => e = .returned (.string (bs (Lib.decDigits z.toNat))) ∧ Below w.heap.size w w' := by
  refine (Any.strconv_Itoa Tryd.laysM171 z (by omega) h1 w hp).mono ?_
  rintro e w' ⟨rfl, k, os, rfl⟩
  refine ⟨?_, below_new w k os⟩
  rw [Lib.itoa, if_neg (by omega)]
  rfl
set_option maxHeartbeats 400000 in
theorem format_any (n : Int) (w : World) (hp : Pow w) :
    Calls Tryd.prog 8 #[.int .i64 n] w fun e w' => e = .returned (.string (fmtS n)) ∧ Below w.heap.size w w' := by
  have hl := lim_range n 2147483647 (by omega)
  have c1 := limited_any n 2147483647 (by omega) w
  have c2 := itoa_any (lim n 2147483647) hl.1 (by omega) w hp
  have HE : Hid (fmtS n = bs (Lib.decDigits (lim n 2147483647).toNat)) := Lib.hid rfl
  generalize lim n 2147483647 = x at *
  clear hl
  go_enter Tryd.func8, Tryd.ntmps8
  go_wp2_with fail
  refine c1.mono ?_
  rintro e w' ⟨rfl, rfl⟩
  go_wp2_with fail
  refine c2.mono ?_
  rintro e w' ⟨rfl, hb⟩
  go_wp2_with fail
  go_ret
  exact ⟨ret_str HE.out.symm, hb⟩

end Go.Proofs.YtpopkeidpohdiaaDoor
