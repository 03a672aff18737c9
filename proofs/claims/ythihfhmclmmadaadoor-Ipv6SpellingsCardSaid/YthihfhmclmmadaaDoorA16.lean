/-
  Arrays of eight groups in memory: no function of the program.
-/
import Derived.Test.YthihfhmclmmadaaDoorI62
import Derived.Test.YthihfhmclmmadaaDoorArr
import Derived.Laws.ResultCell
import Derived.Laws.Rows
namespace Go.Proofs.YthihfhmclmmadaaDoor
open Go.RowKit

/-- Eight groups as a value's cells. -/
def av (C : List Nat) : Array Value := (uv C).toArray
theorem av_size (C : List Nat) : (av C).size = C.length := by simp [av, uv]
theorem av_set (C : List Nat) (k : Nat) (x : Nat) : (av C).setIfInBounds k (.int .u16 (x : Int)) = av (C.set k x) := by
  apply Array.ext'
  rw [Array.toList_setIfInBounds]
  simp [av, uv, List.map_set]
theorem av_one (C : List Nat) : (av C).all (·.oneCell') = true := by
  rw [Array.all_eq_true_iff_forall_mem]
  intro v hv
  have : v ∈ uv C := by simpa [av] using hv
  exact uv_one C v this
theorem av_get (C : List Nat) (k : Nat) (h : k < C.length) : (av C)[k]? = some (.int .u16 ((C.getD k 0 : Nat) : Int)) := by
  simp [av, uv, List.getD_eq_getElem?_getD, List.getElem?_eq_getElem h]
theorem tyA8 : Tryd.prog.underlying 23 = some (.array 8 22) := by kernel_rfl
theorem infoA8 : (Tryd.prog.info? 23).map (fun i => (i.zero, i.size)) = some (some (.agg (av (zerosN 8))), 8) := by kernel_rfl
theorem sizeA8 : (Tryd.prog.info? 23).map (·.size) = some 8 := by kernel_rfl
theorem sizeA (C : List Nat) (h : C.length = 8) : (Tryd.prog.info? 23).map (·.size) = some (av C).size := by rw [av_size, h]; exact sizeA8
theorem zeroA8 : ∀ w, (zeroValue 23).run Tryd.prog w = .ok (.agg (av (zerosN 8))) w := by
  intro w
  cases hi : Tryd.prog.info? 23 with
  | none => have := infoA8; rw [hi] at this; cases this
  | some i =>
    have := infoA8
    rw [hi] at this
    simp only [Option.map_some, Option.some.injEq, Prod.mk.injEq] at this
    simp [zeroValue, typeInfo, hi, this.1]
/-- An array's variable. -/
def RowA (w : World) (g : Nat) (C : List Nat) : Prop := Row w g 23 (av C)
theorem RowA.cell {w : World} {g : Nat} {C : List Nat} (h : RowA w g C) {k : Nat} (hk : k < C.length) : w.cell? ⟨g, k, none⟩ = some (.int .u16 ((C.getD k 0 : Nat) : Int)) := by
  rw [cell_of_row w g k _ _ (0, 0) h, av_get C k hk]
theorem ret_a8 {fn : Func} {R : Ending → World → Prop} {a : Act} {w : World} (p u : Tmp) (hres : fn.results = #[.cell p 23, .tmp u]) (b : Nat) (hp : a.tmps.getD p undef = .pointer (some ⟨b, 0, none⟩))
    (C : List Nat) (hrow : RowA w b C) (hc : C.length = 8) (v : Value) (hv : a.tmps.getD u undef = v) (hd : a.defers = []) (hR : R (.returned (.tuple #[.agg (av C), v])) w) : bodyPost Tryd.prog fn R .ret a w := by
  refine bodyPost_ret (v := .tuple #[.agg (av C), v]) ?_ hd hR
  have hl := run_loadVar_row (P := Tryd.prog) w b _ _ (av C) (0, 0) _ hrow tyA8 rfl (sizeA C hc)
  rw [results_cell_tmp hres, hp, hv]
  simp [asAddr, Result.andThen, hl]
/-- The content behind storing the first groups. -/
theorem set_step (g : List Nat) (k n : Nat) (hk : k < g.length) (hn : k < n) : (g.take k ++ zerosN (n - k)).set k (g.getD k 0) = g.take (k + 1) ++ zerosN (n - (k + 1)) := by
  rw [List.set_append_right _ _ (by simp; omega), List.take_succ_eq_append_getElem hk]
  simp only [List.length_take, List.append_assoc]
  rw [show k - min k g.length = 0 by omega, show n - k = (n - (k + 1)) + 1 by omega]
  rw [List.getD_eq_getElem?_getD, List.getElem?_eq_getElem hk, Option.getD_some]
  rfl
theorem set_step2 (p g : List Nat) (k n : Nat) (hk : k < g.length) (hn : k < n) : (p ++ (g.take k ++ zerosN (n - k))).set (p.length + k) (g.getD k 0) = p ++ (g.take (k + 1) ++ zerosN (n - (k + 1))) := by
  rw [List.set_append_right _ _ (by omega), show p.length + k - p.length = k by omega, set_step g k n hk hn]

end Go.Proofs.YthihfhmclmmadaaDoor
