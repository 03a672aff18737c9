/-
  make([]byte, 0, n). No function of the program.
-/
import Derived.Test.YthihfhmclmmadaaDoorTyB
import Derived.Laws.MakeOwn
namespace Go.Proofs.YthihfhmclmmadaaDoor
open Go.RowKit

/-- make([]byte, 0, c). -/
theorem wpList_make_room (w : World) {ops : Array Oper} {rest : List Oper} {o : Oper} {a : Act} {Q : Exit → Act → World → Prop}
    (hg : o.guard = none) (l c : Operand) (hop : o.op = Op.makeSlice 60 l c) (n : Int) (hl : a.eval l = .int .i64 0) (hc : a.eval c = .int .i64 n) (h0 : 0 ≤ n) (hn : n ≤ 4000000000)
    (h : ∀ v' w', w'.ownsRow w.heap.size 5 1 v' 0 [] → Below w.heap.size w w' → wpList Tryd.prog ops Q rest (a.put o.dst v') w') : wpList Tryd.prog ops Q (o :: rest) a w := by
  refine wpList_plain hg fun K hK' => ?_
  obtain ⟨i, hi, hz0, hz1, hz2⟩ := info_parts infoU8
  have hrun := run_make (P := Tryd.prog) w 60 5 i (.int .u8 0) tyBs hi hz0 .i64 .i64 0 n (by omega) (by omega) (by rw [hz2]; omega) (by omega)
  rw [hz1, Nat.mul_one] at hrun
  have hm : madeCells (Value.int .u8 0).cells n.toNat = zeros n.toNat := made_u8 _
  rw [hm] at hrun
  have := h (.slice (some ⟨w.heap.size, 0, none⟩) 0 n.toNat) (w.alloc (.cells (zeros n.toNat) 5))
    ⟨rfl, .inr ⟨w.heap.size, n.toNat, zeros n.toNat, rfl, Nat.le_refl _, by show (w.heap.push _)[w.heap.size]? = _; simp, Nat.zero_le _, by unfold maxLen; omega, by simp [zeros], by simp⟩⟩
    ((Below.refl _ _).alloc (Nat.le_refl _) _)
  unfold Oper.wp
  simp [execOp, hop, hl, hc, hrun, Result.andThen]
  exact hK' _ _ this

end Go.Proofs.YthihfhmclmmadaaDoor
