/-
  make([]byte, 0, n); a part of a slice. No function of the program.
-/
import Derived.Test.YtdahnkampjkelaaKeepE
import Derived.Laws.MakeOwn
namespace Go.Proofs.Ytdahnkampjkelaa
open Go.RowKit

/-- make([]byte, 0, c). -/
theorem wpList_make_room (w : World) {ops : Array Oper} {rest : List Oper} {o : Oper} {a : Act} {Q : Exit → Act → World → Prop}
    (hg : o.guard = none) (l c : Operand) (hop : o.op = Op.makeSlice 26 l c) (n : Int) (hl : a.eval l = .int .i64 0) (hc : a.eval c = .int .i64 n) (h0 : 0 ≤ n) (hn : n ≤ 4000000000)
    (h : ∀ v' w', w'.ownsRow w.heap.size 5 1 v' 0 [] → Below w.heap.size w w' → wpList Try.prog ops Q rest (a.put o.dst v') w') : wpList Try.prog ops Q (o :: rest) a w := by
  refine wpList_plain hg fun K hK' => ?_
  obtain ⟨i, hi, hz0, hz1, hz2⟩ := info_parts infoU8
  have hrun := run_make (P := Try.prog) w 26 5 i (.int .u8 0) tyBs hi hz0 .i64 .i64 0 n (by omega) (by omega) (by rw [hz2]; omega) (by omega)
  rw [hz1, Nat.mul_one] at hrun
  have hm : madeCells (Value.int .u8 0).cells n.toNat = zeros n.toNat := made_u8 _
  rw [hm] at hrun
  have := h (.slice (some ⟨w.heap.size, 0, none⟩) 0 n.toNat) (w.alloc (.cells (zeros n.toNat) 5))
    ⟨rfl, .inr ⟨w.heap.size, n.toNat, zeros n.toNat, rfl, Nat.le_refl _, by show (w.heap.push _)[w.heap.size]? = _; simp, Nat.zero_le _, by unfold maxLen; omega, by simp [zeros], by simp⟩⟩
    ((Below.refl _ _).alloc (Nat.le_refl _) _)
  unfold Oper.wp
  simp [execOp, hop, hl, hc, hrun, Result.andThen]
  exact hK' _ _ this

/-- A part of a slice. -/
theorem Has.part {w : World} {B n b off : Nat} {xs : List Value} (h : Has w B (some ⟨b, off, none⟩) n xs) (s k : Nat) (hs : s + k ≤ n) : Has w B (some ⟨b, off + s, none⟩) k ((xs.drop s).take k) :=
  ⟨by have := h.1; simp; omega, fun h0 => by
    obtain ⟨b', off', e, hb, hc⟩ := h.2 (by omega)
    injection e with e
    injection e with e1 e2 _
    subst e1 e2
    refine ⟨b, off + s, rfl, hb, fun j hj => ?_⟩
    have hj' : j < k := by simp at hj; omega
    have := hc (s + j) (by have := h.1; omega)
    rw [← Nat.add_assoc] at this
    rw [this]
    simp⟩

end Go.Proofs.Ytdahnkampjkelaa
