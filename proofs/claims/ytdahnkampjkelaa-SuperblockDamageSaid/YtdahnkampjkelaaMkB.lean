/-
  make([]byte, n), n a variable; '[]byte' of a row of its own that is filled one by one.
-/
import Derived.Test.YtdahnkampjkelaaKeepE
import Derived.Test.YtdahnkampjkelaaArr
namespace Go.Proofs.Ytdahnkampjkelaa
open Go.RowKit

/-- make([]byte, n) for a length that is a natural number. -/
theorem mk_bytes (w : World) (n : Nat) (hn : n ≤ 281474976710656) : (Instr.makeSlice 26 (.int .i64 (n : Int)) (.int .i64 (n : Int))).run Try.prog w =
    .ok (.slice (some ⟨w.heap.size, 0, none⟩) n n) (w.alloc (.cells (zeros n) 5)) := by
  obtain ⟨i, hi, hz0, hz1, hz2⟩ := info_parts infoU8
  have h := run_make (P := Try.prog) w 26 5 i (.int .u8 0) tyBs hi hz0 .i64 .i64 n n (by omega) (by omega) (by rw [hz2]; omega) (by omega)
  rw [hz1] at h
  simpa [made_u8, Value.cells] using h

theorem wpList_make_bytes (w : World) {ops : Array Oper} {rest : List Oper} {o : Oper} {a : Act} {Q : Exit → Act → World → Prop}
    (hg : o.guard = none) (l c : Operand) (hop : o.op = Op.makeSlice 26 l c) (n : Nat) (hl : a.eval l = .int .i64 (n : Int)) (hc : a.eval c = .int .i64 (n : Int)) (hn : n ≤ 281474976710656)
    (h : ∀ w' g, w.heap.size ≤ g → g < w'.heap.size → Row w' g 5 (zeros n) → w.grownBy w' none → wpList Try.prog ops Q rest (a.put o.dst (.slice (some ⟨g, 0, none⟩) n n)) w') : wpList Try.prog ops Q (o :: rest) a w := by
  refine wpList_plain hg fun K hK' => ?_
  have hrun := mk_bytes w n hn
  have := h (w.alloc (.cells (zeros n) 5)) w.heap.size (Nat.le_refl _) (by simp) (row_new w _ _) (World.grownBy_alloc w _ _)
  unfold Oper.wp
  simp [execOp, hop, hl, hc, hrun, Result.andThen]
  exact hK' _ _ this

/-- The cells of a slice of bytes of its own. -/
def Own8 (w : World) (g cap n : Nat) (l : List UInt8) : Prop := ∃ cur, Row w g 5 cur ∧ cur.size = cap ∧ n ≤ cap ∧ cur.toList.take n = l.map bv
theorem Own8.of {w : World} {base n : Nat} {v : Value} {l : List UInt8} (h : w.ownsRow base 5 1 v n (l.map bv)) (hn : 0 < n) : ∃ g cap, v = .slice (some ⟨g, 0, none⟩) n cap ∧ base ≤ g ∧ Own8 w g cap n l := by
  rcases h.2 with ⟨rfl, h0⟩ | ⟨g, cap, cur, rfl, hb, hg, hnc, _, hsz, htake⟩
  · omega
  · exact ⟨g, cap, rfl, hb, cur, hg, by omega, hnc, by simpa using htake⟩
theorem Own8.len {w : World} {g cap n : Nat} {l : List UInt8} (h : Own8 w g cap n l) : l.length = n := by
  obtain ⟨cur, hr, hs, hnc, ht⟩ := h
  have := congrArg List.length ht; simp at this; omega
theorem Own8.cell {w : World} {g cap n : Nat} {l : List UInt8} (h : Own8 w g cap n l) {j : Nat} (hj : j < n) : w.cell? ⟨g, j, none⟩ = some (.int .u8 ((l.getD j 0).toNat : Int)) := by
  have hlen := h.len
  obtain ⟨cur, hr, hs, hnc, ht⟩ := h
  have hjc : j < cur.size := by omega
  rw [hr.cell hjc]
  have := congrArg (fun x => x[j]?) ht
  simp only [List.getElem?_take, hj, if_true, List.getElem?_map] at this
  rw [List.getElem?_eq_getElem (by omega : j < l.length)] at this
  simp only [Option.map_some, bv_eq] at this
  rw [List.getD_eq_getElem?_getD, List.getElem?_eq_getElem (by omega : j < l.length), Option.getD_some, ← this]
  simp [hjc]
theorem Own8.frozen {w : World} {g cap n : Nat} {l : List UInt8} (h : Own8 w g cap n l) (j : Nat) : w.frozen? ⟨g, j, none⟩ = false := by
  obtain ⟨cur, hrow, _⟩ := h
  unfold Row at hrow
  simp [World.frozen?, hrow]
theorem Own8.has {w : World} {g cap n : Nat} {l : List UInt8} (h : Own8 w g cap n l) : Has w w.heap.size (some ⟨g, 0, none⟩) n (l.map bv) := by
  have hl := h.len
  refine ⟨by simpa using hl, fun _ => ⟨g, 0, rfl, ?_, fun j hj => ?_⟩⟩
  · obtain ⟨cur, hr, _⟩ := h; exact hr.lt
  · rw [Nat.zero_add, h.cell (by simp at hj; omega)]
    have hjl : j < l.length := by simpa using hj
    rw [List.getElem_map, bv_eq, List.getD_eq_getElem?_getD, List.getElem?_eq_getElem hjl, Option.getD_some]
theorem Own8.set {w w' : World} {g cap n : Nat} {l : List UInt8} (h : Own8 w g cap n l) {j : Nat} (_ : j < n) (b : UInt8)
    (hw : ∀ cur, Row w g 5 cur → Row w' g 5 (cur.setIfInBounds j (.int .u8 (b.toNat : Int)))) : Own8 w' g cap n (l.set j b) := by
  obtain ⟨cur, hr, hs, hnc, ht⟩ := h
  refine ⟨_, hw cur hr, by simpa using hs, hnc, ?_⟩
  rw [Array.toList_setIfInBounds, List.take_set, ht, List.map_set]
  rfl
theorem Own8.set_cell {w : World} {g cap n : Nat} {l : List UInt8} (h : Own8 w g cap n l) {j : Nat} (hj : j < n) (b : UInt8) (v : Int) (hv : v = (b.toNat : Int)) : Own8 (w.setCell ⟨g, j, none⟩ (.int .u8 v)) g cap n (l.set j b) := by
  subst hv
  refine h.set hj b fun cur hr => ?_
  unfold Row
  rw [setCell_eq_setRow w g j cur _ (0, 0) _ hr]
  exact setRow_heap w g cur _ _ _ hr
theorem Own8.zeros {w : World} {g n : Nat} (h : Row w g 5 (zeros n)) : Own8 w g n n (List.replicate n 0) :=
  ⟨_, h, by simp [Proofs.Ytdahnkampjkelaa.zeros], Nat.le_refl _, by simp [Proofs.Ytdahnkampjkelaa.zeros, bv]⟩

/-- Filled one by one. -/
def filled (l : List UInt8) (k : Nat) : List UInt8 := l.take k ++ List.replicate (l.length - k) 0
theorem filled_zero (l : List UInt8) : filled l 0 = List.replicate l.length 0 := by simp [filled]
theorem filled_all (l : List UInt8) : filled l l.length = l := by simp [filled]
theorem filled_set (l : List UInt8) (k : Nat) (h : k < l.length) : (filled l k).set k l[k] = filled l (k + 1) := by
  unfold filled
  rw [List.set_append_right _ _ (by simp; omega), List.take_succ_eq_append_getElem h]
  simp only [List.length_take, List.append_assoc]
  rw [show l.length - k = (l.length - (k + 1)) + 1 by omega, show k - min k l.length = 0 by omega]
  simp [List.replicate_succ]

end Go.Proofs.Ytdahnkampjkelaa
