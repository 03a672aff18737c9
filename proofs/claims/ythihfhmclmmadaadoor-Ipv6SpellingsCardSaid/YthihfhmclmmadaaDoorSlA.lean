/-
  Slices of arrays: a[l:h]. No program.
-/
import Derived.Test.YthihfhmclmmadaaDoorArr
import Derived.Laws.Slices
namespace Go.Proofs.YthihfhmclmmadaaDoor
open Go.RowKit

theorem run_slice_arr {P : Program} (t e : TypeId) (n g l h : Nat) (hu : P.underlying t = some (.array n e)) (hs : (P.info? e).map (·.size) = some 1) (lo hi : Option Value)
    (hl : lo = some (.int .i64 (l : Int)) ∨ (lo = none ∧ l = 0)) (hh : hi = some (.int .i64 (h : Int)) ∨ (hi = none ∧ h = n)) (h1 : l ≤ h) (h2 : h ≤ n) (w : World) :
    (Instr.sliceAt t (.pointer (some ⟨g, 0, none⟩)) lo hi none).run P w = .ok (.slice (some (if n = l then ⟨g, 0, none⟩ else ⟨g, l, none⟩)) (h - l) (n - l)) w := by
  obtain ⟨q, hq, hq1⟩ : ∃ q, P.info? e = some q ∧ q.size = 1 := by
    cases hq : P.info? e with
    | none => simp [hq] at hs
    | some q => exact ⟨q, rfl, by simpa [hq] using hs⟩
  have hadd : (⟨g, 0, none⟩ : Addr).add l = ⟨g, l, none⟩ := by unfold Addr.add; simp; omega
  have b1 : ∀ (y : Nat) (code : BoundsCode) (W : World), l ≤ y → (Instr.sliceBound (.int .i64 (l : Int)) y code).run P W = .ok l W := fun y code W hy => by
    have := run_sliceBound (P := P) W .i64 (l : Int) y code (by omega) (by omega)
    simpa using this
  have b2 : ∀ (y : Nat) (code : BoundsCode) (W : World), h ≤ y → (Instr.sliceBound (.int .i64 (h : Int)) y code).run P W = .ok h W := fun y code W hy => by
    have := run_sliceBound (P := P) W .i64 (h : Int) y code (by omega) (by omega)
    simpa using this
  have hsz : ∀ W, (sizeOf e).run P W = .ok 1 W := fun W => by simp [sizeOf, typeInfo, hq, hq1]
  rcases hl with rfl | ⟨rfl, rfl⟩ <;> rcases hh with rfl | ⟨rfl, rfl⟩
  · simp [Instr.sliceAt, Instr.sureAddr, run_underlying hu, Instr.sliceBounds, b1 h _ _ h1, b2 n _ _ h2, hsz, hadd, Result.andThen]
  · simp [Instr.sliceAt, Instr.sureAddr, run_underlying hu, Instr.sliceBounds, b1 _ _ _ h1, hsz, hadd, Result.andThen]
  · simp [Instr.sliceAt, Instr.sureAddr, run_underlying hu, Instr.sliceBounds, b2 n _ _ h2, hsz, Result.andThen]
    exact fun _ => hadd
  · simp [Instr.sliceAt, Instr.sureAddr, run_underlying hu, Instr.sliceBounds, hsz, Result.andThen]
    exact fun _ => hadd

end Go.Proofs.YthihfhmclmmadaaDoor
