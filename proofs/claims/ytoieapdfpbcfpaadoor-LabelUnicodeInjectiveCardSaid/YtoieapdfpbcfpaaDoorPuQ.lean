/-
  What decoding answers, in memory.
-/
import Derived.Test.YtoieapdfpbcfpaaDoorRows
import Derived.Test.YtoieapdfpbcfpaaDoorPuD
import Derived.Below
namespace Go.Proofs.YtoieapdfpbcfpaaDoor
open Go.RowKit

/-- What decoding answers: the error, and the code points. -/
def decE (l : List UInt8) : Nat := match decL l with
  | .ok _ => 0
  | .error c => c
def decV (l : List UInt8) : List Nat := match decL l with
  | .ok p => p
  | .error _ => []
theorem dec_err {l : List UInt8} {c : Nat} (h : decL l = .error c) : decE l = c ∧ decV l = [] := by unfold decE decV; rw [h]; exact ⟨rfl, rfl⟩
theorem dec_ok {l p : List _} (h : decL l = .ok p) : decE l = 0 ∧ decV l = p := by unfold decE decV; rw [h]; exact ⟨rfl, rfl⟩
/-- Code points in cells. -/
abbrev nvI (n : Nat) : Value := .int .i64 (n : Int)
def DecPost (l : List UInt8) (w : World) (e : Ending) (w' : World) : Prop := (∃ v, e = .returned (.tuple #[v, .int .i64 (decE l : Nat)]) ∧ w'.ownsRow w.heap.size 3 1 v (decV l).length ((decV l).map nvI)) ∧ Below w.heap.size w w'
theorem DecPost.err {l : List UInt8} {w w' : World} {c : Nat} (h : decL l = .error c) (hb : Below w.heap.size w w') : DecPost l w (.returned (.tuple #[.slice none 0 0, .int .i64 (c : Int)])) w' := by
  obtain ⟨h1, h2⟩ := dec_err h
  refine ⟨⟨_, by rw [h1], ?_⟩, hb⟩
  rw [h2]
  exact World.ownsRow_nil _ _ _ _
theorem DecPost.ok {l : List UInt8} {p : List Nat} {w w' : World} {v : Value} (h : decL l = .ok p) (ho : w'.ownsRow w.heap.size 3 1 v p.length (p.map nvI)) (hb : Below w.heap.size w w') : DecPost l w (.returned (.tuple #[v, .int .i64 0])) w' := by
  obtain ⟨h1, h2⟩ := dec_ok h
  refine ⟨⟨v, by rw [h1]; rfl, ?_⟩, hb⟩
  rw [h2]
  exact ho
theorem tyInts : Tryd.prog.underlying 32 = some (.slice 3) := by kernel_rfl
theorem infoInt : (Tryd.prog.info? 3).map (fun i => (i.zero, i.size, i.bytes)) = some (some (.int .i64 0), 1, 8) := by kernel_rfl
end Go.Proofs.YtoieapdfpbcfpaaDoor
