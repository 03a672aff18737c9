/-
  []byte(s) of a string.
-/
import Derived.Test.YtmfoegpdjajicaaTyB
import Derived.Lib.ConvBytes
import Derived.Laws.AppendOwn
import Derived.Test.YtmfoegpdjajicaaSecP
namespace Go.Proofs.Ytmfoegpdjajicaa
open Go.RowKit

theorem below_bytes (w : World) (e : TypeId) (s : ByteArray) : Below w.heap.size w (Lib.bytesWorld w e s) :=
  ⟨rfl, rfl, rfl, by rw [Lib.bytesWorld_size]; omega, fun k hk => Lib.bytesWorld_at_old w e s k hk⟩
/-- []byte(s) of a string. -/
theorem to_bytes (w : World) (s : ByteArray) : ∃ c w1, (convert 9 22 (.string s)).run Try.prog w = .ok (.slice (some ⟨w.heap.size, 0, none⟩) s.size c) w1 ∧
    Below w.heap.size w w1 ∧ s.size ≤ c ∧ ∀ k (h : k < s.size), w1.cell? ⟨w.heap.size, k, none⟩ = some (.int .u8 (s[k].toNat : Int)) := by
  refine ⟨_, _, Lib.run_convert_string_bytes (P := Try.prog) w _ _ _ s tyStr tyBs tyU8, below_bytes w _ s, ?_, fun k h => ?_⟩
  · exact grownCap_ge _ _ _ _
  · rw [Lib.bytesWorld_cell w _ s k h]
    have : s.data.toList.getD k 0 = s[k] := by
      have h' : k < s.data.toList.length := by simpa using h
      rw [List.getD_eq_getElem?_getD, List.getElem?_eq_getElem h']
      rfl
    rw [this]
theorem beq_empty (s : ByteArray) : (s.toList == ([] : List UInt8)) = decide (s.size = 0) := by
  rw [toList_ls, ← isEmpty_ls]
  cases ls s <;> rfl

end Go.Proofs.Ytmfoegpdjajicaa
