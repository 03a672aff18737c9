/-
  Lists of strings in memory: no function of the program.
-/
import Derived.Test.YtmfoegpdjajicaaTyT
namespace Go.Proofs.Ytmfoegpdjajicaa
open Go.RowKit

/-- A list of strings, as a slice. -/
def StrsPost (l : List (List UInt8)) (w : World) (e : Ending) (w' : World) : Prop :=
  ∃ A c, e = .returned (.slice A l.length c) ∧ l.length ≤ c ∧ Has w' w'.heap.size A l.length (wv l) ∧ Below w.heap.size w w'

theorem str_cell {w : World} {B n : Nat} {A : Option Addr} {l : List (List UInt8)} (h : Has w B A n (wv l)) (k : Nat) (hk : k < n) : ∃ b off, A = some ⟨b, off, none⟩ ∧ w.cell? ⟨b, off + k, none⟩ = some (.string (bs (l.getD k []))) := by
  have hl : (wv l).length = n := h.1
  rw [wv_length] at hl
  obtain ⟨b, off, e, _, hc⟩ := h.at_ hk
  refine ⟨b, off, e, ?_⟩
  rw [hc, wv_get l k (by omega), List.getD_eq_getElem?_getD, List.getElem?_eq_getElem (by omega), Option.getD_some]

theorem getD_last {α : Type _} (l : List α) (d : α) (_h : 0 < l.length) : l.getD (l.length - 1) d = l.getLastD d := by
  rw [List.getLastD_eq_getLast?, List.getLast?_eq_getElem?, List.getD_eq_getElem?_getD]
theorem last_nil {l : List (List UInt8)} (h : 0 < l.length) : (l.getLast? = some [] ↔ l.getD (l.length - 1) [1] = []) := by
  rw [List.getLast?_eq_getElem?, List.getD_eq_getElem?_getD, List.getElem?_eq_getElem (by omega)]
  simp
theorem bs_nil_iff (l : List UInt8) : ((bs l).toList == ([] : List UInt8)) = decide (l = []) := by
  rw [toList_ls, ls_bs]
  cases l <;> rfl


end Go.Proofs.Ytmfoegpdjajicaa
