/-
  A list of strings that came in: what is known of it.
-/
import Derived.Test.YtmfoegpdjajicaaTyT
import Derived.Test.YtmfoegpdjajicaaTyB
import Derived.Deep.Strs
namespace Go.Proofs.Ytmfoegpdjajicaa
open Go.RowKit Go.ChangeShapes Go.WideShapes Go.Deep

theorem addr_flat (b off j : Nat) : (⟨b, off, none⟩ : Addr).add j = ⟨b, off + j, none⟩ := by unfold Addr.add; split <;> simp_all
theorem spotD_of {w : World} {a : Addr} {v : Value} (h : w.cell? (a.add 0) = some v) : a = ⟨a.block, a.off, none⟩ ∧ a.block < w.heap.size := by
  have hx0 : a.add 0 = a := by unfold Addr.add; simp
  rw [hx0] at h
  unfold World.cell? at h
  split at h
  · rename_i hh
    by_cases hs : a.spot.isSome = true
    · rw [if_pos hs] at h; cases h
    · have hn : a.spot = none := by simpa using hs
      exact ⟨by cases a; simp_all, (Array.getElem?_eq_some_iff.1 hh).1⟩
  · cases h

def InStr (w : World) (A : Option Addr) (n c : Nat) (PS : List ByteArray) : Prop := Has w w.heap.size A n (PS.map Value.string) ∧ n ≤ c ∧ c ≤ maxLen ∧ (A = none → c = 0)
section
variable {H : Type} {enc : TypeId × Value → H} {w : World} {held : Bool}
theorem open_strs18 {fuel : Nat} {A : Option Addr} {n c : Nat} {x : DataW H × List MemPlace} (h : DataW.trod enc Try.prog w 0 (fun _ => true) held fuel 38 [.slice A n c] = some x) : ∃ PS, InStr w A n c PS := by
  rcases open_strs Try.underlying38 tyStr (by kernel_rfl) h with ⟨hcs, _⟩ | ⟨a, len, cap, m, Sx, hcs, _, hl, hm, hmm, _, hx⟩
  · simp at hcs
    obtain ⟨rfl, rfl, rfl⟩ := hcs
    exact ⟨[], Has.nil _ _ _, Nat.le_refl _, Nat.zero_le _, fun _ => rfl⟩
  · simp at hcs
    obtain ⟨rfl, rfl, rfl⟩ := hcs
    have hnm : n ≤ m := by rw [hmm]; simp; omega
    refine ⟨(List.range n).map Sx, ⟨by simp, fun h0 => ?_⟩, hl, hm, fun e => by cases e⟩
    obtain ⟨ea, hlt⟩ := spotD_of (a := a) (hx 0 (by omega)).1
    refine ⟨a.block, a.off, by rw [← ea], hlt, fun j hj => ?_⟩
    have hj' : j < n := by simpa using hj
    have hfj := (hx j (by omega)).1
    rw [ea, addr_flat] at hfj
    simp only [List.getElem_map, List.getElem_range]
    exact hfj
end

end Go.Proofs.Ytmfoegpdjajicaa
