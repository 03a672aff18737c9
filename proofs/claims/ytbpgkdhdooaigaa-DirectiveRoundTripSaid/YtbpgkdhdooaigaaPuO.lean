/-
  Slices of numbers that came in.
-/
import Derived.Test.YtbpgkdhdooaigaaInZ
import Derived.Deep.SlicePairs
import Derived.Deep.Slices
import Derived.Deep.Fields
import Derived.ChangeSame
namespace Go.Proofs.Ytbpgkdhdooaigaa
open Go.RowKit Go.ChangeShapes Go.WideShapes Go.Deep

theorem tyInt : Try.prog.underlying 3 = some (.int .i64) := by kernel_rfl
theorem wf_i64z {z : Int} (h : (Lit.int .i64 z).wf = true) : -9223372036854775808 ≤ z ∧ z ≤ 9223372036854775807 := by
  have h1 : IntKind.i64.min = -9223372036854775808 := rfl
  have h2 : IntKind.i64.max = 9223372036854775807 := rfl
  simp [Lit.wf] at h
  have h3 : IntKind.i64.min ≤ z ∧ z ≤ IntKind.i64.max := h
  rw [h1, h2] at h3
  exact h3
theorem inZ_of {w : World} {a : Option Addr} {len cap : Nat} {zs : List Int}
    (h : (a = none ∧ len = 0 ∧ cap = 0 ∧ zs = []) ∨
      ∃ x, a = some x ∧ len ≤ cap ∧ cap ≤ maxLen ∧ zs.length = cap ∧ (∀ i, i < zs.length → w.cell? (x.add i) = some (.int .i64 (zs.getD i 0))) ∧ ∀ n ∈ zs, (Lit.int .i64 n).wf = true) :
    ∃ Z, InZ w w.heap.size a len cap Z := by
  rcases h with ⟨rfl, rfl, rfl, rfl⟩ | ⟨x, rfl, hl, hm, hz, hc, hw⟩
  · exact ⟨[], Has.nil _ _ _, Nat.le_refl _, Nat.zero_le _, fun _ => rfl, fun z h => by simp at h⟩
  · refine ⟨zs.take len, ⟨by simp; omega, fun h0 => ?_⟩, hl, hm, fun e => (by cases e), fun z h => wf_i64z (hw z (List.mem_of_mem_take h))⟩
    have h00 := hc 0 (by omega)
    have hx0 : x.add 0 = x := by unfold Addr.add; simp
    rw [hx0] at h00
    have hspot : x.spot = none := by
      unfold World.cell? at h00
      split at h00
      · by_cases hs : x.spot.isSome = true
        · rw [if_pos hs] at h00; cases h00
        · simpa using hs
      · cases h00
    have hlt : x.block < w.heap.size := by
      unfold World.cell? at h00
      split at h00
      · rename_i hh
        exact (Array.getElem?_eq_some_iff.1 hh).1
      · cases h00
    refine ⟨x.block, x.off, by rw [← hspot], hlt, fun j hj => ?_⟩
    have hj' : j < len := by simp at hj; omega
    have hadd : x.add j = ⟨x.block, x.off + j, none⟩ := by
      unfold Addr.add
      split
      · subst j; rw [Nat.add_zero, ← hspot]
      · rfl
    rw [← hadd, hc j (by omega)]
    simp only [List.getElem_map, List.getElem_take]
    rw [List.getD_eq_getElem?_getD, List.getElem?_eq_getElem (by omega), Option.getD_some]

section
variable {H : Type} {enc : TypeId × Value → H} {w : World} {held : Bool}
theorem opn_z {fuel : Nat} {A : Option Addr} {n c : Nat} {x : DataW H × List MemPlace} (h : DataW.trod enc Try.prog w 0 (fun _ => true) held fuel 34 [.slice A n c] = some x) : ∃ Z, InZ w w.heap.size A n c Z := by
  rcases open_ints tyInts tyInt (by kernel_rfl) h with ⟨hcs, _⟩ | ⟨y, l, c', zs, hcs, _, hl, hm, hz, _, hcell, hwz⟩
  · simp at hcs
    obtain ⟨rfl, rfl, rfl⟩ := hcs
    exact inZ_of (zs := []) (.inl ⟨rfl, rfl, rfl, rfl⟩)
  · simp at hcs
    obtain ⟨rfl, rfl, rfl⟩ := hcs
    exact inZ_of (zs := zs) (.inr ⟨_, rfl, hl, hm, by simpa using hz, hcell, hwz⟩)
end

end Go.Proofs.Ytbpgkdhdooaigaa
