/-
  Arguments that came in: slices of bytes, and slices of such, read.
-/
import Derived.Test.YtfnoahbhccgbgaaFr6
import Derived.Deep.SlicePairs
import Derived.Deep.Slices
import Derived.Deep.Fields
import Derived.ChangeSame
namespace Go.Proofs.Ytfnoahbhccgbgaa
open Go.RowKit Go.ChangeShapes Go.WideShapes Go.Deep

section
variable {H : Type} {enc : TypeId × Value → H} {w : World} {held : Bool}
theorem spotL_of {a : Addr} {v : Value} (h : w.cell? (a.add 0) = some v) : a = ⟨a.block, a.off, none⟩ ∧ a.block < w.heap.size := by
  have hx0 : a.add 0 = a := by unfold Addr.add; simp
  rw [hx0] at h
  unfold World.cell? at h
  split at h
  · rename_i hh
    by_cases hs : a.spot.isSome = true
    · rw [if_pos hs] at h; cases h
    · have hn : a.spot = none := by simpa using hs
      exact ⟨by cases a; simp_all, (Array.getElem?_eq_some_iff.1 hh).1⟩
  · cases h
theorem addL_flat (b off j : Nat) : (⟨b, off, none⟩ : Addr).add j = ⟨b, off + j, none⟩ := by unfold Addr.add; split <;> simp_all
theorem opn8 {fuel : Nat} {A : Option Addr} {n c : Nat} {x : DataW H × List MemPlace} (h : DataW.trod enc Try.prog w 0 (fun _ => true) held fuel 23 [.slice A n c] = some x) : ∃ l, Arg8 w A n c l := by
  rcases open_ints tyBs tyU8 (by kernel_rfl) h with ⟨hcs, _⟩ | ⟨y, l, c', zs, hcs, _, hl, hm, hz, _, hcell, hwz⟩
  · simp at hcs
    obtain ⟨rfl, rfl, rfl⟩ := hcs
    exact arg8_of (zs := []) (.inl ⟨rfl, rfl, rfl, rfl⟩)
  · simp at hcs
    obtain ⟨rfl, rfl, rfl⟩ := hcs
    exact arg8_of (zs := zs) (.inr ⟨_, rfl, hl, hm, by simpa using hz, hcell, hwz⟩)
theorem slice_val {t e : TypeId} (ht : Try.prog.underlying t = some (.slice e)) {fuel : Nat} {v : Value} {x : DataW H × List MemPlace} (h : DataW.trod enc Try.prog w 0 (fun _ => true) held fuel t [v] = some x) : ∃ A n c, v = .slice A n c := by
  rcases open_slice ht h with ⟨hcs, _⟩ | ⟨a, len, cap, _, _, _, _, hcs, _⟩
  · simp at hcs; exact ⟨_, _, _, hcs⟩
  · simp at hcs; exact ⟨_, _, _, hcs⟩

/-- Slices of bytes that came in. -/
def In2 (w : World) (A : Option Addr) (n : Nat) (vs : List Value) (ps : List (List UInt8)) : Prop :=
  Has w w.heap.size A n vs ∧ vs.length = ps.length ∧ ∀ (i : Nat) (v : Value) (p : List UInt8), vs[i]? = some v → ps[i]? = some p → ∃ A' c', v = .slice A' p.length c' ∧ Arg8 w A' p.length c' p
theorem opn_lists {fuel : Nat} {A : Option Addr} {n c : Nat} {x : DataW H × List MemPlace} (h : DataW.trod enc Try.prog w 0 (fun _ => true) held fuel 35 [.slice A n c] = some x) : ∃ vs ps, In2 w A n vs ps := by
  rcases open_slice tyBss h with ⟨hcs, _⟩ | ⟨a, len, cap, m, q, D, Pl, hcs, _, hl, hm, hmm, _, hx⟩
  · simp at hcs
    obtain ⟨rfl, rfl, rfl⟩ := hcs
    exact ⟨[], [], Has.nil _ _ _, rfl, fun i v p h => by simp at h⟩
  · simp at hcs
    obtain ⟨rfl, rfl, rfl⟩ := hcs
    have hC : Try.prog.cellsOf 23 = 1 := by kernel_rfl
    have hnm : n ≤ m := by rw [hmm]; simp; omega
    have each : ∀ i, i < m → ∃ x : Value × List UInt8, w.cell? (a.add i) = some x.1 ∧ ∃ A' c', x.1 = .slice A' x.2.length c' ∧ Arg8 w A' x.2.length c' x.2 := by
      intro i hi
      obtain ⟨cs', hc, ht'⟩ := hx i hi
      rw [hC] at hc
      obtain ⟨_, hcl, hat⟩ := World.cells?_some hc
      obtain ⟨v, rfl⟩ := List.length_eq_one_iff.1 hcl
      have e0 := hat 0 (by omega)
      rw [Go.Deep.add_add] at e0
      obtain ⟨A', n', c', rfl⟩ := slice_val tyBs ht'
      obtain ⟨l, hl8⟩ := opn8 ht'
      obtain rfl : l.length = n' := hl8.len
      exact ⟨(_, l), by simpa using e0, A', c', rfl, hl8⟩
    have hall : ∃ f : Nat → Value × List UInt8, ∀ i, i < m → w.cell? (a.add i) = some (f i).1 ∧ ∃ A' c', (f i).1 = .slice A' (f i).2.length c' ∧ Arg8 w A' (f i).2.length c' (f i).2 := by
      refine ⟨fun i => if hi : i < m then Classical.choose (each i hi) else (.slice none 0 0, []), fun i hi => ?_⟩
      simp only [dif_pos hi]
      exact Classical.choose_spec (each i hi)
    obtain ⟨f, hf⟩ := hall
    refine ⟨(List.range n).map fun i => (f i).1, (List.range n).map fun i => (f i).2, ⟨by simp, fun h0 => ?_⟩, by simp, fun i v p h1 h2 => ?_⟩
    · obtain ⟨ea, hlt⟩ := spotL_of (a := a) (hf 0 (by omega)).1
      refine ⟨a.block, a.off, by rw [← ea], hlt, fun j hj => ?_⟩
      have hj' : j < n := by simpa using hj
      have g1 := (hf j (by omega)).1
      rw [ea, addL_flat] at g1
      simp only [List.getElem_map, List.getElem_range]
      exact g1
    · have hi : i < n := by have := (List.getElem?_eq_some_iff.1 h1).1; simpa using this
      simp only [List.getElem?_map, List.getElem?_range hi, Option.map_some, Option.some.injEq] at h1 h2
      subst h1 h2
      exact (hf i (by omega)).2
end

end Go.Proofs.Ytfnoahbhccgbgaa
