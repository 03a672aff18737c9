/-
  Slices of fields that came in.
-/
import Derived.Test.YtmfoegpdjajicaaFdM
import Derived.Deep.Slices
import Derived.Deep.Fields
import Derived.ChangeSame
namespace Go.Proofs.Ytmfoegpdjajicaa
open Go.RowKit Go.ChangeShapes Go.WideShapes Go.Deep

theorem addr_flat (b off j : Nat) : (⟨b, off, none⟩ : Addr).add j = ⟨b, off + j, none⟩ := by unfold Addr.add; split <;> simp_all
theorem spotD_of {w : World} {a : Addr} {v : Value} (h : w.cell? (a.add 0) = some v) : a = ⟨a.block, a.off, none⟩ ∧ a.block < w.heap.size := by
  have hx0 : a.add 0 = a := by unfold Addr.add; simp
  rw [hx0] at h
  unfold World.cell? at h
  split at h
  · rename_i hh
    by_cases hs : a.spot.isSome = true
    · rw [if_pos hs] at h; cases h
    · have hn : a.spot = none := by simpa using hs
      exact ⟨by cases a; simp_all, (Array.getElem?_eq_some_iff.1 hh).1⟩
  · cases h
theorem len2 {α : Type} {l : List α} (h : l.length = 2) : ∃ a b, l = [a, b] := by
  cases l with
  | nil => cases h
  | cons a l => cases l with
    | nil => cases h
    | cons b l => cases l with
      | nil => exact ⟨a, b, rfl⟩
      | cons c l => simp at h
section
variable {H : Type} {enc : TypeId × Value → H} {w : World} {held : Bool}
theorem open_fds {fuel : Nat} {A : Option Addr} {n c : Nat} {x : DataW H × List MemPlace} (h : DataW.trod enc Try.prog w 0 (fun _ => true) held fuel 25 [.slice A n c] = some x) : ∃ l, InFd w A n c l := by
  rcases open_slice tyFds h with ⟨hcs, _⟩ | ⟨a, len, cap, m, q, D, Pl, hcs, _, hl, hm, hmm, _, hx⟩
  · simp at hcs
    obtain ⟨rfl, rfl, rfl⟩ := hcs
    exact ⟨[], HasFd.nil _ _ _, Nat.le_refl _, Nat.zero_le _⟩
  · simp at hcs
    obtain ⟨rfl, rfl, rfl⟩ := hcs
    have hC : Try.prog.cellsOf 44 = 2 := by kernel_rfl
    have hnm : n ≤ m := by rw [hmm]; simp; omega
    have each : ∀ i, i < m → ∃ d : Fv, w.cell? (a.add (i * 2)) = some (.string (bs d.name)) ∧ w.cell? (a.add (i * 2 + 1)) = some (.string (bs d.value)) := by
      intro i hi
      obtain ⟨cs', hc, ht'⟩ := hx i hi
      rw [hC] at hc
      obtain ⟨_, hcl, hat⟩ := World.cells?_some hc
      obtain ⟨ys, n', hn', hy, hlen, hyl, hf⟩ := DataW.trod_struct Try.underlying44 ht'
      obtain ⟨v0, v1, rfl⟩ := len2 hcl
      have e0 := hat 0 (by omega)
      have e1 := hat 1 (by omega)
      obtain ⟨y0, y1, rfl⟩ := len2 hyl
      have k0 : Try.prog.cellsOf 9 = 1 := by kernel_rfl
      have t0 : DataW.trod enc Try.prog w 0 (fun _ => true) held n' 9 [v0] = some y0 := by
        have := hf 0 _ rfl
        change DataW.trod _ _ _ _ _ _ _ 9 (List.take (Try.prog.cellsOf 9) _) = _ at this
        rw [k0] at this
        exact this
      have t1 : DataW.trod enc Try.prog w 0 (fun _ => true) held n' 9 [v1] = some y1 := by
        have := hf 1 _ rfl
        change DataW.trod _ _ _ _ _ _ _ 9 (List.take (Try.prog.cellsOf 9) _) = _ at this
        rw [k0] at this
        exact this
      obtain ⟨s0, r0, _, _⟩ := DataW.trod_string tyStr t0
      obtain ⟨s1, r1, _, _⟩ := DataW.trod_string tyStr t1
      simp at r0 r1
      subst r0 r1
      rw [Go.Deep.add_add] at e0 e1
      exact ⟨⟨ls s0, ls s1⟩, by simpa [bs_ls] using e0, by simpa [bs_ls] using e1⟩
    have hall : ∃ f : Nat → Fv, ∀ i, i < m → w.cell? (a.add (i * 2)) = some (.string (bs (f i).name)) ∧ w.cell? (a.add (i * 2 + 1)) = some (.string (bs (f i).value)) := by
      refine ⟨fun i => if hi : i < m then Classical.choose (each i hi) else ⟨[], []⟩, fun i hi => ?_⟩
      simp only [dif_pos hi]
      exact Classical.choose_spec (each i hi)
    obtain ⟨f, hf⟩ := hall
    refine ⟨(List.range n).map f, ⟨by simp, fun h0 => ?_⟩, hl, hm⟩
    obtain ⟨ea, hlt⟩ := spotD_of (a := a) (by simpa using (hf 0 (by omega)).1)
    refine ⟨a.block, a.off, by rw [← ea], hlt, fun j hj => ?_⟩
    have hj' : j < n := by simpa using hj
    have hfj := hf j (by omega)
    rw [ea] at hfj
    simp only [addr_flat] at hfj
    simp only [List.getElem_map, List.getElem_range]
    obtain ⟨g0, g1⟩ := hfj
    exact ⟨g0, by rw [Nat.add_assoc]; exact g1⟩
end

end Go.Proofs.Ytmfoegpdjajicaa
