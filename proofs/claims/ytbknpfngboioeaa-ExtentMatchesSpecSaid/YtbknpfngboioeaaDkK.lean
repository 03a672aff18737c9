/-
  Small contracts of the program's disk: Write of anything on a calm disk, Image with its length named, Dirty of an empty cache.
-/
import Derived.Test.YtbknpfngboioeaaDkG
namespace Go.Proofs.Ytbknpfngboioeaa
open Go.RowKit

theorem write_gen {w : World} {F : Nat → Prop} {a n : Nat} {S : Dsk} (h : PD w F a n S) (hc : Calm S) (i : Int) (A : Option Addr) (len cap : Nat) (l : List UInt8) (hA : HasF F w A len (l.map bv)) :
    Calls Try.prog 14 #[.pointer (some ⟨a, 0, none⟩), .int .i64 i, .slice A len cap] w fun e w' => (∃ z, e = .returned (.int .i64 z)) ∧ (∃ S', Calm S' ∧ PD w' (fun k => F k ∨ newF w w' k) a n S') ∧ Frm F w w' := by
  by_cases hg : 0 ≤ i ∧ i < n ∧ len = 64
  · obtain ⟨h0, h1, rfl⟩ := hg
    obtain ⟨k, rfl⟩ : ∃ k : Nat, i = k := ⟨i.toNat, by omega⟩
    refine (write_calm h hc k (by omega) A cap l hA).mono ?_
    rintro e w' ⟨rfl, h1, h2⟩
    exact ⟨⟨0, rfl⟩, ⟨_, hc.put k l, h1⟩, h2⟩
  · have hok : (inR n i && decide (len = 64)) = false := by
      by_cases h0 : 0 ≤ i <;> by_cases h1 : i < n <;> by_cases h2 : len = 64 <;> simp [inR, h0, h1, h2]
      exact hg ⟨h0, h1, h2⟩
    have he : S.err (inR n i && decide (len = 64)) ≠ 0 := by rw [hok]; simp [Dsk.err, hc.2]
    refine (write_err h i A len cap he).mono ?_
    rintro e w' ⟨rfl, h1, h2⟩
    refine ⟨⟨_, rfl⟩, ⟨S, hc, ?_⟩, h2⟩
    rw [hok] at h1
    have hS : S.begun false = S := by simp [Dsk.begun]
    rw [hS] at h1
    exact h1.more (fun b hb => .inl hb) fun b hb => hb.elim (h1.lt b) fun h => h.2
theorem image_L {w : World} {F : Nat → Prop} {a n L : Nat} {S : Dsk} (h : PD w F a n S) (hL : L = 64 * n) : Calls Try.prog 41 #[.pointer (some ⟨a, 0, none⟩)] w fun e w' =>
    ∃ g, e = .returned (.slice (some ⟨g, 0, none⟩) L L) ∧ w.heap.size ≤ g ∧ w'.heap[g]? = some (.cells ((flat n S.st).map bv).toArray 5 (0, 0)) ∧ Below w.heap.size w w' := by rw [hL]; exact image_any h
theorem own_frm {w w' : World} {F : Nat → Prop} {base e size n : Nat} {v : Value} {xs : List Value} (h : w.ownsRow base e size v n xs) (hf : Frm F w w') (hF : ∀ b, F b → b < base) : w'.ownsRow base e size v n xs :=
  ⟨h.1, h.2.elim Or.inl fun ⟨g, cap, cur, hv, hg, hr, r⟩ => Or.inr ⟨g, cap, cur, hv, hg, hf.obj hr fun hb => by have := hF g hb; omega, r⟩⟩
theorem dirty_none {w : World} {F : Nat → Prop} {a n : Nat} {S : Dsk} (h : PD w F a n S) (hc : ∀ i, S.ca i = none) : Calls Try.prog 39 #[.pointer (some ⟨a, 0, none⟩)] w fun e w' => (∃ A c, e = .returned (.slice A 0 c)) ∧ Below w.heap.size w w' := by
  refine (dirty_any h).mono ?_
  rintro e w' ⟨v, rfl, ho, hb⟩
  have hd : dirtyZ n S.ca = [] := by simp [dirtyZ, dirty, hc]
  rw [hd] at ho
  obtain ⟨A, c, rfl, _⟩ := Has.of_own ho
  exact ⟨⟨A, c, rfl⟩, hb⟩
theorem frm_above {B : Nat} {w w' : World} (h : Below B w w') : Frm (fun k => B ≤ k) w w' := ⟨h.os, h.tape, h.output, h.size, fun k _ hk => h.block k (by omega)⟩


end Go.Proofs.Ytbknpfngboioeaa
