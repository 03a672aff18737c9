/-
  Both disks in memory, apart from each other; what a call on one of them leaves of the other.
-/
import Derived.Test.YtbknpfngboioeaaDrH
import Derived.Test.YtbknpfngboioeaaDkJ
namespace Go.Proofs.Ytbknpfngboioeaa
open Go.RowKit

/-- The program's disk in the blocks F1, the reference's in F2, none of them older than w. -/
structure Two (w x : World) (F1 F2 : Nat → Prop) (a1 a2 n : Nat) (S1 S2 : Dsk) : Prop where
  p : PD x F1 a1 n S1
  r : RD x F2 a2 n S2
  ne : ∀ b, F1 b → F2 b → False
  lo1 : ∀ b, F1 b → w.heap.size ≤ b
  lo2 : ∀ b, F2 b → w.heap.size ≤ b
  bel : Below w.heap.size w x
section
variable {w x y : World} {F1 F2 : Nat → Prop} {a1 a2 n : Nat} {S1 S2 S : Dsk}
theorem Two.below (h : Two w x F1 F2 a1 a2 n S1 S2) (hb : Below x.heap.size x y) : Two w y F1 F2 a1 a2 n S1 S2 :=
  ⟨h.p.below hb, h.r.below hb, h.ne, h.lo1, h.lo2, h.bel.trans (hb.mono h.bel.size)⟩
theorem Two.p_step (h : Two w x F1 F2 a1 a2 n S1 S2) (hp : PD y (fun b => F1 b ∨ newF x y b) a1 n S) (hf : Frm F1 x y) : Two w y (fun b => F1 b ∨ newF x y b) F2 a1 a2 n S S2 :=
  ⟨hp, h.r.keep hf h.ne, fun b hb h2 => hb.elim (fun hb => h.ne b hb h2) fun hb => by have := h.r.lt b h2; have := hb.1; omega,
    fun b hb => hb.elim (h.lo1 b) fun hb => by have := h.bel.size; have := hb.1; omega, h.lo2, h.bel.trans (hf.below h.lo1 h.bel.size)⟩
theorem Two.r_step (h : Two w x F1 F2 a1 a2 n S1 S2) (hp : RD y (fun b => F2 b ∨ newF x y b) a2 n S) (hf : Frm F2 x y) : Two w y F1 (fun b => F2 b ∨ newF x y b) a1 a2 n S1 S :=
  ⟨h.p.keep hf fun b h2 h1 => h.ne b h1 h2, hp, fun b h1 hb => hb.elim (fun hb => h.ne b h1 hb) fun hb => by have := h.p.lt b h1; have := hb.1; omega,
    h.lo1, fun b hb => hb.elim (h.lo2 b) fun hb => by have := h.bel.size; have := hb.1; omega, h.bel.trans (hf.below h.lo2 h.bel.size)⟩
theorem Two.p_same (h : Two w x F1 F2 a1 a2 n S1 S2) (hp : PD y F1 a1 n S) (hf : Frm F1 x y) : Two w y F1 F2 a1 a2 n S S2 :=
  ⟨hp, h.r.keep hf h.ne, h.ne, h.lo1, h.lo2, h.bel.trans (hf.below h.lo1 h.bel.size)⟩
theorem Two.r_same (h : Two w x F1 F2 a1 a2 n S1 S2) (hp : RD y F2 a2 n S) (hf : Frm F2 x y) : Two w y F1 F2 a1 a2 n S1 S :=
  ⟨h.p.keep hf fun b h2 h1 => h.ne b h1 h2, hp, h.ne, h.lo1, h.lo2, h.bel.trans (hf.below h.lo2 h.bel.size)⟩
theorem Two.has1 (h : Two w x F1 F2 a1 a2 n S1 S2) {A : Option Addr} {m : Nat} {xs : List Value} (hA : Has w w.heap.size A m xs) : HasF F1 x A m xs :=
  HasF.of_low (hA.below' h.bel (Nat.le_refl _)) h.bel.size h.lo1
theorem Two.has2 (h : Two w x F1 F2 a1 a2 n S1 S2) {A : Option Addr} {m : Nat} {xs : List Value} (hA : Has w w.heap.size A m xs) : HasF F2 x A m xs :=
  HasF.of_low (hA.below' h.bel (Nat.le_refl _)) h.bel.size h.lo2
theorem Two.prs1 (h : Two w x F1 F2 a1 a2 n S1 S2) {A : Option Addr} {m : Nat} {ps : List (Int × Int)} (hA : PairsF noF w A m ps) : PairsF F1 x A m ps :=
  hA.keep (Frm.of_below h.bel) fun b hb => .inr (h.lo1 b hb)
theorem Two.prs2 (h : Two w x F1 F2 a1 a2 n S1 S2) {A : Option Addr} {m : Nat} {ps : List (Int × Int)} (hA : PairsF noF w A m ps) : PairsF F2 x A m ps :=
  hA.keep (Frm.of_below h.bel) fun b hb => .inr (h.lo2 b hb)
/-- A cell of a block that is neither disk's stays as it was. -/
theorem Two.far1 (h : Two w x F1 F2 a1 a2 n S1 S2) (hf : Frm F1 x y) {z j : Nat} {v : Value} (hz : ¬ F1 z) (hc : x.cell? ⟨z, j, none⟩ = some v) : y.cell? ⟨z, j, none⟩ = some v :=
  (hf.cell (p := ⟨z, j, none⟩) (cell_lt hc) hz).trans hc
end
theorem hasF_own {w : World} {F : Nat → Prop} {base e m c : Nat} {A : Option Addr} {xs : List Value} (h : w.ownsRow base e 1 (.slice A m c) m xs) (hF : ∀ b, F b → b < base) : HasF F w A m xs := by
  rcases h.2 with ⟨e, hn⟩ | ⟨g, cap, cur, e, hb, hg, hnc, _⟩
  · subst hn
    exact ⟨by simpa using h.1, fun h0 => absurd h0 (by omega)⟩
  · obtain ⟨A', c', e', hh, _⟩ := Has.of_own h
    refine ⟨hh.1, fun h0 => ?_⟩
    obtain ⟨b, off, eb, hlt, hc⟩ := hh.2 h0
    injection e with e1 _ _
    injection e' with e2 _ _
    rw [← e2, e1] at eb
    injection eb with eb
    injection eb with eb1 eb2
    subst eb1
    refine ⟨g, off, by rw [e1]; congr 2, hlt, fun hf => by have := hF g hf; omega, hc⟩
theorem rdv_has {w w1 w2 : World} {F : Nat → Prop} {A : Option Addr} {m : Nat} {l : List UInt8} (h : ∀ G : Nat → Prop, (∀ b, G b → b < w.heap.size) → HasF G w1 A m (l.map bv)) (hF : ∀ b, F b → b < w.heap.size) (hf : Frm F w1 w2) : Has w2 w2.heap.size A m (l.map bv) :=
  ((h F hF).keep hf fun b hb => .inl hb).has

end Go.Proofs.Ytbknpfngboioeaa
