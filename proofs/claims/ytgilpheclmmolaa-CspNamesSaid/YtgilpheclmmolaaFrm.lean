/-
  Which blocks of memory a call may turn: those of a set F, and new ones. No program.
-/
import Derived.Test.YtgilpheclmmolaaApp
import Derived.Maps.RangeWalk
import Derived.Maps.OwnSet
namespace Go.Proofs.Ytgilpheclmmolaa
open Go.RowKit

/-- Nothing but the blocks of F has turned. -/
structure Frm (F : Nat → Prop) (w w' : World) : Prop where
  os : w'.os = w.os
  tape : w'.tape = w.tape
  output : w'.output = w.output
  size : w.heap.size ≤ w'.heap.size
  block : ∀ k, k < w.heap.size → ¬ F k → w'.heap[k]? = w.heap[k]?

section
variable {F G : Nat → Prop} {w w1 w2 : World}
theorem Frm.refl (F : Nat → Prop) (w : World) : Frm F w w := ⟨rfl, rfl, rfl, Nat.le_refl _, fun _ _ _ => rfl⟩
theorem Frm.trans (h : Frm F w w1) (k : Frm G w1 w2) (hG : ∀ b, G b → F b ∨ w.heap.size ≤ b) : Frm F w w2 :=
  ⟨k.os.trans h.os, k.tape.trans h.tape, k.output.trans h.output, Nat.le_trans h.size k.size, fun i hi hF =>
    (k.block i (by have := h.size; omega) fun hg => (hG i hg).elim hF (fun h1 => by omega)).trans (h.block i hi hF)⟩
theorem Frm.trans' (h : Frm F w w1) (k : Frm F w1 w2) : Frm F w w2 := h.trans k fun _ h => .inl h
theorem Frm.more (h : Frm F w w1) (hG : ∀ b, F b → b < w.heap.size → G b) : Frm G w w1 := ⟨h.os, h.tape, h.output, h.size, fun i hi hn => h.block i hi fun hf => hn (hG i hf hi)⟩
theorem Frm.of_below (h : Below w.heap.size w w1) : Frm F w w1 := ⟨h.os, h.tape, h.output, h.size, fun i hi _ => h.block i hi⟩
theorem Frm.below {B : Nat} (h : Frm F w w1) (hF : ∀ b, F b → B ≤ b) (hB : B ≤ w.heap.size) : Below B w w1 := ⟨h.os, h.tape, h.output, h.size, fun i hi => h.block i (by omega) fun hf => by have := hF i hf; omega⟩
theorem Frm.of_grown {row : Option Nat} (h : w.grownBy w1 row) (hF : ∀ b, row = some b → F b) : Frm F w w1 :=
  ⟨h.os, h.tape, h.output, h.size, fun i hi hn => h.block i hi fun e => hn (hF i e.symm)⟩
theorem Frm.alloc (h : Frm F w w1) (o : Obj) : Frm F w (w1.alloc o) := h.trans' (Frm.of_below ((Below.refl _ _).alloc (Nat.le_refl _) o))
theorem Frm.setCell (h : Frm F w w1) {p : Addr} (hp : F p.block ∨ w.heap.size ≤ p.block) (u : Value) : Frm F w (w1.setCell p u) :=
  h.trans (G := fun b => b = p.block) ⟨rfl, rfl, rfl, by simp [World.setCell], fun k _ hn => Below.heap_setCell _ _ _ _ hn⟩ fun b e => by subst e; exact hp
theorem Frm.cell (h : Frm F w w1) {p : Addr} (hp : p.block < w.heap.size) (hn : ¬ F p.block) : w1.cell? p = w.cell? p := World.cell?_of_block (w := w) (h.block p.block hp hn)
theorem lt_of_some {b : Nat} {o : Obj} (h : w.heap[b]? = some o) : b < w.heap.size := (Array.getElem?_eq_some_iff.1 h).1
theorem Frm.obj (h : Frm F w w1) {b : Nat} {o : Obj} (ho : w.heap[b]? = some o) (hn : ¬ F b) : w1.heap[b]? = some o := (h.block b (lt_of_some ho) hn).trans ho
theorem cell_lt {b j : Nat} {v : Value} (h : w.cell? ⟨b, j, none⟩ = some v) : b < w.heap.size := by
  unfold World.cell? at h
  split at h
  · rename_i hh
    exact (Array.getElem?_eq_some_iff.1 hh).1
  · cases h
theorem maps_frm {H : Type} {P : Program} {k : TypeId} {R : Value → Option (DataW H × List MemPlace)} {b n : Nat} {D : DataW H} (h : w.ownsMap P k R b n D) (hf : Frm F w w1) (hn : ¬ F b) : w1.ownsMap P k R b n D := by
  obtain ⟨es, clock, hb, r⟩ := h
  exact ⟨es, clock, hf.obj hb hn, r⟩
end

/-- A slice that reads as a list of values, none of them in a block of F. -/
def HasF (F : Nat → Prop) (w : World) (A : Option Addr) (n : Nat) (xs : List Value) : Prop :=
  xs.length = n ∧ (0 < n → ∃ b off, A = some ⟨b, off, none⟩ ∧ b < w.heap.size ∧ ¬ F b ∧ ∀ j (h : j < xs.length), w.cell? ⟨b, off + j, none⟩ = some xs[j])
section
variable {F G : Nat → Prop} {w w1 : World} {A : Option Addr} {n : Nat} {xs : List Value}
theorem HasF.has (h : HasF F w A n xs) : Has w w.heap.size A n xs :=
  ⟨h.1, fun h0 => by obtain ⟨b, off, e, hb, _, hc⟩ := h.2 h0; exact ⟨b, off, e, hb, hc⟩⟩
theorem HasF.of (h : Has w w.heap.size A n xs) (hF : ∀ b, F b → False) : HasF F w A n xs :=
  ⟨h.1, fun h0 => by obtain ⟨b, off, e, hb, hc⟩ := h.2 h0; exact ⟨b, off, e, hb, hF b, hc⟩⟩
theorem HasF.of_low {B : Nat} (h : Has w B A n xs) (hB : B ≤ w.heap.size) (hF : ∀ b, F b → B ≤ b) : HasF F w A n xs :=
  ⟨h.1, fun h0 => by obtain ⟨b, off, e, hb, hc⟩ := h.2 h0; exact ⟨b, off, e, by omega, fun hf => by have := hF b hf; omega, hc⟩⟩
theorem HasF.keep (h : HasF F w A n xs) (hf : Frm F w w1) (hG : ∀ b, G b → F b ∨ w.heap.size ≤ b) : HasF G w1 A n xs :=
  ⟨h.1, fun h0 => by
    obtain ⟨b, off, e, hb, hn, hc⟩ := h.2 h0
    exact ⟨b, off, e, by have := hf.size; omega, fun hg => (hG b hg).elim hn (fun h1 => by omega), fun j hj => (hf.cell (p := ⟨b, off + j, none⟩) hb hn).trans (hc j hj)⟩⟩
theorem HasF.less (h : HasF F w A n xs) (hG : ∀ b, G b → F b) : HasF G w A n xs :=
  ⟨h.1, fun h0 => by obtain ⟨b, off, e, hb, hn, hc⟩ := h.2 h0; exact ⟨b, off, e, hb, fun hg => hn (hG b hg), hc⟩⟩
end

theorem hasF_own {w : World} {F : Nat → Prop} {base e m c : Nat} {A : Option Addr} {xs : List Value} (h : w.ownsRow base e 1 (.slice A m c) m xs) (hF : ∀ b, F b → b < base) : HasF F w A m xs := by
  rcases h.2 with ⟨e, hn⟩ | ⟨g, cap, cur, e, hb, hg, hnc, _⟩
  · subst hn
    exact ⟨by simpa using h.1, fun h0 => absurd h0 (by omega)⟩
  · obtain ⟨A', c', e', hh, _⟩ := Has.of_own h
    refine ⟨hh.1, fun h0 => ?_⟩
    obtain ⟨b, off, eb, hlt, hc⟩ := hh.2 h0
    injection e with e1 _ _
    injection e' with e2 _ _
    rw [← e2, e1] at eb
    injection eb with eb
    injection eb with eb1 eb2
    subst eb1
    refine ⟨g, off, by rw [e1]; congr 2, hlt, fun hf => by have := hF g hf; omega, hc⟩

/-- How an element of a map reads whose values are kept as they are. -/
def heldR (v : Value) : Option (DataW Value × List MemPlace) := some (.held v, [])
theorem maps_tight {H : Type} {P : Program} {k : TypeId} {R : Value → Option (DataW H × List MemPlace)} {w : World} {b n : Nat} {D : DataW H} (h : w.ownsMap P k R b n D) (m : Nat) (hm : Maps.size D ≤ m) : w.ownsMap P k R b m D := by
  obtain ⟨es, clock, hb, F, hs, rfl⟩ := h
  exact ⟨es, clock, hb, F, by simpa [Maps.size, length_read] using hm, rfl⟩

end Go.Proofs.Ytgilpheclmmolaa
