/-
  A list of directives of one's own, two of which are exchanged.
-/
import Derived.Test.YtpopkeidpohdiaaDvN
import Derived.Test.YtpopkeidpohdiaaStM
import Derived.Deep.MidRow
namespace Go.Proofs.Ytpopkeidpohdiaa
open Go.RowKit

/-- The cells of a list in block g from its head on, which may be written. -/
structure MSt (W : World) (g n : Nat) (m : List Dv) : Prop where
  has : HasDv W (g + 1) (some ⟨g, 0, none⟩) n m
  free : ∀ j, j < n * 3 → W.frozen? ⟨g, j, none⟩ = false
  lt : g < W.heap.size
theorem MSt.of_own {base n : Nat} {w : World} {v : Value} {l : List Dv} (h : w.ownsRow base 32 3 v n (dvv l)) (hn : 0 < n) : ∃ g c, v = .slice (some ⟨g, 0, none⟩) n c ∧ n ≤ c ∧ base ≤ g ∧ MSt w g n l := by
  obtain ⟨A, c, hv, hh, hc, _⟩ := HasDv.of_own h
  rcases h.2 with ⟨_, hn0⟩ | ⟨g, cap, cur, rfl, hb, hg, hnc, _⟩
  · omega
  · injection hv with h1 _ h3
    subst h1 h3
    refine ⟨g, cap, rfl, hnc, hb, ?_, fun j _ => ?_, (Array.getElem?_eq_some_iff.1 hg).1⟩
    · refine ⟨hh.1, fun h0 => ?_⟩
      obtain ⟨b, off, e, _, hcs⟩ := hh.2 h0
      injection e with e
      injection e with e1 e2 _
      subst e1 e2
      exact ⟨g, 0, rfl, by omega, hcs⟩
    · simp [World.frozen?, hg]
theorem MSt.range {W : World} {g n : Nat} {m : List Dv} (h : MSt W g n m) {k : Nat} (hk : k < m.length) : W.rangeAt g (k * 3) [.string (bs m[k].name), .string (bs m[k].value), .bool m[k].has] := by
  obtain ⟨b, off, e, _, hc⟩ := h.has.2 (by have := h.has.1; omega)
  injection e with e
  injection e with e1 e2 _
  subst e1 e2
  obtain ⟨c0, c1, c2⟩ := hc k hk
  rw [Nat.zero_add] at c0 c1 c2
  intro j u hj
  match j, hj with
  | 0, hj => simp at hj; subst hj; exact c0
  | 1, hj => simp at hj; subst hj; exact c1
  | 2, hj => simp at hj; subst hj; exact c2
  | j + 3, hj => simp at hj
theorem MSt.there {W : World} {g n : Nat} {m : List Dv} (h : MSt W g n m) {k : Nat} (hk : k < n) : W.there g (k * 3) 3 := by
  intro j hj
  have hr := (h.range (k := k) (by rw [h.has.1]; exact hk)).isSome j (by simpa using hj)
  exact ⟨hr, h.free _ (by omega)⟩
theorem heap_setCells (b : Nat) : ∀ (vs : List Value) (o : Nat) (w : World), (w.setCells b o vs).heap.size = w.heap.size ∧ (∀ k, k ≠ b → (w.setCells b o vs).heap[k]? = w.heap[k]?) ∧ (w.setCells b o vs).os = w.os ∧ (w.setCells b o vs).tape = w.tape ∧ (w.setCells b o vs).output = w.output
  | [], _, _ => ⟨rfl, fun _ _ => rfl, rfl, rfl, rfl⟩
  | v :: r, o, w => by
    have ih := heap_setCells b r (o + 1) (w.setCell ⟨b, o, none⟩ v)
    rw [World.setCells]
    refine ⟨ih.1.trans (by simp [World.setCell]), fun k hk => (ih.2.1 k hk).trans (Below.heap_setCell _ _ _ _ hk), ih.2.2.1.trans rfl, ih.2.2.2.1.trans rfl, ih.2.2.2.2.trans rfl⟩
theorem grown_setCells (w : World) (b o : Nat) (vs : List Value) : w.grownBy (w.setCells b o vs) (some b) := by
  obtain ⟨h1, h2, h3, h4, h5⟩ := heap_setCells b vs o w
  exact ⟨h3, h4, h5, by omega, fun k _ hk => h2 k (fun e => hk (by rw [e]))⟩
theorem MSt.set {W : World} {g n k : Nat} {m : List Dv} (h : MSt W g n m) (hk : k < n) (d : Dv) : MSt (W.setCells g (k * 3) [.string (bs d.name), .string (bs d.value), .bool d.has]) g n (m.set k d) := by
  refine ⟨⟨by rw [List.length_set]; exact h.has.1, fun _ => ⟨g, 0, rfl, by omega, fun j hj => ?_⟩⟩, fun j hj => by rw [World.frozen?_setCells]; exact h.free j hj, by rw [(heap_setCells g _ _ W).1]; exact h.lt⟩
  rw [List.length_set] at hj
  have key : (W.setCells g (k * 3) [.string (bs d.name), .string (bs d.value), .bool d.has]).rangeAt g (j * 3) [.string (bs (m.set k d)[j].name), .string (bs (m.set k d)[j].value), .bool (m.set k d)[j].has] := by
    by_cases e : k = j
    · subst e
      simp only [List.getElem_set_self]
      exact World.rangeAt_setCells_same W g (k * 3) _ (h.there hk)
    · simp only [List.getElem_set_ne e]
      exact World.rangeAt_setCells_apart (h.range hj) g (k * 3) _ (by simp; omega)
  rw [Nat.zero_add]
  exact ⟨key 0 _ rfl, key 1 _ rfl, key 2 _ rfl⟩
theorem below_drw {B : Nat} {w x : World} (h : Below B w x) : Below B w x.drew := h.trans ⟨rfl, rfl, rfl, Nat.le_refl _, fun _ _ => rfl⟩
theorem below_set {B g o : Nat} {w x : World} {vs : List Value} (h : Below B w x) (hB : B ≤ w.heap.size) (hg : B ≤ g) : Below B w (x.setCells g o vs) := below_row h (grown_setCells _ _ _ _) hB hg
theorem MSt.drewN {W : World} {g n : Nat} {m : List Dv} (h : MSt W g n m) (k : Nat) : MSt (W.drewN k) g n m := ⟨h.has, h.free, h.lt⟩
theorem MSt.drew {W : World} {g n : Nat} {m : List Dv} (h : MSt W g n m) : MSt W.drew g n m := ⟨h.has, h.free, h.lt⟩

end Go.Proofs.Ytpopkeidpohdiaa
