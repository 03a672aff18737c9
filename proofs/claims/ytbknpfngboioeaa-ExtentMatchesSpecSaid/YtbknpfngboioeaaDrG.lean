/-
  Towards the reference's Restart: the store of a kept sector, and the disk behind the last three statements.
-/
import Derived.Test.YtbknpfngboioeaaDrF
namespace Go.Proofs.Ytbknpfngboioeaa
open Go.RowKit

theorem keep1_hit {ca : Nat → Option (List UInt8)} {st : Nat → List UInt8} {k : Nat} {y : Int} {xs : List UInt8} (h : ca k = some xs) : keep1 ca st ((k : Int), y) = upd st k (onto (xs.take (kb y)) (st k)) := by
  simp only [keep1, Int.toNat_natCast, h]
  rw [if_neg (by omega)]
theorem onto_parts {xs old : List UInt8} {s : Nat} (hx : xs.length = 64) (hs : s ≤ 64) : xs.take s ++ old.drop s = onto (xs.take s) old := by
  unfold onto
  rw [List.length_take, hx, Nat.min_eq_left hs]
/-- A kept sector is stored. -/
theorem rkeep {D W2 : World} {F : Nat → Prop} {a n k : Nat} {S : Dsk} {st : Nat → List UInt8} {q1 q2 d1 d2 m c : Nat} {A : Option Addr} {V1 V2 : Nat → Value} {v : Value} {l : List UInt8} (h : RDx D F a n (S.withSt st) q1 q2 d1 d2 A m c V1 V2) (bd : Below D.heap.size D W2) (hk : k < n)
    (ho : W2.ownsRow D.heap.size 5 1 v 64 (l.map bv)) :
    RD (W2.setCell ⟨q1, k, none⟩ v) (fun b => F b ∨ newF D (W2.setCell ⟨q1, k, none⟩ v) b) a n (S.withSt (upd st k l)) ∧ Frm F D (W2.setCell ⟨q1, k, none⟩ v) ∧
      W2.cell? ⟨q1, k, none⟩ = some (V1 k) ∧ W2.frozen? ⟨q1, k, none⟩ = false := by
  have hsz : (W2.setCell ⟨q1, k, none⟩ v).heap.size = W2.heap.size := by simp [World.setCell]
  have h2 := (h.keep (G := fun _ => False) (Frm.of_below bd) fun _ h => h.elim)
  have h3 := h2.more (G := fun b => F b ∨ newF D W2 b) (fun b hb => .inl hb) fun b hb => hb.elim (h2.lt b) fun h => h.2
  obtain ⟨g, cg, e, hg, hog⟩ := Own8.of ho (by omega)
  have hsl : Sl W2 (fun b => F b ∨ newF D W2 b) v l := by
    obtain ⟨cur, hr, _⟩ := id hog
    exact ⟨g, cg, e, .inr ⟨hg, hr.lt⟩, hog⟩
  have h4 := h3.set1 hk hsl hog.len
  refine ⟨?_, ?_, h2.row1.cell hk, h2.row1.fr k⟩
  · unfold newF
    rw [hsz]
    exact ⟨_, _, _, _, _, _, _, _, _, h4⟩
  · exact (Frm.of_below bd).trans ((Frm.refl (fun b => b = q1) W2).setCell (p := ⟨q1, k, none⟩) (.inl rfl) _) fun b e => .inl (e ▸ h.f1)
/-- The disk with a new cache, without faults, counted from 0, on. -/
theorem RDx.fresh {w w' : World} {F : Nat → Prop} {a n : Nat} {S : Dsk} {r1 r2 c1 c2 m c g : Nat} {A : Option Addr} {V1 V2 : Nat → Value} (h : RDx w F a n S r1 r2 c1 c2 A m c V1 V2)
    (hf : Frm (fun b => b = a) w w') (hg : w.heap.size ≤ g) (hg' : g < w'.heap.size) (hrow : w'.heap[g]? = some (.cells (madeCells #[.slice none 0 0] n) 32 (0, 0)))
    (hc : w'.heap[a]? = some (.cells #[.slice (some ⟨r1, 0, none⟩) n c1, .slice (some ⟨g, 0, none⟩) n n, .slice none 0 0, .int .i64 0, .bool false] 89 (0, 0))) :
    RD w' (fun b => F b ∨ newF w w' b) a n { st := S.st, ca := fun _ => none, fs := [], cnt := 0, off := false } := by
  have hk : ∀ (b : Nat) (cs : Array Value) (t : TypeId) (f : Nat × Nat), t ≠ 89 → w.heap[b]? = some (.cells cs t f) → w'.heap[b]? = some (.cells cs t f) := fun b cs t f ht ho => hf.obj ho (by
    rintro rfl
    rw [h.cells] at ho
    injection ho with ho
    injection ho with _ ho _
    exact ht ho.symm)
  have hr : ∀ {r V}, Rows32 w r n V → Rows32 w' r n V := fun ⟨cur, hr, hc⟩ => ⟨cur, hk _ _ _ _ (by decide) hr, hc⟩
  have h1 := h.lt r1 h.f1
  refine ⟨r1, g, c1, n, none, 0, 0, V1, fun _ => .slice none 0 0, ⟨h.ok.n1, h.ok.n4, h.ok.st, (fun i xs e => by cases e), by simp, by simp⟩, hc, hr h.row1, ⟨_, hrow, fun i hi => ?_⟩, by omega, fun i hi => ?_, fun i hi => rfl, ⟨rfl, fun h => absurd h (by omega)⟩, by omega, .inl h.fa, .inl h.f1, .inr ⟨hg, hg'⟩, ?_⟩
  · rw [← Array.getElem?_toList, toList_madeCells_one]
    simp [hi]
  · exact Sl.more ((h.v1 i hi).keep fun b cs _ => hk b cs _ _ (by decide)) fun b hb => .inl hb
  · rintro b (hb | hb)
    · have := h.lt b hb; have := hf.size; omega
    · exact hb.2

end Go.Proofs.Ytbknpfngboioeaa
