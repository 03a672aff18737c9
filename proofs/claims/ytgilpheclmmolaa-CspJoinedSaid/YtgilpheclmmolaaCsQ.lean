/-
  Where the reference's add of layer 20 stands: its variable, the list of names that it owns, the result's variable.
-/
import Derived.Test.YtgilpheclmmolaaCsT
namespace Go.Proofs.Ytgilpheclmmolaa
open Go.RowKit

/-- The blocks that it turns. -/
def ownR (b2 : Nat) (v : Value) : Nat → Prop := fun j => j = b2 ∨ some j = v.ownBlock
structure RAdd (N b2 b4 : Nat) (w : World) (l : List (List UInt8)) (u s : Bool) (A : Option Addr) (k : Nat) (W : World) : Prop where
  row2 : RowCv W b2 u s A l.length k
  own : W.ownsRow N 9 1 (.slice A l.length k) l.length (wv l)
  row4 : RowCv W b4 false false none 0 0
  bel : Below N w W
  h2 : w.heap.size ≤ b2
  h4 : w.heap.size ≤ b4
  ne : b2 ≠ b4
  hN : N ≤ w.heap.size
section
variable {N b2 b4 : Nat} {w W W' : World} {l : List (List UInt8)} {u s u' s' : Bool} {A : Option Addr} {k : Nat}
theorem row_other {t : TypeId} {c : Array Value} {g n m : Nat} {v : Value} {xs : List Value} (hne : t ≠ 9) (h : W.heap[g]? = some (.cells c t)) (ho : W.ownsRow n 9 1 v m xs) : some g ≠ v.ownBlock := by
  rcases ho.2 with ⟨rfl, _⟩ | ⟨g', cap, cur, rfl, hge, hgb, _⟩
  · simp [Value.ownBlock]
  · intro e
    obtain rfl : g = g' := by simpa [Value.ownBlock] using e
    rw [h] at hgb
    cases hgb
    exact hne rfl
theorem own_at {n m : Nat} {v : Value} {xs : List Value} (ho : W.ownsRow n 9 1 v m xs) {g : Nat} (hg : v.ownBlock = some g) : n ≤ g ∧ g < W.heap.size := by
  rcases ho.2 with ⟨rfl, _⟩ | ⟨g', cap, cur, rfl, hge, hgb, _⟩
  · simp [Value.ownBlock] at hg
  · obtain rfl : g' = g := by simpa [Value.ownBlock] using hg
    exact ⟨hge, (Array.getElem?_eq_some_iff.1 hgb).1⟩
theorem RAdd.out2 (h : RAdd N b2 b4 w l u s A k W) : some b2 ≠ (Value.slice A l.length k).ownBlock := row_other (by decide) h.row2 h.own
theorem RAdd.out4 (h : RAdd N b2 b4 w l u s A k W) : some b4 ≠ (Value.slice A l.length k).ownBlock := row_other (by decide) h.row4 h.own
theorem RAdd.lt2 (h : RAdd N b2 b4 w l u s A k W) : b2 < W.heap.size := (Array.getElem?_eq_some_iff.1 (show W.heap[b2]? = _ from h.row2)).1
theorem RAdd.bound (h : RAdd N b2 b4 w l u s A k W) : ∀ j, ownR b2 (.slice A l.length k) j → j < W.heap.size := by
  rintro j (rfl | hj)
  · exact h.lt2
  · exact (own_at h.own hj.symm).2
theorem RAdd.below (h : RAdd N b2 b4 w l u s A k W) (hb : Below W.heap.size W W') : RAdd N b2 b4 w l u s A k W' := by
  have hz := h.bel.size
  refine ⟨(hb.block _ h.lt2).trans h.row2, h.own.kept (row := none) ⟨hb.os, hb.tape, hb.output, hb.size, fun k hk _ => hb.block k hk⟩ ?_, (hb.block _ (Array.getElem?_eq_some_iff.1 (show W.heap[b4]? = _ from h.row4)).1).trans h.row4, h.bel.trans (hb.mono (Nat.le_trans h.hN hz)), h.h2, h.h4, h.ne, h.hN⟩
  cases hv : (Value.slice A l.length k).ownBlock with
  | none => exact .inl rfl
  | some g => exact .inr (by simp)
theorem grow_below (C : Nat → Prop) (hb : Below W.heap.size W W') : Grow C C W W' := ⟨hb.size, fun k hk _ => hb.block k hk, fun _ h => .inl h⟩
theorem RAdd.set (h : RAdd N b2 b4 w l u s A k W) (hr : RowCv W' b2 u' s' A l.length k) (hg : W.grownBy W' (some b2)) :
    RAdd N b2 b4 w l u' s' A k W' ∧ Grow (ownR b2 (.slice A l.length k)) (ownR b2 (.slice A l.length k)) W W' := by
  have h4 := (Array.getElem?_eq_some_iff.1 (show W.heap[b4]? = _ from h.row4)).1
  refine ⟨⟨hr, h.own.kept hg (.inr fun e => h.out2 e.symm), (hg.block _ h4 (fun e => h.ne (by simpa using e.symm))).trans h.row4, h.bel.grown hg (Nat.le_trans h.hN h.bel.size) (fun j e => by cases e; exact Nat.le_trans h.hN h.h2), h.h2, h.h4, h.ne, h.hN⟩, ⟨hg.size, fun j hj hc => hg.block j hj (fun e => hc (.inl (by simpa using e))), fun _ hc => .inl hc⟩⟩
theorem RAdd.app {W5 : World} {v' : Value} {x : List UInt8} {tmp : Obj} (h : RAdd N b2 b4 w l u s A k W) (hown : W5.ownsRow N 9 1 v' (l.length + 1) (wv l ++ [.string (bs x)])) (hg5 : (W.alloc tmp).grownBy W5 (Value.slice A l.length k).ownBlock)
    (hat : v'.ownBlock = (Value.slice A l.length k).ownBlock ∨ v'.ownBlock = some (W.alloc tmp).heap.size) :
    RowCv W5 b2 u s A l.length k ∧ ∀ (A' : Option Addr) (k' : Nat) (W6 : World), v' = .slice A' (l.length + 1) k' → RowCv W6 b2 u s A' (l.length + 1) k' → W5.grownBy W6 (some b2) →
      RAdd N b2 b4 w (l ++ [x]) u s A' k' W6 ∧ Grow (ownR b2 (.slice A l.length k)) (ownR b2 (.slice A' (l ++ [x]).length k')) W W6 := by
  have hz5 := hg5.size
  simp only [World.size_alloc] at hz5 hat
  have hW := h.bel.size
  have hN := h.hN
  have step : ∀ j, j < W.heap.size → some j ≠ (Value.slice A l.length k).ownBlock → W5.heap[j]? = W.heap[j]? := fun j hj hv => by
    rw [hg5.block j (by simp; omega) hv, Below.heap_alloc W tmp j (by omega)]
  have h4 := (Array.getElem?_eq_some_iff.1 (show W.heap[b4]? = _ from h.row4)).1
  have r5 : RowCv W5 b2 u s A l.length k := (step _ h.lt2 h.out2).trans h.row2
  refine ⟨r5, ?_⟩
  rintro A' k' W6 rfl hr hg6
  have ho2 : some b2 ≠ (Value.slice A' (l.length + 1) k').ownBlock := row_other (by decide) (show W5.heap[b2]? = _ from r5) hown
  have hb5 : Below N w W5 := (h.bel.alloc (by omega) tmp).grown hg5 (by simp; omega) (fun j e => (own_at h.own e).1)
  refine ⟨⟨?_, ?_, ?_, ?_, h.h2, h.h4, h.ne, hN⟩, ⟨Nat.le_trans (by omega) hg6.size, ?_, ?_⟩⟩
  · rw [List.length_append, List.length_singleton]; exact hr
  · have := hown.kept hg6 (.inr fun e => ho2 e.symm)
    rw [List.length_append, List.length_singleton, ← wv_snoc]
    exact this
  · exact (hg6.block _ (by omega) (fun e => h.ne (by simpa using e.symm))).trans ((step _ h4 h.out4).trans h.row4)
  · exact hb5.grown hg6 (Nat.le_trans hN hb5.size) (fun j e => by cases e; exact Nat.le_trans hN h.h2)
  · intro j hj hc
    have h1 : some j ≠ some b2 := fun e => hc (.inl (by simpa using e))
    exact (hg6.block j (by omega) h1).trans (step j hj fun e => hc (.inr e))
  · rintro j (rfl | hj)
    · exact .inl (.inl rfl)
    · have hj' : some j = (Value.slice A' (l.length + 1) k').ownBlock := by rw [hj]; cases A' <;> rfl
      rcases hat with ha | ha
      · exact .inl (.inr (hj'.trans ha))
      · rw [ha] at hj'
        cases hj'
        exact .inr (by omega)
/-- What was made of strings before W1, by no block of C1, reads in W as it did. -/
theorem has_grow {C1 C : Nat → Prop} {W1 : World} {B n : Nat} {A : Option Addr} {xs : List Value} (hg : Grow C1 C W1 W) (h : Has W1 B A n xs) (hB : B ≤ W1.heap.size) (hC : ∀ b, A.map (·.block) = some b → ¬ C1 b) : Has W B A n xs := by
  refine ⟨h.1, fun hn => ?_⟩
  obtain ⟨b, off, rfl, hb, hc⟩ := h.2 hn
  refine ⟨b, off, rfl, hb, fun j hj => ?_⟩
  rw [← hc j hj]
  have := hg.same b (by omega) (hC b rfl)
  show (match W.heap[b]? with | _ => _) = _
  unfold World.cell?
  simp only [this]
end

end Go.Proofs.Ytgilpheclmmolaa
