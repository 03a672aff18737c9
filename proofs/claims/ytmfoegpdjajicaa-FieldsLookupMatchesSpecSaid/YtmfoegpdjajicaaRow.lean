/-
  A box that holds a slice of one's own, in a loop over an iterator that turns blocks of its own. No program.
-/
import Derived.Test.YtmfoegpdjajicaaRng
import Derived.Test.YtmfoegpdjajicaaArr
import Derived.RangeFuncBox
import Derived.Maps.AppendAt
import Derived.OwnWalkIn
import Derived.TacticsInMore
namespace Go.Proofs.Ytmfoegpdjajicaa
open Go.RowKit

theorem ownT_row {β : Type} {Al : Nat → Prop} {B : Nat} (b : Nat) (t : TypeId) (c : β → Array Value) (hA : ¬ Al b) : OwnT Al B (fun s W => Row W b t (c s)) := by
  intro s W W' row hs hg hr
  refine (hg.block b hs.lt ?_).trans hs
  intro e
  rcases hr b e.symm with h | ⟨_, o, ho, hc⟩
  · exact hA h
  · rw [show W.heap[b]? = _ from hs] at ho
    cases ho
    cases hc
/-- The box b holds a slice that owns f s, in blocks from N on. -/
def BoxRow (W : World) (b : Nat) (t : TypeId) (N : Nat) (e : TypeId) (size k : Nat) (xs : List Value) : Prop := ∃ v, Boxed W b t v ∧ W.ownsRow N e size v k xs
theorem ownT_boxrow {β : Type} {Al : Nat → Prop} {B : Nat} (b : Nat) (t : TypeId) (N : Nat) (e : TypeId) (size : Nat) (k : β → Nat) (f : β → List Value) (hA : ¬ Al b) (hN : ∀ r, Al r → r < N) :
    OwnT Al B (fun s W => BoxRow W b t N e size (k s) (f s)) := by
  rintro s W W' row ⟨v, hv, hr⟩ hg hrow
  refine ⟨v, ownT_box (Al := Al) (B := B) b t (fun _ : Unit => v) hA () W W' row hv hg hrow, hr.kept hg ?_⟩
  rcases hr.2 with ⟨rfl, _⟩ | ⟨g, cap, cur, rfl, hge, hgb, _⟩
  · exact .inl rfl
  · refine .inr fun e' => ?_
    have e2 : row = some g := by simpa [Value.ownBlock] using e'.symm
    rcases hrow g e2 with h | ⟨_, o, ho, hc⟩
    · have := hN g h
      omega
    · rw [hgb] at ho
      cases ho
      cases hc
theorem BoxRow.later {W W' : World} {b N : Nat} {t e : TypeId} {size k : Nat} {xs : List Value} (h : BoxRow W b t N e size k xs) (hb : Below W.heap.size W W') : BoxRow W' b t N e size k xs := by
  obtain ⟨v, hv, hr⟩ := h
  refine ⟨v, (hb.block b hv.lt).trans hv, hr.kept (row := none) ⟨hb.os, hb.tape, hb.output, hb.size, fun k hk _ => hb.block k hk⟩ ?_⟩
  cases hv : v.ownBlock with
  | none => exact .inl rfl
  | some g => exact .inr (by simp)
/-- 'out = append(out, x)' and the store into the box. -/
theorem box_app {W w1 : World} {N b : Nat} {t e : TypeId} {size k m : Nat} {v v' : Value} {xs ys : List Value} {tmp : Obj} (hv : Boxed W b t v) (hr : W.ownsRow N e size v k xs) (hb : b < N) (hN : N ≤ W.heap.size)
    (hown : w1.ownsRow N e size v' m ys) (hg : (W.alloc tmp).grownBy w1 v.ownBlock) :
    Boxed w1 b t v ∧ Boxed (w1.setCell ⟨b, 0, none⟩ v') b t v' ∧ BoxRow (w1.setCell ⟨b, 0, none⟩ v') b t N e size m ys ∧ KeepsOthers W (w1.setCell ⟨b, 0, none⟩ v') ∧
    (∀ r, r < N → r ≠ b → (w1.setCell ⟨b, 0, none⟩ v').heap[r]? = W.heap[r]?) ∧ (∀ n₀ (w : World), n₀ ≤ b → Below n₀ w W → Below n₀ w (w1.setCell ⟨b, 0, none⟩ v')) := by
  have hge : ∀ {X : World} {u : Value} {j : Nat} {zs : List Value}, X.ownsRow N e size u j zs → ∀ g, u.ownBlock = some g → N ≤ g ∧ ∃ o, X.heap[g]? = some o ∧ o.isCells = true := by
    intro X u j zs h g hu
    rcases h.2 with ⟨rfl, _⟩ | ⟨g', cap, cur, rfl, hge, hgb, _⟩
    · simp [Value.ownBlock] at hu
    · obtain rfl : g' = g := by simpa [Value.ownBlock] using hu
      exact ⟨hge, _, hgb, rfl⟩
  have hv1 : Boxed w1 b t v := (hv.alloc tmp).kept hg (fun h => by have := (hge hr b h.symm).1; omega)
  have hs : ∀ r, r < N → r ≠ b → (w1.setCell ⟨b, 0, none⟩ v').heap[r]? = W.heap[r]? := by
    intro r hrN hne
    rw [Below.heap_setCell _ _ _ r hne, hg.block r (by simp; omega) (fun h => by have := (hge hr r h.symm).1; omega)]
    exact Below.heap_alloc W tmp r (by omega)
  refine ⟨hv1, hv1.set v', ⟨v', hv1.set v', hown.kept (grownBy_setCell' w1 b v') (.inr fun h => ?_)⟩, ?_, hs, ?_⟩
  · have := (hge hown b h).1
    omega
  · refine ((KeepsOthers.alloc W tmp).trans (KeepsOthers.of_grownBy hg fun j o ej hj => ?_)).trans (KeepsOthers.setCell _ _ _)
    obtain ⟨_, o', ho', hc⟩ := hge hr j ej
    rw [Below.heap_alloc W tmp j (Array.getElem?_eq_some_iff.1 ho').1, ho'] at hj
    cases hj
    exact hc
  · intro n₀ w hn hB
    refine (hB.trans (((Below.refl n₀ W).alloc (by omega) tmp).grown hg (by simp; omega) fun j ej => ?_)).setCell (p := ⟨b, 0, none⟩) hn v'
    have := (hge hr j ej).1
    omega

/-- The store of a whole row, within a fence. -/
theorem wpListIn_store_row {F : Fence} {n : Nat} {P : Program} (w : World) {ops : Array Oper} {rest : List Oper} {o : Oper} {a : Act} {Q : Exit → Act → World → Prop}
    (hg : o.guard = none) (hd : o.dst = none) (t : TypeId) (p x : Operand) (hop : o.op = .store t p x) (g : Nat) (hp : a.eval p = .pointer (some ⟨g, 0, none⟩)) (c' : Array Value) (hx : a.eval x = .agg c')
    (t' : TypeId) (c : Array Value) (hrow : Row w g t' c) (hi : (P.info? t).map (·.size) = some c'.size) (ho : c.size = c'.size) (h1 : c'.all (·.oneCell') = true)
    (h : ∀ w', Row w' g t' c' → w.grownBy w' (some g) → wpListIn F n P ops Q rest a w') : wpListIn F n P ops Q (o :: rest) a w := by
  refine wpListIn_plain hg fun K hK => ?_
  have hl := run_storeVar_row (P := P) w g t' t c c' hrow hi ho h1
  have : wpListIn F n P ops Q rest (a.put o.dst undef) (w.setRow g c') := by
    rw [hd]
    exact h (w.setRow g c') (setRow_heap w g c c' t' _ hrow) (grown_setRow w g c')
  unfold Oper.wpIn
  refine ⟨?_, ?_⟩
  · simp [Oper.about, hop]
  · rw [Oper.semAt_plain F _ _ (by rw [hop]; intro c hc'; cases hc')]
    simp only [execOp, hop, hp, hx, Instr.storeAt, Instr.sureAddr, Sem.run_bind, Sem.run_pure, Result.andThen, hl]
    exact hK _ _ this

end Go.Proofs.Ytmfoegpdjajicaa
