/-
  Where the program's Parse of package fields stands: the results' cells, the list of fields in its box.
-/
import Derived.Test.YtmfoegpdjajicaaFdM
import Derived.Test.YtmfoegpdjajicaaRnD
import Derived.Test.YtmfoegpdjajicaaRow
import Derived.RangeFuncBox
namespace Go.Proofs.Ytmfoegpdjajicaa
open Go.RowKit

theorem wpListIn_store_fd {F : Fence} {m : Nat} {ops : Array Oper} {rest : List Oper} {o : Oper} {a : Act} {w : World} {Q : Exit → Act → World → Prop} (hgd : o.guard = none) (hd : o.dst = none) (p x : Operand) (ho : o.op = .store 44 p x)
    (g : Nat) (hp : a.eval p = .pointer (some ⟨g, 0, none⟩)) (n' v' : ByteArray) (hx : a.eval x = .agg #[.string n', .string v']) (n v : ByteArray) (hrow : RowFd w g n v)
    (h : ∀ w', RowFd w' g n' v' → w.grownBy w' (some g) → wpListIn F m Try.prog ops Q rest a w') : wpListIn F m Try.prog ops Q (o :: rest) a w :=
  wpListIn_store_row w hgd hd _ p x ho g hp #[.string n', .string v'] hx _ _ hrow fdSize rfl (fc_one _ _) h

/-- The blocks that the rounds turn: the results' cells, the list's box, the list's row. -/
def ownP (n0 : Nat) (v : Value) : Nat → Prop := fun k => k = n0 ∨ k = n0 + 1 ∨ k = n0 + 2 ∨ some k = v.ownBlock
structure PF (w : World) (n0 : Nat) (l : List Fv) (v rv : Value) (re : Int) (W : World) : Prop where
  res : Boxed W n0 25 rv
  err : Boxed W (n0 + 1) 26 (.int .i64 re)
  box : Boxed W (n0 + 2) 25 v
  row : W.ownsRow (n0 + 3) 44 2 v l.length (fvv l)
  bel : Below n0 w W
  n0_ : n0 = w.heap.size
section
variable {w W W' : World} {n0 : Nat} {l : List Fv} {v rv : Value} {re : Int}
theorem PF.big (h : PF w n0 l v rv re W) : n0 + 3 ≤ W.heap.size := h.box.lt
theorem PF.own_row (h : PF w n0 l v rv re W) {g : Nat} (hg : v.ownBlock = some g) : n0 + 3 ≤ g ∧ g < W.heap.size := by
  rcases h.row.2 with ⟨rfl, _⟩ | ⟨g', cap, cur, rfl, hge, hgb, _⟩
  · simp [Value.ownBlock] at hg
  · obtain rfl : g' = g := by simpa [Value.ownBlock] using hg
    exact ⟨hge, (Array.getElem?_eq_some_iff.1 hgb).1⟩
theorem PF.bound (h : PF w n0 l v rv re W) : ∀ k, ownP n0 v k → k < W.heap.size := by
  have := h.big
  rintro k (rfl | rfl | rfl | hk)
  · omega
  · omega
  · omega
  · exact (h.own_row hk.symm).2
theorem PF.grow {row : Option Nat} (h : PF w n0 l v rv re W) (hg : W.grownBy W' row) (hr : ∀ r, row = some r → n0 + 3 ≤ r ∧ ¬ ownP n0 v r) : PF w n0 l v rv re W' := by
  have ne : ∀ k, k < n0 + 3 → some k ≠ row := fun k hk e => by have := (hr k e.symm).1; omega
  refine ⟨h.res.kept hg (ne _ (by omega)), h.err.kept hg (ne _ (by omega)), h.box.kept hg (ne _ (by omega)), h.row.kept hg ?_, h.bel.grown hg (by rw [h.n0_]; exact h.bel.size) (fun k e => by have := (hr k e).1; omega), h.n0_⟩
  cases hv : v.ownBlock with
  | none => exact .inl rfl
  | some g => exact .inr fun e => (hr g e.symm).2 (.inr (.inr (.inr hv.symm)))
theorem PF.below (h : PF w n0 l v rv re W) (hb : Below W.heap.size W W') : PF w n0 l v rv re W' :=
  h.grow (row := none) ⟨hb.os, hb.tape, hb.output, hb.size, fun k hk _ => hb.block k hk⟩ (fun r e => by cases e)
theorem PF.start (w : World) : PF w w.heap.size [] (.slice none 0 0) (.slice none 0 0) 0 (((w.alloc (.cells #[.slice none 0 0] 25)).alloc (.cells #[.int .i64 0] 26)).alloc (.cells #[.slice none 0 0] 25)) := by
  obtain ⟨w1, h1⟩ : ∃ x, x = w.alloc (.cells #[.slice none 0 0] 25) := ⟨_, rfl⟩
  obtain ⟨w2, h2⟩ : ∃ x, x = w1.alloc (.cells #[.int .i64 0] 26) := ⟨_, rfl⟩
  rw [← h1, ← h2]
  have z1 : w1.heap.size = w.heap.size + 1 := by rw [h1]; simp
  have z2 : w2.heap.size = w.heap.size + 2 := by rw [h2]; simp; omega
  have r1 : Boxed w1 w.heap.size 25 (.slice none 0 0) := by rw [h1]; exact Boxed.new _ _ _
  have r2 : Boxed w2 (w.heap.size + 1) 26 (.int .i64 0) := by have := Boxed.new w1 26 (.int .i64 0); rw [z1] at this; rw [h2]; exact this
  have r1' : Boxed w2 w.heap.size 25 (.slice none 0 0) := by rw [h2]; exact r1.alloc _
  have r3 := Boxed.new w2 25 (.slice none 0 0)
  rw [z2] at r3
  refine ⟨r1'.alloc _, r2.alloc _, r3, World.ownsRow_nil _ _ _ _, ?_, rfl⟩
  rw [h2, h1]
  exact (((Below.refl _ w).alloc (Nat.le_refl _) _).alloc (by simp) _).alloc (by simp; omega) _
/-- The results' cells are set. -/
theorem PF.set (h : PF w n0 l v rv re W) (rv' : Value) (re' : Int) : PF w n0 l v rv' re' ((W.setCell ⟨n0, 0, none⟩ rv').setCell ⟨n0 + 1, 0, none⟩ (.int .i64 re')) ∧ Grow (ownP n0 v) (ownP n0 v) W ((W.setCell ⟨n0, 0, none⟩ rv').setCell ⟨n0 + 1, 0, none⟩ (.int .i64 re')) := by
  have nv : ∀ k, k < n0 + 3 → v.ownBlock ≠ some k := fun k hk e => by have := (h.own_row e).1; omega
  have g1 := grownBy_setCell' W n0 rv'
  have g2 := grownBy_setCell' (W.setCell ⟨n0, 0, none⟩ rv') (n0 + 1) (.int .i64 re')
  refine ⟨⟨(h.res.set rv').other (by omega) _, (h.err.other (by omega) rv').set _, (h.box.other (by omega) rv').other (by omega) _, ?_, ?_, h.n0_⟩, ⟨Nat.le_trans g1.size g2.size, fun k hk hc => ?_, fun _ h => .inl h⟩⟩
  · exact (h.row.kept g1 (.inr (nv _ (by omega)))).kept g2 (.inr (nv _ (by omega)))
  · exact (h.bel.setCell (p := ⟨n0, 0, none⟩) (Nat.le_refl _) rv').setCell (p := ⟨n0 + 1, 0, none⟩) (Nat.le_succ _) _
  · have h1 : k ≠ n0 := fun e => hc (.inl e)
    have h2 : k ≠ n0 + 1 := fun e => hc (.inr (.inl e))
    exact (Below.heap_setCell _ _ _ k h2).trans (Below.heap_setCell _ _ _ k h1)
/-- A field is behind the list's end. -/
theorem PF.app {w5 : World} {v' : Value} {tmp : Obj} {N V : ByteArray} (h : PF w n0 l v rv re W) (hown : w5.ownsRow (n0 + 3) 44 2 v' (l.length + 1) (fvv l ++ [.string N, .string V])) (hg5 : (W.alloc tmp).grownBy w5 v.ownBlock)
    (hat : v'.ownBlock = v.ownBlock ∨ v'.ownBlock = some (W.alloc tmp).heap.size) :
    Boxed w5 (n0 + 2) 25 v ∧ PF w n0 (l ++ [⟨ls N, ls V⟩]) v' rv re (w5.setCell ⟨n0 + 2, 0, none⟩ v') ∧ Grow (ownP n0 v) (ownP n0 v') W (w5.setCell ⟨n0 + 2, 0, none⟩ v') := by
  have hbig := h.big
  have hz5 := hg5.size
  simp only [World.size_alloc] at hz5 hat
  have hge : ∀ g, v.ownBlock = some g → n0 + 3 ≤ g := fun g e => (h.own_row e).1
  have hge' : ∀ g, v'.ownBlock = some g → n0 + 3 ≤ g := fun g e => by
    rcases hat with ha | ha
    · exact hge g (ha ▸ e)
    · rw [ha] at e; cases e; omega
  have step : ∀ k, k < W.heap.size → some k ≠ v.ownBlock → w5.heap[k]? = W.heap[k]? := fun k hk hv => by
    rw [hg5.block k (by simp; omega) hv, Below.heap_alloc W tmp k (by omega)]
  have nv : ∀ k, k < n0 + 3 → some k ≠ v.ownBlock := fun k hk e => by have := hge k e.symm; omega
  have nv' : ∀ k, k < n0 + 3 → v'.ownBlock ≠ some k := fun k hk e => by have := hge' k e; omega
  have b5 : Boxed w5 (n0 + 2) 25 v := (step _ (by omega) (nv _ (by omega))).trans h.box
  have b4 : Boxed w5 (n0 + 1) 26 (.int .i64 re) := (step _ (by omega) (nv _ (by omega))).trans h.err
  have b3 : Boxed w5 n0 25 rv := (step _ (by omega) (nv _ (by omega))).trans h.res
  have fin : ∀ k, k ≠ n0 + 2 → (w5.setCell ⟨n0 + 2, 0, none⟩ v').heap[k]? = w5.heap[k]? := fun k hk => Below.heap_setCell _ _ _ k hk
  have hzf : w5.heap.size ≤ (w5.setCell ⟨n0 + 2, 0, none⟩ v').heap.size := (grownBy_setCell' w5 (n0 + 2) v').size
  refine ⟨b5, ⟨b3.other (by omega) _, b4.other (by omega) _, b5.set v', ?_, ?_, h.n0_⟩, ⟨by omega, ?_, ?_⟩⟩
  · have := hown.kept (grownBy_setCell' w5 (n0 + 2) v') (.inr (nv' _ (by omega)))
    rw [List.length_append, List.length_singleton]
    have e := fvv_snoc l ⟨ls N, ls V⟩
    simp only [bs_ls] at e
    rw [← e]
    exact this
  · have hw := h.bel.size
    have e0 := h.n0_
    have b2 := h.bel.alloc (by omega) tmp
    have b3 := b2.grown hg5 (by simp; omega) (fun k e => by have := hge k e; omega)
    exact b3.setCell (p := ⟨n0 + 2, 0, none⟩) (by show n0 ≤ n0 + 2; omega) v'
  · intro k hk hc
    have h2 : k ≠ n0 + 2 := fun e => hc (.inr (.inr (.inl e)))
    have h3 : some k ≠ v.ownBlock := fun e => hc (.inr (.inr (.inr e)))
    exact (fin k h2).trans (step k hk h3)
  · rintro k (rfl | rfl | rfl | hk)
    · exact .inl (.inl rfl)
    · exact .inl (.inr (.inl rfl))
    · exact .inl (.inr (.inr (.inl rfl)))
    · rcases hat with ha | ha
      · exact .inl (.inr (.inr (.inr (hk.trans ha))))
      · rw [ha] at hk
        cases hk
        exact .inr (by omega)
end

end Go.Proofs.Ytmfoegpdjajicaa
