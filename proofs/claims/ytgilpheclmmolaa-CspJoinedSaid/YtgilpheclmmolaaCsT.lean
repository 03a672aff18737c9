/-
  Where the program's Merge of package csp stands: the list of names in its box, the map of names, the result's variable.
-/
import Derived.Test.YtgilpheclmmolaaCsS
import Derived.Test.YtgilpheclmmolaaCvM
import Derived.Test.YtgilpheclmmolaaCsN
namespace Go.Proofs.Ytgilpheclmmolaa
open Go.RowKit

/-! ### plain -/
def addN (l : List (List UInt8)) (n : List UInt8) : List (List UInt8) := if n ∈ l then l else l ++ [n]
theorem names_addC (c : Cv) (n : List UInt8) : (addC c n).names = addN c.names n := rfl
theorem names_fold : ∀ (xs : List (List UInt8)) (c : Cv), (xs.foldl addC c).names = xs.foldl addN c.names
  | [], _ => rfl
  | x :: r, c => by rw [List.foldl_cons, List.foldl_cons, names_fold r, names_addC]
theorem addN_len (l : List (List UInt8)) (n : List UInt8) : (addN l n).length ≤ l.length + 1 := by
  unfold addN
  split <;> simp
theorem fold_len : ∀ (xs l : List (List UInt8)), (xs.foldl addN l).length ≤ l.length + xs.length
  | [], l => by simp
  | x :: r, l => by
    rw [List.foldl_cons]
    have h1 := fold_len r (addN l x)
    have h2 := addN_len l x
    simp
    omega
theorem splitG_len (c : UInt8) : ∀ (l cur : List UInt8), (splitG c l cur).length ≤ l.length + 1
  | [], cur => by simp [splitG]
  | b :: l, cur => by
    rw [splitG]
    split
    · have := splitG_len c l []
      simp
      omega
    · have := splitG_len c l (cur ++ [b])
      simp
      omega
theorem splitG_part (c : UInt8) : ∀ (l cur : List UInt8), ∀ p ∈ splitG c l cur, p.length ≤ cur.length + l.length
  | [], cur, p, h => by
    simp [splitG] at h
    subst h
    simp
  | b :: l, cur, p, h => by
    rw [splitG] at h
    split at h
    · rcases List.mem_cons.1 h with rfl | h
      · omega
      · have := splitG_part c l [] p h
        simp at this ⊢
        omega
    · have := splitG_part c l (cur ++ [b]) p h
      simp at this ⊢
      omega
theorem flat_len {n : Nat} {f : List UInt8 → List (List UInt8)} : ∀ (ps : List (List UInt8)), (∀ p ∈ ps, (f p).length ≤ n) → (ps.flatMap f).length ≤ ps.length * n
  | [], _ => by simp
  | p :: r, h => by
    have h1 := h p (by simp)
    have h2 := flat_len r fun q hq => h q (by simp [hq])
    rw [List.flatMap_cons, List.length_append, List.length_cons, Nat.add_mul]
    omega
theorem namesV_len {v : List UInt8} (h : v.length ≤ 4096) : (namesV v).length ≤ 16785409 := by
  have h1 := splitG_len 44 v []
  have h2 := flat_len (n := 4097) (f := namesP) (splitL 44 v) (fun p hp => by
    have h3 := splitG_part 44 v [] p hp
    have h4 := splitG_len 59 p []
    have h5 : ((splitL 59 p).filterMap nameD).length ≤ (splitL 59 p).length := List.length_filterMap_le _ _
    have h6 : (splitL 59 p).length ≤ p.length + 1 := h4
    simp at h3
    show ((splitL 59 p).filterMap nameD).length ≤ 4097
    omega)
  have h7 : (splitL 44 v).length ≤ 4097 := by
    have : (splitL 44 v).length ≤ v.length + 1 := h1
    omega
  have h8 : (splitL 44 v).length * 4097 ≤ 4097 * 4097 := Nat.mul_le_mul_right _ h7
  show ((splitL 44 v).flatMap namesP).length ≤ _
  omega
/-- The names behind the first k values. -/
def nmK (vs : List (List UInt8)) (k : Nat) : List (List UInt8) := ((vs.take k).foldl addV cv0).names
theorem nmK_zero (vs : List (List UInt8)) : nmK vs 0 = [] := rfl
theorem nmK_succ {vs : List (List UInt8)} {k : Nat} (h : k < vs.length) : nmK vs (k + 1) = (namesV vs[k]).foldl addN (nmK vs k) := by
  unfold nmK
  rw [List.take_succ_eq_append_getElem h, List.foldl_append, List.foldl_cons, List.foldl_nil, addV_names, names_fold]
theorem too_at {vs : List (List UInt8)} {k : Nat} (h : k < vs.length) (hb : 4096 < vs[k].length) : mergeC vs = (cv0, 3) := by
  have : tooL vs = true := by
    unfold tooL
    rw [List.any_eq_true]
    exact ⟨vs[k], List.getElem_mem h, decide_eq_true hb⟩
  unfold mergeC
  rw [this]
  rfl
theorem not_too {vs : List (List UInt8)} (h : ∀ v ∈ vs, v.length ≤ 4096) : mergeC vs = (vs.foldl addV cv0, 0) := by
  have : tooL vs = false := by
    unfold tooL
    rw [List.any_eq_false]
    intro v hv
    have := h v hv
    simp
    omega
  unfold mergeC
  rw [this]
  rfl

/-! ### memory -/
/-- The blocks that the rounds turn: the list's box, the map, the list's row. -/
def ownC (n0 : Nat) (v : Value) : Nat → Prop := fun k => k = n0 + 1 ∨ k = n0 + 2 ∨ some k = v.ownBlock
structure MS (w : World) (n0 : Nat) (l : List (List UInt8)) (v : Value) (D : DataW Value) (W : World) : Prop where
  res : RowCv W n0 false false none 0 0
  box : Boxed W (n0 + 1) 22 v
  row : W.ownsRow (n0 + 4) 9 1 v l.length (wv l)
  map : MapB W (n0 + 2) l.length D l
  mbx : Boxed W (n0 + 3) 38 (.map (some (n0 + 2)))
  bel : Below n0 w W
  n0_ : n0 = w.heap.size
theorem MS.big {w : World} {n0 : Nat} {l : List (List UInt8)} {v : Value} {D : DataW Value} {W : World} (h : MS w n0 l v D W) : n0 + 4 ≤ W.heap.size := h.mbx.lt
theorem MS.own_row {w : World} {n0 : Nat} {l : List (List UInt8)} {v : Value} {D : DataW Value} {W : World} (h : MS w n0 l v D W) {g : Nat} (hg : v.ownBlock = some g) : n0 + 4 ≤ g ∧ g < W.heap.size := by
  rcases h.row.2 with ⟨rfl, _⟩ | ⟨g', cap, cur, rfl, hge, hgb, _⟩
  · simp [Value.ownBlock] at hg
  · obtain rfl : g' = g := by simpa [Value.ownBlock] using hg
    exact ⟨hge, (Array.getElem?_eq_some_iff.1 hgb).1⟩
theorem MS.bound {w : World} {n0 : Nat} {l : List (List UInt8)} {v : Value} {D : DataW Value} {W : World} (h : MS w n0 l v D W) : ∀ k, ownC n0 v k → k < W.heap.size := by
  have := h.big
  rintro k (rfl | rfl | hk)
  · omega
  · omega
  · exact (h.own_row hk.symm).2
theorem MS.grow {w : World} {n0 : Nat} {l : List (List UInt8)} {v : Value} {D : DataW Value} {W W' : World} {row : Option Nat} (h : MS w n0 l v D W) (hg : W.grownBy W' row) (hr : ∀ r, row = some r → n0 + 4 ≤ r ∧ ¬ ownC n0 v r) : MS w n0 l v D W' := by
  have ne : ∀ k, k < n0 + 4 → some k ≠ row := fun k hk e => by have := (hr k e.symm).1; omega
  refine ⟨(hg.block _ (by have := h.big; omega) (ne _ (by omega))).trans h.res, h.box.kept hg (ne _ (by omega)), h.row.kept hg ?_, h.map.kept hg (ne _ (by omega)), h.mbx.kept hg (ne _ (by omega)), h.bel.grown hg (by rw [h.n0_]; exact h.bel.size) (fun k e => by have := (hr k e).1; omega), h.n0_⟩
  cases hv : v.ownBlock with
  | none => exact .inl rfl
  | some g => exact .inr fun e => (hr g e.symm).2 (.inr (.inr hv.symm))
theorem MS.std {β : Type} {w : World} {n0 B : Nat} (hB : n0 + 4 ≤ B) (f : β → List (List UInt8)) : Std B (fun (s : β) C W => ∃ v D, MS w n0 (f s) v D W ∧ C = ownC n0 v) := by
  rintro s C W W' row ⟨v, D, h, rfl⟩ hg hr
  exact ⟨v, D, h.grow hg (fun r e => ⟨by have := (hr r e).1; omega, (hr r e).2⟩), rfl⟩
theorem MS.below {w : World} {n0 : Nat} {l : List (List UInt8)} {v : Value} {D : DataW Value} {W W' : World} (h : MS w n0 l v D W) (hb : Below W.heap.size W W') : MS w n0 l v D W' :=
  h.grow (row := none) ⟨hb.os, hb.tape, hb.output, hb.size, fun k hk _ => hb.block k hk⟩ (fun r e => by cases e)
theorem MS.start (w : World) : MS w w.heap.size [] (.slice none 0 0) (.map []) ((((w.alloc (.cells #[.bool false, .bool false, .slice none 0 0] 26)).alloc (.cells #[.slice none 0 0] 22)).alloc (.map #[] 0)).alloc (.cells #[.map (some (w.heap.size + 2))] 38)) := by
  obtain ⟨w1, h1⟩ : ∃ x, x = w.alloc (.cells #[.bool false, .bool false, .slice none 0 0] 26) := ⟨_, rfl⟩
  obtain ⟨w2, h2⟩ : ∃ x, x = w1.alloc (.cells #[.slice none 0 0] 22) := ⟨_, rfl⟩
  obtain ⟨w3, h3⟩ : ∃ x, x = w2.alloc (.map #[] 0) := ⟨_, rfl⟩
  rw [← h1, ← h2, ← h3]
  have z1 : w1.heap.size = w.heap.size + 1 := by rw [h1]; simp
  have z2 : w2.heap.size = w.heap.size + 2 := by rw [h2]; simp; omega
  have z3 : w3.heap.size = w.heap.size + 3 := by rw [h3]; simp; omega
  have g1 : Below w.heap.size w w1 := by rw [h1]; exact (Below.refl _ w).alloc (Nat.le_refl _) _
  have g2 : Below w1.heap.size w1 w2 := by rw [h2]; exact (Below.refl _ w1).alloc (Nat.le_refl _) _
  have g3 : Below w2.heap.size w2 w3 := by rw [h3]; exact (Below.refl _ w2).alloc (Nat.le_refl _) _
  have g4 := (Below.refl w3.heap.size w3).alloc (Nat.le_refl _) (.cells #[.map (some (w.heap.size + 2))] 38)
  have r1 : RowCv w1 w.heap.size false false none 0 0 := by rw [h1]; exact row_new w _ _
  have r2 : Boxed w2 (w.heap.size + 1) 22 (.slice none 0 0) := by have := Boxed.new w1 22 (.slice none 0 0); rw [z1] at this; rw [h2]; exact this
  have r3 : MapB w3 (w.heap.size + 2) 0 (.map []) [] := by have := MapB.made w2; rw [z2] at this; rw [h3]; exact this
  have r4 := Boxed.new w3 38 (.map (some (w.heap.size + 2)))
  rw [z3] at r4
  refine ⟨?_, ?_, World.ownsRow_nil _ _ _ _, r3.below g4, r4, g1.trans ((g2.mono (by omega)).trans ((g3.mono (by omega)).trans (g4.mono (by omega)))), rfl⟩
  · exact (g4.block _ (by omega)).trans ((g3.block _ (by omega)).trans ((g2.block _ (by omega)).trans r1))
  · exact (g4.block _ (by omega)).trans ((g3.block _ (by omega)).trans r2)
/-- The map has taken the name; the list has it behind its end, and lies in its box. -/
theorem MS.app {w : World} {n0 : Nat} {l : List (List UInt8)} {v v' : Value} {D D' : DataW Value} {W w1 w5 : World} {x : List UInt8} {tmp : Obj} (h : MS w n0 l v D W) (hm : MapB w1 (n0 + 2) (l.length + 1) D' (l ++ [x])) (hg : W.grownBy w1 (some (n0 + 2)))
    (hown : w5.ownsRow (n0 + 4) 9 1 v' (l.length + 1) (wv l ++ [.string (bs x)])) (hg5 : (w1.alloc tmp).grownBy w5 v.ownBlock) (hat : v'.ownBlock = v.ownBlock ∨ v'.ownBlock = some (w1.alloc tmp).heap.size) :
    Boxed w5 (n0 + 1) 22 v ∧ MS w n0 (l ++ [x]) v' D' (w5.setCell ⟨n0 + 1, 0, none⟩ v') ∧ Grow (ownC n0 v) (ownC n0 v') W (w5.setCell ⟨n0 + 1, 0, none⟩ v') := by
  have hbig := h.big
  have hz1 := hg.size
  have hz5 := hg5.size
  simp only [World.size_alloc] at hz5 hat
  have hge : ∀ g, v.ownBlock = some g → n0 + 4 ≤ g := fun g e => (h.own_row e).1
  have hge' : ∀ g, v'.ownBlock = some g → n0 + 4 ≤ g := fun g e => by
    rcases hat with ha | ha
    · exact hge g (ha ▸ e)
    · rw [ha] at e; cases e; omega
  have step : ∀ k, k < W.heap.size → k ≠ n0 + 2 → some k ≠ v.ownBlock → w5.heap[k]? = W.heap[k]? := fun k hk h2 hv => by
    rw [hg5.block k (by simp; omega) hv, Below.heap_alloc w1 tmp k (by omega)]
    exact hg.block k hk (by simpa using h2)
  have nv : ∀ k, k < n0 + 4 → some k ≠ v.ownBlock := fun k hk e => by have := hge k e.symm; omega
  have nv' : ∀ k, k < n0 + 4 → v'.ownBlock ≠ some k := fun k hk e => by have := hge' k e; omega
  have b5 : Boxed w5 (n0 + 1) 22 v := (step _ (by omega) (by omega) (nv _ (by omega))).trans h.box
  have fin : ∀ k, k ≠ n0 + 1 → (w5.setCell ⟨n0 + 1, 0, none⟩ v').heap[k]? = w5.heap[k]? := fun k hk => Below.heap_setCell _ _ _ k hk
  have hzf : w5.heap.size ≤ (w5.setCell ⟨n0 + 1, 0, none⟩ v').heap.size := (grownBy_setCell' w5 (n0 + 1) v').size
  refine ⟨b5, ⟨?_, b5.set v', ?_, ?_, ?_, ?_, h.n0_⟩, ⟨by omega, ?_, ?_⟩⟩
  · exact (fin _ (by omega)).trans ((step _ (by omega) (by omega) (nv _ (by omega))).trans h.res)
  · have := hown.kept (grownBy_setCell' w5 (n0 + 1) v') (.inr (nv' _ (by omega)))
    rw [List.length_append, List.length_singleton, ← wv_snoc]
    exact this
  · rw [List.length_append, List.length_singleton]
    exact ((hm.kept (World.grownBy_alloc w1 tmp none) (by simp)).kept hg5 (nv _ (by omega))).kept (grownBy_setCell' w5 (n0 + 1) v') (by simp)
  · exact (fin _ (by omega)).trans ((step _ (by omega) (by omega) (nv _ (by omega))).trans h.mbx)
  · have hw := h.bel.size
    have e0 := h.n0_
    have b1 := h.bel.grown hg (by omega) (fun k e => by cases e; omega)
    have b2 := b1.alloc (by omega) tmp
    have b3 := b2.grown hg5 (by simp; omega) (fun k e => by have := hge k e; omega)
    exact b3.setCell (p := ⟨n0 + 1, 0, none⟩) (by show n0 ≤ n0 + 1; omega) v'
  · intro k hk hc
    have h1 : k ≠ n0 + 1 := fun e => hc (.inl e)
    have h2 : k ≠ n0 + 2 := fun e => hc (.inr (.inl e))
    have h3 : some k ≠ v.ownBlock := fun e => hc (.inr (.inr e))
    exact (fin k h1).trans (step k hk h2 h3)
  · rintro k (rfl | rfl | hk)
    · exact .inl (.inl rfl)
    · exact .inl (.inr (.inl rfl))
    · rcases hat with ha | ha
      · exact .inl (.inr (.inr (hk.trans ha)))
      · rw [ha] at hk
        cases hk
        exact .inr (by omega)

end Go.Proofs.Ytgilpheclmmolaa
