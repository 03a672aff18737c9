/-
  strings.Builder: WriteString and Len.
-/
import Derived.Test.YtbpgkdhdooaigaaBld
import Derived.Lib.AppendStr
namespace Go.Proofs.Ytbpgkdhdooaigaa
open Go.RowKit Go.Shelf

theorem strCells_bv (s : ByteArray) : Lib.strCells s = (ls s).map bv := rfl

/-- Rows of other types than bytes, but for the builder's own block, are as they were. -/
def KeptB (b : Nat) (w w' : World) : Prop := ∀ (g : Nat) (t : TypeId) (c : Array Value) (fr : Nat × Nat), g ≠ b → t ≠ 5 → w.heap[g]? = some (.cells c t fr) → w'.heap[g]? = some (.cells c t fr)
theorem KeptB.refl (b : Nat) (w : World) : KeptB b w w := fun _ _ _ _ _ _ h => h
theorem KeptB.trans {b : Nat} {w w1 w2 : World} (h : KeptB b w w1) (h2 : KeptB b w1 w2) : KeptB b w w2 := fun g t c fr hg ht hr => h2 g t c fr hg ht (h g t c fr hg ht hr)
theorem KeptB.set (b i : Nat) (w : World) (v : Value) : KeptB b w (w.setCell ⟨b, i, none⟩ v) := fun g _t _c _fr hg _ hr => (Below.heap_setCell w ⟨b, i, none⟩ v g hg).trans hr
theorem KeptB.app {b base n : Nat} {w w' : World} {v : Value} {xs : List Value} (hown : w.ownsRow base 5 1 v n xs) (hg : w.grownBy w' v.ownBlock) : KeptB b w w' := by
  intro g t c fr _ ht hr
  refine (hg.block g (Array.getElem?_eq_some_iff.1 hr).1 ?_).trans hr
  intro e
  rcases hown.2 with ⟨rfl, _⟩ | ⟨g', cap, cur, rfl, _, hgg, _⟩
  · simp [Value.ownBlock] at e
  · simp [Value.ownBlock] at e
    subst e
    rw [hgg] at hr
    injection hr with hr
    injection hr with _ hr _
    exact ht hr.symm
theorem KeptB.alloc (b : Nat) (w : World) (o : Obj) : KeptB b w (w.alloc o) := fun g _t _c _fr _ _ hr => (Lib.alloc_old w o g (Array.getElem?_eq_some_iff.1 hr).1).trans hr
theorem chk_k (B b : Nat) (l : List UInt8) (w : World) (h : Bld B b l w) :
    Calls Try.prog 44 #[.pointer (some ⟨b, 0, none⟩)] w fun e w' => e = .returned (.tuple #[]) ∧ Lib.BuilderAt 52 5 B b (.pointer (some ⟨b, 0, none⟩)) (l.map bv) w' ∧ Below B w w' ∧ KeptB b w w' := by
  rcases h with h | h
  · refine (chk_fresh b w h.cell0 h.shape h.frozen0).mono ?_
    rintro e w' ⟨rfl, rfl⟩
    exact ⟨rfl, h.used _, (Below.refl B w).setCell (p := ⟨b, 0, none⟩) h.1 _, KeptB.set _ _ _ _⟩
  · refine (chk_used b w h.cell0).mono ?_
    rintro e w' ⟨rfl, rfl⟩
    exact ⟨rfl, h, Below.refl B _, KeptB.refl _ _⟩

set_option maxRecDepth 20000 in
set_option maxHeartbeats 2000000 in
theorem wb_k (B b : Nat) (l : List UInt8) (c : UInt8) (w : World) (h : Bld B b l w) (hlen : l.length ≤ 100000000000) (hBw : B ≤ w.heap.size) :
    Calls Try.prog 26 #[.pointer (some ⟨b, 0, none⟩), .int .u8 (c.toNat : Int)] w fun e w' => e = .returned .nilIface ∧ Bld B b (l ++ [c]) w' ∧ Below B w w' ∧ KeptB b w w' := by
  obtain ⟨i0, hi, hz0, hz1, hz2⟩ := info_parts infoU8
  have hL : (l.map bv).length ≤ 100000000000 := by rw [List.length_map]; exact hlen
  have hm : (l ++ [c]).map bv = l.map bv ++ [bv c] := by simp
  have hT := chk_k B b l w h
  unfold Bld
  rw [hm]
  clear hm hlen h
  generalize l.map bv = xs at *
  rw [bv_eq]
  generalize (c.toNat : Int) = z at *
  go_enter Try.func26, Try.ntmps26
  go_wp2_with fail
  refine hT.mono ?_
  rintro e w1 ⟨rfl, ⟨hB, v, hbk, hown, hne⟩, hb1, hk1⟩
  clear hT
  have hBw1 : B ≤ w1.heap.size := Nat.le_trans hBw hb1.size
  have hlt : b < w1.heap.size := (Array.getElem?_eq_some_iff.1 hbk).1
  have c1 : w1.cell? ⟨b, 1, none⟩ = some v := by rw [Lib.cell_of_heap hbk]; rfl
  go_wp2_with (at_builtin; refine wpList_append_own _ rfl _ _ 50 rfl B 5 i0 (.int .u8 0) 1 1 tyBs hi hz0 hz1 hz2 rfl (by decide) _ _ _ (by exact rfl) (hown.alloc _) ⟨w1.heap.size, 0, none⟩ 1 1 [.int .u8 z] (by exact rfl) rfl ?c1 ?c2 ?c3 ?c4 ?c5 ?_)
  case c1 =>
    intro j u hj
    match j, hj with
    | 0, hj => simp at hj; subst hj; simp [Addr.add]
  case c2 => intro u hu; simp at hu; subst hu; rfl
  case c3 => unfold maxLen; omega
  case c4 => omega
  case c5 => simp; omega
  intro v' w2 hown' hgrow _
  have hk2 : KeptB b w w2 := (hk1.trans (KeptB.alloc _ _ _)).trans (KeptB.app (hown.alloc _) hgrow)
  have hb2 : w2.heap[b]? = some (.cells #[.pointer (some ⟨b, 0, none⟩), v] 52 (0, 0)) := by
    rw [hgrow.block b (by simp; omega) (fun e => hne e.symm), Lib.alloc_old w1 _ b hlt]
    exact hbk
  have d1 : w2.cell? ⟨b, 1, none⟩ = some v := by rw [Lib.cell_of_heap hb2]; rfl
  have f1 : w2.frozen? ⟨b, 1, none⟩ = false := Lib.frozen_of_heap hb2 1
  obtain ⟨g, cap, rfl⟩ : ∃ g cap, v' = .slice (some ⟨g, 0, none⟩) (xs.length + 1) cap := by
    rcases hown'.2 with ⟨_, h0⟩ | ⟨g, cap, cur, hv, _⟩
    · omega
    · exact ⟨g, cap, hv⟩
  go_wp2
  go_ret
  refine ⟨rfl, .inr ?_, ?_, hk2.trans (KeptB.set _ _ _ _)⟩
  · exact Lib.BuilderAt.put (T := 52) (e := 5) hB hb2 (bs' := xs ++ [.int .u8 z]) (by simpa using hown') (by decide)
  · exact ((hb1.alloc hBw1 _).grown hgrow (by simp; omega) (fun k hk => (hown.lt k hk).1)).setCell (p := ⟨b, 1, none⟩) hB _

set_option maxRecDepth 20000 in
set_option maxHeartbeats 2000000 in
theorem ws_any (B b : Nat) (l : List UInt8) (s : ByteArray) (w : World) (h : Bld B b l w) (hlen : l.length ≤ 100000000000) (hs : s.size ≤ 1000000000) (hBw : B ≤ w.heap.size) :
    Calls Try.prog 25 #[.pointer (some ⟨b, 0, none⟩), .string s] w fun e w' => e = .returned (.tuple #[.int .i64 (s.size : Int), .nilIface]) ∧ Bld B b (l ++ ls s) w' ∧ Below B w w' ∧ KeptB b w w' := by
  obtain ⟨i0, hi, hz0, hz1, hz2⟩ := info_parts infoU8
  have hL : (l.map bv).length ≤ 100000000000 := by rw [List.length_map]; exact hlen
  have hm : (l ++ ls s).map bv = l.map bv ++ Lib.strCells s := by rw [strCells_bv]; simp
  have hT := chk_k B b l w h
  unfold Bld
  rw [hm]
  clear hm hlen h
  generalize l.map bv = xs at *
  go_enter Try.func25, Try.ntmps25
  go_wp2_with fail
  refine hT.mono ?_
  rintro e w1 ⟨rfl, ⟨hB, v, hbk, hown, hne⟩, hb1, hk1⟩
  clear hT
  have hBw1 : B ≤ w1.heap.size := Nat.le_trans hBw hb1.size
  have hlt : b < w1.heap.size := (Array.getElem?_eq_some_iff.1 hbk).1
  have c1 : w1.cell? ⟨b, 1, none⟩ = some v := by rw [Lib.cell_of_heap hbk]; rfl
  go_wp2_with (at_builtin; refine Lib.wpList_append_own_string _ rfl _ _ 50 9 rfl B 5 i0 tyBs tyStr hi hz0 hz1 hz2 _ _ _ (by exact rfl) hown s (by exact rfl) ?c3 ?c4 ?c5 ?_)
  case c3 => unfold maxLen; omega
  case c4 => omega
  case c5 => omega
  intro v' w2 hown' hgrow _
  have hk2 : KeptB b w w2 := hk1.trans (KeptB.app hown hgrow)
  have hb2 : w2.heap[b]? = some (.cells #[.pointer (some ⟨b, 0, none⟩), v] 52 (0, 0)) := by
    rw [hgrow.block b hlt (fun e => hne e.symm)]
    exact hbk
  have d1 : w2.cell? ⟨b, 1, none⟩ = some v := by rw [Lib.cell_of_heap hb2]; rfl
  have f1 : w2.frozen? ⟨b, 1, none⟩ = false := Lib.frozen_of_heap hb2 1
  obtain ⟨ao, n', cap, rfl⟩ : ∃ ao n' cap, v' = .slice ao n' cap := by
    rcases hown'.2 with ⟨hv, _⟩ | ⟨g, cap, cur, hv, _⟩
    · exact ⟨_, _, _, hv⟩
    · exact ⟨_, _, _, hv⟩
  go_wp2
  go_ret2
  refine ⟨rfl, .inr ?_, ?_, hk2.trans (KeptB.set _ _ _ _)⟩
  · exact Lib.BuilderAt.put (T := 52) (e := 5) hB hb2 (bs' := xs ++ Lib.strCells s) (by simpa [Lib.strCells_length] using hown') (by decide)
  · exact (hb1.grown hgrow hBw1 (fun k hk => (hown.lt k hk).1)).setCell (p := ⟨b, 1, none⟩) hB _

set_option maxHeartbeats 1000000 in
theorem bl_any (B b : Nat) (l : List UInt8) (w : World) (h : Bld B b l w) :
    Calls Try.prog 28 #[.pointer (some ⟨b, 0, none⟩)] w fun e w' => e = .returned (.int .i64 (l.length : Int)) ∧ w = w' := by
  have key : ∃ A c, w.cell? ⟨b, 1, none⟩ = some (.slice A l.length c) := by
    have hk : ∀ p, Lib.BuilderAt 52 5 B b p (l.map bv) w → ∃ A c, w.cell? ⟨b, 1, none⟩ = some (.slice A l.length c) := by
      rintro p ⟨hB, v, hv, hown, hne⟩
      rw [Lib.cell_of_heap hv]
      rcases hown.2 with ⟨rfl, h0⟩ | ⟨g, cap, cur, rfl, _⟩
      · rw [List.length_map] at h0
        exact ⟨none, 0, by simp [h0]⟩
      · exact ⟨some ⟨g, 0, none⟩, cap, by simp⟩
    exact h.elim (hk _) (hk _)
  obtain ⟨A, c, hc⟩ := key
  clear h
  go_enter Try.func28, Try.ntmps28
  go_wp2
  go_ret
  exact ⟨rfl, rfl⟩

end Go.Proofs.Ytbpgkdhdooaigaa
