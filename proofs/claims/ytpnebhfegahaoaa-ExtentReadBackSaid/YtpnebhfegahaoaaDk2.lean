/-
  Contracts of copied, possible, diskOf, New, Load, Image.
-/
import Derived.Test.YtpnebhfegahaoaaDk1
namespace Go.Proofs.Ytpnebhfegahaoaa
open Go.RowKit

theorem szU8 : (Try.prog.info? 5).map (·.size) = some 1 := by kernel_rfl
def possB (s : Int) : Bool := decide (1 ≤ s) && decide (s ≤ 4096)
set_option maxHeartbeats 400000 in
theorem possible_any (s : Int) (w : World) : Calls Try.prog 46 #[.int .i64 s] w fun e w' => e = .returned (.bool (possB s)) ∧ w = w' := by
  by_cases h : 1 ≤ s
  · have hp : possB s = decide (s ≤ 4096) := by simp [possB, h]
    have hp' := Lib.hid hp
    clear hp
    go_enter Try.func46, Try.ntmps46
    go_wp2
    go_ret
    exact ⟨ret_bool (by rw [hp'.out]), rfl⟩
  · have hp : possB s = false := by simp [possB, h]
    have hp' := Lib.hid hp
    clear hp
    go_enter Try.func46, Try.ntmps46
    go_wp2
    go_ret
    exact ⟨ret_bool (by rw [hp'.out]), rfl⟩

theorem has_src {w : World} {B n : Nat} {A : Option Addr} {xs : List Value} (h : Has w B A n xs) (h0 : 0 < xs.length) : ∃ ad, A = some ad ∧ ∀ j v, xs[j]? = some v → w.cell? (ad.add j) = some v := by
  obtain ⟨b, off, e, hb, hc⟩ := h.2 (by rw [← h.1]; exact h0)
  refine ⟨_, e, fun j v hj => ?_⟩
  have hjl := (List.getElem?_eq_some_iff.1 hj).1
  have hadd : (⟨b, off, none⟩ : Addr).add j = ⟨b, off + j, none⟩ := by unfold Addr.add; split <;> simp_all
  rw [hadd, hc j hjl, ← hj, List.getElem?_eq_getElem hjl]
theorem splice_whole (z l : List Value) (h : z.length = l.length) : splice z 0 l = l := by
  simp [splice, List.drop_of_length_le (by omega : z.length ≤ 0 + l.length), ← h]
set_option maxRecDepth 20000 in
set_option maxHeartbeats 400000 in
theorem copied_any (A : Option Addr) (len cap B : Nat) (l : List UInt8) (w : World) (hA : Has w B A len (l.map bv)) (hB : B ≤ w.heap.size) (hlen : len ≤ 1000000) :
    Calls Try.prog 66 #[.slice A len cap] w fun e w' => ∃ g, e = .returned (.slice (some ⟨g, 0, none⟩) len len) ∧ w.heap.size ≤ g ∧ w'.heap[g]? = some (.cells (l.map bv).toArray 5 (0, 0)) ∧ Below w.heap.size w w' := by
  have hl : Hid (l.length = len) := by show _ = _; simpa using hA.1
  have hlen' : Hid (len ≤ 1000000) := hlen
  clear hlen
  go_enter Try.func66, Try.ntmps66
  go_wp2_with (first
    | (at_make; refine wpList_make_bytes _ rfl _ _ (by exact rfl) len (by exact rfl) (by exact rfl) (by have := hlen'.out; omega) ?_; intro w1 g hg0 hg1 hrow hgr; have hb1 := (Below.refl w.heap.size w).grown hgr (Nat.le_refl _) (fun k e => by cases e))
    | (refine wpList_copy_splice rfl _ _ _ _ (by exact rfl) 5 tyBs szU8 _ _ _ _ _ _ (by exact rfl) (by exact rfl) g 0 (zeros len).toList 5 (by simpa [Row] using hrow) (l.map bv) (by rw [List.length_map, hl.out]; exact (Nat.min_self _).symm) (fun h0 => ⟨by exact rfl, has_src (hA.below' hb1 hB) h0⟩) (by simp [zeros, hl.out]) (one_bytes l) w.heap.size w hb1 hg0 ?_; intro w2 hg2 hb2))
  go_ret
  refine ⟨g, rfl, hg0, ?_, hb2⟩
  have := hg2.out
  rwa [splice_whole _ _ (by simp [zeros, hl.out])] at this

end Go.Proofs.Ytpnebhfegahaoaa
