/-
  Contracts of diskOf, New, Load, Image.
-/
import Derived.Test.YtpnebhfegahaoaaDk2
namespace Go.Proofs.Ytpnebhfegahaoaa
open Go.RowKit

/-- A new disk in memory. -/
theorem fresh_disk {w w' : World} {sb a n : Nat} {st : Nat → List UInt8} (hok : (Dsk.fresh st).Ok n) (hb : Below w.heap.size w w') (hs : w.heap[sb]? = some (.cells ((flat n st).map bv).toArray 5 (0, 0)))
    (hm : w'.heap[w.heap.size]? = some (.map #[] 0)) (ha : w'.heap[a]? = some (.cells #[.slice (some ⟨sb, 0, none⟩) (64 * n) (64 * n), .map (some w.heap.size), .slice none 0 0, .int .i64 0, .bool false] 86 (0, 0))) (hle : w.heap.size ≤ a) :
    PD w' (fun k => k = sb ∨ (w.heap.size ≤ k ∧ k < w'.heap.size)) a n (Dsk.fresh st) := by
  have hsb := lt_of_some hs
  refine ⟨sb, w.heap.size, none, 0, 0, .map [], hok, ha, (hb.block sb hsb).trans hs, ?_, ?_, ?_, ⟨rfl, fun h => absurd h (by omega)⟩, by omega, .inr ⟨hle, lt_of_some ha⟩, .inl rfl, .inr ⟨Nat.le_refl _, lt_of_some hm⟩, ?_⟩
  · exact ⟨#[], 0, hm, by
      have := World.ownsMap_made w Try.prog 3 heldR
      obtain ⟨es, clock, h1, h2, h3, h4⟩ := this
      rw [heap_alloc_last] at h1
      cases h1
      exact h2, by simp, by simp⟩
  · intro x
    constructor
    · intro h; simp [Maps.has] at h
    · rintro ⟨i, _, h⟩; simp [Dsk.fresh] at h
  · intro i xs h; simp [Dsk.fresh] at h
  · rintro k (rfl | hk)
    · have := hb.size; omega
    · exact hk.2

set_option maxHeartbeats 400000 in
theorem diskOf_any (w : World) (sb n L : Nat) (st : Nat → List UInt8) (hok : (Dsk.fresh st).Ok n) (hL : Hid (L = 64 * n)) (hs : w.heap[sb]? = some (.cells ((flat n st).map bv).toArray 5 (0, 0))) :
    Calls Try.prog 47 #[.slice (some ⟨sb, 0, none⟩) L L] w fun e w' => ∃ a, e = .returned (.pointer (some ⟨a, 0, none⟩)) ∧ w.heap.size ≤ a ∧ PD w' (fun k => k = sb ∨ (w.heap.size ≤ k ∧ k < w'.heap.size)) a n (Dsk.fresh st) ∧ Below w.heap.size w w' := by
  have hmm := @run_makeMap Try.prog
  go_enter Try.func47, Try.ntmps47
  go_wp2
  go_ret
  refine ⟨w.heap.size + 1, rfl, by omega, ?_, ((Below.refl _ _).alloc (Nat.le_refl _) _).alloc (by simp) _⟩
  have hb := ((Below.refl w.heap.size w).alloc (Nat.le_refl _) (.map #[] 0)).alloc (by simp) (.cells #[.slice (some ⟨sb, 0, none⟩) L L, .map (some w.heap.size), .slice none 0 0, .int .i64 0, .bool false] 86)
  refine fresh_disk hok hb hs ?_ ?_ (by omega)
  · rw [Below.heap_alloc _ _ _ (by simp), heap_alloc_last]
  · have := heap_alloc_last (w.alloc (.map #[] 0)) (.cells #[.slice (some ⟨sb, 0, none⟩) L L, .map (some w.heap.size), .slice none 0 0, .int .i64 0, .bool false] 86)
    rw [show (w.alloc (Obj.map #[] 0)).heap.size = w.heap.size + 1 by simp] at this
    rw [this, hL.out]

def st0 : Nat → List UInt8 := fun _ => List.replicate 64 0
theorem st0_len (n : Nat) : ∀ i, i < n → (st0 i).length = 64 := fun _ _ => by simp [st0]
theorem flat_zeros (n : Nat) : flat n st0 = List.replicate (64 * n) 0 := by
  induction n with
  | zero => rfl
  | succ n ih => rw [flat_succ, ih, st0, List.replicate_append_replicate]; rfl
/-- The blocks that a call has made. -/
def newF (w w' : World) : Nat → Prop := fun k => w.heap.size ≤ k ∧ k < w'.heap.size
set_option maxHeartbeats 400000 in
theorem new_no (s : Int) (w : World) (hs : possB s = false) : Calls Try.prog 9 #[.int .i64 s] w fun e w' => e = .returned (.tuple #[.pointer none, .int .i64 2]) ∧ w = w' := by
  go_enter Try.func9, Try.ntmps9
  go_wp2_with (go_at_call 46; refine (possible_any _ _).mono ?_; rintro e w' ⟨rfl, rfl⟩)
  go_ret2
  exact ⟨rfl, rfl⟩
set_option maxHeartbeats 400000 in
set_option maxRecDepth 20000 in
theorem new_yes (n : Nat) (w : World) (h1 : 1 ≤ n) (h4 : n ≤ 4096) : Calls Try.prog 9 #[.int .i64 n] w fun e w' => ∃ a, e = .returned (.tuple #[.pointer (some ⟨a, 0, none⟩), .int .i64 0]) ∧ w.heap.size ≤ a ∧ PD w' (newF w w') a n (Dsk.fresh st0) ∧ Below w.heap.size w w' := by
  have hs : possB (n : Int) = true := by simp [possB]; omega
  have hok := Dsk.Ok.fresh h1 h4 (st0_len n)
  obtain ⟨L, hL⟩ : ∃ L, L = 64 * n := ⟨_, rfl⟩
  have hw : wrap64 ((n : Int) * 64) = (L : Int) := by unfold wrap64; omega
  have hw' : (n : Int) * 64 = (L : Int) := by omega
  have hL4 : Hid (L ≤ 281474976710656) := by show _ ≤ _; omega
  have hL' := Lib.hid hL
  clear hL
  go_enter Try.func9, Try.ntmps9
  go_wp2_with (first
    | (go_at_call 46; refine (possible_any _ _).mono ?_; rintro e w' ⟨rfl, rfl⟩)
    | (at_make; refine wpList_make_bytes _ rfl _ _ (by exact rfl) L (by exact rfl) (by exact rfl) (by exact hL4.out) ?_; intro w1 g hg0 hg1 hrow hgr; have hb1 := (Below.refl w.heap.size w).grown hgr (Nat.le_refl _) (fun k e => by cases e); have hrow' : w1.heap[g]? = some (.cells ((flat n st0).map bv).toArray 5 (0, 0)) := (by rw [flat_zeros, ← hL'.out]; simpa [Row, Proofs.Ytpnebhfegahaoaa.zeros, bv] using hrow))
    | (go_at_call 47; refine (diskOf_any w1 g n L st0 hok hL' hrow').mono ?_; rintro e w2 ⟨a, rfl, ha, hpd, hb2⟩))
  go_ret2
  have := hb1.size
  have := hb2.size
  refine ⟨a, rfl, by omega, hpd.more ?_ fun b hb => hb.2, hb1.trans (hb2.mono hb1.size)⟩
  rintro b (rfl | hb)
  · exact ⟨hg0, by omega⟩
  · exact ⟨by omega, hb.2⟩

/-- The sectors of an image. -/
def stOf (l : List UInt8) : Nat → List UInt8 := fun i => (l.drop (64 * i)).take 64
theorem stOf_len {l : List UInt8} {n : Nat} (h : l.length = 64 * n) : ∀ i, i < n → (stOf l i).length = 64 := fun i hi => by simp [stOf]; omega
theorem flat_stOf_take (l : List UInt8) (n : Nat) (h : 64 * n ≤ l.length) : flat n (stOf l) = l.take (64 * n) := by
  induction n with
  | zero => simp [flat]
  | succ n ih => rw [flat_succ, ih (by omega), stOf, show 64 * (n + 1) = 64 * n + 64 by omega, List.take_add]
theorem flat_stOf {l : List UInt8} {n : Nat} (h : l.length = 64 * n) : flat n (stOf l) = l := by
  rw [flat_stOf_take l n (by omega), ← h, List.take_length]
theorem stOf_flat {n : Nat} {st : Nat → List UInt8} (h : ∀ i, i < n → (st i).length = 64) {i : Nat} (hi : i < n) : stOf (flat n st) i = st i := flat_sub h hi

set_option maxHeartbeats 400000 in
theorem load_no (A : Option Addr) (len cap : Nat) (w : World) (hlen : len ≤ 1000000) (hs : len % 64 ≠ 0 ∨ possB ((len / 64 : Nat) : Int) = false) :
    Calls Try.prog 34 #[.slice A len cap] w fun e w' => e = .returned (.tuple #[.pointer none, .int .i64 2]) ∧ w = w' := by
  obtain ⟨q, hq⟩ : ∃ q : Nat, q = len / 64 := ⟨_, rfl⟩
  obtain ⟨r, hr⟩ : ∃ r : Nat, r = len % 64 := ⟨_, rfl⟩
  rw [← hq, ← hr] at hs
  have h1 : Int.tdiv (len : Int) 64 = (q : Int) := by rw [Int.tdiv_eq_ediv_of_nonneg (by omega)]; omega
  have h2 : Int.tmod (len : Int) 64 = (r : Int) := by rw [Int.tmod_eq_emod_of_nonneg (by omega)]; omega
  have h3 : wrap64 (q : Int) = q := by unfold wrap64; omega
  clear hq hr hlen
  by_cases hr0 : (r : Int) = 0
  · have hp : possB (q : Int) = false := by rcases hs with h | h; exact absurd (by omega) h; exact h
    clear hs
    go_enter Try.func34, Try.ntmps34
    go_wp2_with (go_at_call 46; refine (possible_any _ _).mono ?_; rintro e w' ⟨rfl, rfl⟩)
    go_ret2
    exact ⟨rfl, rfl⟩
  · clear hs
    go_enter Try.func34, Try.ntmps34
    go_wp2_with (go_at_call 46; refine (possible_any _ _).mono ?_; rintro e w' ⟨rfl, rfl⟩)
    go_ret2
    exact ⟨rfl, rfl⟩
set_option maxHeartbeats 400000 in
theorem load_yes (A : Option Addr) (len cap B n : Nat) (l : List UInt8) (w : World) (hA : Has w B A len (l.map bv)) (hB : B ≤ w.heap.size) (hn : len = 64 * n) (h1 : 1 ≤ n) (h4 : n ≤ 4096) :
    Calls Try.prog 34 #[.slice A len cap] w fun e w' => ∃ a, e = .returned (.tuple #[.pointer (some ⟨a, 0, none⟩), .int .i64 0]) ∧ w.heap.size ≤ a ∧ PD w' (newF w w') a n (Dsk.fresh (stOf l)) ∧ Below w.heap.size w w' := by
  have hs : possB (n : Int) = true := by simp [possB]; omega
  have hl : Hid (l.length = 64 * n) := by show _ = _; have := hA.1; simp at this; omega
  have hok := Dsk.Ok.fresh h1 h4 (stOf_len hl.out)
  have e1 : Int.tdiv (len : Int) 64 = (n : Int) := by rw [Int.tdiv_eq_ediv_of_nonneg (by omega)]; omega
  have e2 : Int.tmod (len : Int) 64 = 0 := by rw [Int.tmod_eq_emod_of_nonneg (by omega)]; omega
  have e3 : wrap64 (n : Int) = n := by unfold wrap64; omega
  have hlen : Hid (len ≤ 1000000) := by show _ ≤ _; omega
  have hL' : Hid (len = 64 * n) := hn
  clear hn
  go_enter Try.func34, Try.ntmps34
  go_wp2_with (first
    | (go_at_call 46; refine (possible_any _ _).mono ?_; rintro e w' ⟨rfl, rfl⟩)
    | (go_at_call 66; refine (copied_any A len cap B l w hA hB hlen.out).mono ?_; rintro e w1 ⟨g, rfl, hg0, hrow, hb1⟩; have hrow' : w1.heap[g]? = some (.cells ((flat n (stOf l)).map bv).toArray 5 (0, 0)) := (by rw [flat_stOf hl.out]; exact hrow))
    | (go_at_call 47; refine (diskOf_any w1 g n len (stOf l) hok hL' hrow').mono ?_; rintro e w2 ⟨a, rfl, ha, hpd, hb2⟩))
  go_ret2
  have := hb1.size
  have := hb2.size
  have := lt_of_some hrow
  refine ⟨a, rfl, by omega, hpd.more ?_ fun b hb => hb.2, hb1.trans (hb2.mono hb1.size)⟩
  rintro b (rfl | hb)
  · exact ⟨hg0, by omega⟩
  · exact ⟨by omega, hb.2⟩

set_option maxHeartbeats 400000 in
theorem image_nil (w : World) : Calls Try.prog 32 #[.pointer none] w fun e w' => e = .returned (.slice none 0 0) ∧ w = w' := by
  go_enter Try.func32, Try.ntmps32
  go_wp2
  go_ret
  exact ⟨rfl, rfl⟩
theorem has_of_row {w : World} {g : Nat} {l : List UInt8} {n : Nat} (h : w.heap[g]? = some (.cells (l.map bv).toArray 5 (0, 0))) (hn : l.length = n) : Has w w.heap.size (some ⟨g, 0, none⟩) n (l.map bv) :=
  ⟨by simpa using hn, fun _ => ⟨g, 0, rfl, lt_of_some h, fun j hj => by rw [cell_of_row w g (0 + j) _ _ _ h]; simp at hj ⊢; simp [List.getElem?_eq_getElem hj]⟩⟩
set_option maxHeartbeats 400000 in
theorem image_any {w : World} {F : Nat → Prop} {a n : Nat} {S : Dsk} (h : PD w F a n S) : Calls Try.prog 32 #[.pointer (some ⟨a, 0, none⟩)] w fun e w' =>
    ∃ g, e = .returned (.slice (some ⟨g, 0, none⟩) (64 * n) (64 * n)) ∧ w.heap.size ≤ g ∧ w'.heap[g]? = some (.cells ((flat n S.st).map bv).toArray 5 (0, 0)) ∧ Below w.heap.size w w' := by
  obtain ⟨sb, mb, A, m, c, D, h⟩ := h
  have c0 := h.c0
  have hA := has_of_row h.row (flat_length h.ok.st)
  have hn := h.ok.n4
  have hlen : Hid (64 * n ≤ 1000000) := by show _ ≤ _; omega
  clear h hn
  generalize 64 * n = L at *
  go_enter Try.func32, Try.ntmps32
  go_wp2_with (go_at_call 66; refine (copied_any _ L L _ _ w hA (Nat.le_refl _) hlen.out).mono ?_; rintro e w1 ⟨g, rfl, hg0, hrow, hb1⟩)
  go_ret
  exact ⟨g, rfl, hg0, hrow, hb1⟩

end Go.Proofs.Ytpnebhfegahaoaa
