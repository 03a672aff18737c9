/-
  awake of layer 5.
-/
import Derived.Test.YtbknpfngboioeaaDkF
namespace Go.Proofs.Ytbknpfngboioeaa
open Go.RowKit

theorem pairs_row {F : Nat → Prop} {w : World} {b : Nat} {x y : Int} {t : TypeId} (h : w.heap[b]? = some (.cells #[.int .i64 x, .int .i64 y] t (0, 0))) (hn : ¬ F b) (hx : -9223372036854775808 ≤ x ∧ x ≤ 9223372036854775807) : PairsF F w (some ⟨b, 0, none⟩) 1 [(x, y)] :=
  ⟨rfl, fun p hp => by simp at hp; subst hp; exact hx, fun _ => ⟨b, 0, rfl, lt_of_some h, hn, fun j hj => by
    have : j = 0 := by simpa using hj
    subst this
    exact ⟨cell_of_row w b 0 _ _ _ h, cell_of_row w b 1 _ _ _ h⟩⟩⟩
def aw1 : Dsk := (Dsk.fresh st0).tick.put 0 (block 1)
def aw2 : Dsk := aw1.tick.flush
def aw3 : Dsk := aw2.tick.put 0 (block 2)
def aw4 : Dsk := aw3.restarted [(0, 10)]
def aw5 : Dsk := aw4.tick.armed [(0, 1)]
theorem aw1_calm : Calm aw1 := ⟨rfl, rfl⟩
theorem aw2_calm : Calm aw2 := ⟨rfl, rfl⟩
theorem aw3_calm : Calm aw3 := ⟨rfl, rfl⟩
theorem aw4_calm : Calm aw4 := ⟨rfl, rfl⟩
theorem aw4_sec : aw4.sec 0 = List.replicate 10 2 ++ List.replicate 54 1 := by kernel_rfl
theorem aw5_err : aw5.err true = 9 := by kernel_rfl
theorem aw_ok : armOk [(0, 1)] = true := by kernel_rfl

theorem PD.coarse {w0 w' : World} {F : Nat → Prop} {a n : Nat} {S : Dsk} (h : PD w' F a n S) (hF : ∀ b, F b → w0.heap.size ≤ b) : PD w' (newF w0 w') a n S := h.more (fun b hb => ⟨hF b hb, h.lt b hb⟩) fun b hb => hb.2
theorem sectors2 {w : World} {F : Nat → Prop} {a : Nat} {S : Dsk} (h : PD w F a 2 S) : Calls Try.prog 46 #[.pointer (some ⟨a, 0, none⟩)] w fun e w' => e = .returned (.int .i64 2) ∧ w = w' := sectors_any h
theorem block1 (w : World) : Calls Try.prog 47 #[.int .u8 1] w fun e w' => ∃ g c, e = .returned (.slice (some ⟨g, 0, none⟩) 64 c) ∧ w.heap.size ≤ g ∧ Own8 w' g c 64 (block 1) ∧ Below w.heap.size w w' := block_any 1 w
theorem block2 (w : World) : Calls Try.prog 47 #[.int .u8 2] w fun e w' => ∃ g c, e = .returned (.slice (some ⟨g, 0, none⟩) 64 c) ∧ w.heap.size ≤ g ∧ Own8 w' g c 64 (block 2) ∧ Below w.heap.size w w' := block_any 2 w
theorem write0 {w : World} {F : Nat → Prop} {a : Nat} {S : Dsk} (h : PD w F a 2 S) (hc : Calm S) (g cap : Nat) (xs : List UInt8) (hA : HasF F w (some ⟨g, 0, none⟩) 64 (xs.map bv)) :
    Calls Try.prog 14 #[.pointer (some ⟨a, 0, none⟩), .int .i64 0, .slice (some ⟨g, 0, none⟩) 64 cap] w fun e w' => e = .returned (.int .i64 0) ∧ PD w' (fun k => F k ∨ newF w w' k) a 2 (S.tick.put 0 xs) ∧ Frm F w w' := write_calm h hc 0 (by omega) _ cap xs hA
theorem read0 {w : World} {F : Nat → Prop} {a : Nat} {S : Dsk} (h : PD w F a 2 S) (hc : Calm S) :
    Calls Try.prog 11 #[.pointer (some ⟨a, 0, none⟩), .int .i64 0] w fun e w' => PD w' F a 2 S.tick ∧ Frm F w w' ∧
      ∃ g, e = .returned (.tuple #[.slice (some ⟨g, 0, none⟩) 64 64, .int .i64 0]) ∧ w.heap.size ≤ g ∧ w'.heap[g]? = some (.cells ((S.sec 0).map bv).toArray 5 (0, 0)) := read_calm h hc 0 (by omega)

set_option maxRecDepth 20000 in
set_option maxHeartbeats 3200000 in
theorem awake_any (w : World) : Calls Try.prog 8 #[] w (Yes w) := by
  have hnew : Calls Try.prog 9 #[.int .i64 2] w fun e w' => ∃ a, e = .returned (.tuple #[.pointer (some ⟨a, 0, none⟩), .int .i64 0]) ∧ w.heap.size ≤ a ∧ PD w' (newF w w') a 2 (Dsk.fresh st0) ∧ Below w.heap.size w w' := new_yes 2 w (by omega) (by omega)
  go_enter Try.func8, Try.ntmps8
  go_wp2_with fail
  refine hnew.mono ?_
  rintro e w1 ⟨a, rfl, ha, hpd1, hb1⟩
  go_wp2_with fail
  refine (sectors2 hpd1).mono ?_
  rintro e w' ⟨rfl, rfl⟩
  go_wp2_with fail
  refine (block1 w1).mono ?_
  rintro e wb1 ⟨g1, cp1, rfl, hg1, hown1, hbb1⟩
  have hpd2 := hpd1.below hbb1
  have hA1 := own_hasF hown1 (fun h => Nat.lt_irrefl _ (Nat.lt_of_lt_of_le (hpd1.lt _ h) hg1))
  go_wp2_with fail
  refine (write0 hpd2 (calm_fresh st0) g1 cp1 (block 1) hA1).mono ?_
  rintro e w3 ⟨rfl, hpd3, hf3⟩
  have hs1 := hb1.size
  have hs2 := hbb1.size
  have hs3 := hf3.size
  replace hpd3 := hpd3.coarse (w0 := w) fun b hb => hb.elim (fun h => h.1) fun h => by have := h.1; omega
  go_wp2_with fail
  refine (sync_calm hpd3 aw1_calm).mono ?_
  rintro e w4 ⟨rfl, hpd4, hf4⟩
  go_wp2_with fail
  refine (block2 w4).mono ?_
  rintro e wb2 ⟨g2, cp2, rfl, hg2, hown2, hbb2⟩
  have hpd4' := hpd4.below hbb2
  have hA2 := own_hasF hown2 (fun h => Nat.lt_irrefl _ (Nat.lt_of_lt_of_le (hpd4.lt _ h) hg2))
  go_wp2_with fail
  refine (write0 hpd4' aw2_calm g2 cp2 (block 2) hA2).mono ?_
  rintro e w5 ⟨rfl, hpd5, hf5⟩
  have hs4 := hf4.size
  have hs5 := hbb2.size
  have hs6 := hf5.size
  replace hpd5 := hpd5.coarse (w0 := w) fun b hb => hb.elim (fun h => h.1) fun h => by have := h.1; omega
  have hb5 : Below w.heap.size w w5 := ((((hb1.trans (hbb1.mono hs1)).trans (hf3.below (fun b hb => hb.1) (by omega))).trans (hf4.below (fun b hb => hb.1) (by omega))).trans (hbb2.mono (by omega))).trans (hf5.below (fun b hb => hb.1) (by omega))
  clear hb1 hbb1 hf3 hf4 hbb2 hf5 hpd1 hpd2 hpd3 hpd4 hpd4' hA1 hA2 hown1 hown2 hnew hg1 hg2
  have hs7 := hb5.size
  clear hs1 hs2 hs3 hs4 hs5 hs6
  go_wp2_with fail
  have hpd6 := hpd5.below ((Below.refl _ w5).alloc (Nat.le_refl _) (.cells #[.int .i64 0, .int .i64 10] 76))
  have hP6 := pairs_row (F := newF w w5) (heap_alloc_last w5 (.cells #[.int .i64 0, .int .i64 10] 76)) (fun h => Nat.lt_irrefl _ h.2) (by omega)
  refine (restart_any hpd6 _ 1 1 _ hP6 (by omega)).mono ?_
  rintro e w7 ⟨rfl, hpd7, hf7⟩
  replace hpd7 : PD w7 (newF w w5) a 2 aw4 := hpd7
  go_wp2_with fail
  refine (read0 hpd7 aw4_calm).mono ?_
  rintro e w8 ⟨hpd8, hf8, g8, rfl, hg8, hrow8⟩
  rw [aw4_sec] at hrow8
  have k9 : w8.cell? ⟨g8, 9, none⟩ = some (.int .u8 2) := cell_of_row w8 g8 9 _ _ _ hrow8
  have k10 : w8.cell? ⟨g8, 10, none⟩ = some (.int .u8 1) := cell_of_row w8 g8 10 _ _ _ hrow8
  have HR8 := Lib.hid hrow8
  clear hrow8
  go_wp2_with fail
  have hs8 := hf7.size
  have hs9 := hf8.size
  have hsa : (w5.alloc (.cells #[.int .i64 0, .int .i64 10] 76)).heap.size = w5.heap.size + 1 := by simp
  have hb8 : Below w.heap.size w w8 := ((hb5.alloc hs7 _).trans (hf7.below (fun b hb => hb.1) (by omega))).trans (hf8.below (fun b hb => hb.1) (by omega))
  have hpd9 := hpd8.below ((Below.refl _ w8).alloc (Nat.le_refl _) (.cells #[.int .i64 0, .int .i64 1] 70))
  have hP9 := pairs_row (F := newF w w5) (heap_alloc_last w8 (.cells #[.int .i64 0, .int .i64 1] 70)) (fun h => by have := h.2; omega) (by omega)
  refine (arm_any hpd9 _ 1 1 _ hP9 (by omega) (fun h => by cases h)).mono ?_
  rintro e w10 ⟨rfl, hpd10, hf10⟩
  rw [aw_ok] at hpd10 ⊢
  simp only [if_true] at hpd10 ⊢
  have he : aw5.err true ≠ 0 := by rw [aw5_err]; omega
  replace hpd10 : PD w10 _ a 2 aw5 := hpd10
  have hsync := sync_err hpd10 he
  rw [aw5_err] at hsync
  have hs10 := hf10.size
  have hsb : (w8.alloc (.cells #[.int .i64 0, .int .i64 1] 70)).heap.size = w8.heap.size + 1 := by simp
  have hb10 : Below w.heap.size w w10 := (hb8.alloc hb8.size _).trans (hf10.below (fun b hb => hb.1) (by omega))
  clear hpd5 hb5 hpd6 hP6 hpd7 hf7 hpd8 hf8 k9 k10 HR8 hb8 hpd9 hP9 hpd10
  go_wp2_with fail
  refine hsync.mono ?_
  rintro e w11 ⟨rfl, _, hf11⟩
  go_wp2_with fail
  go_ret
  exact ⟨rfl, hb10.trans (hf11.below (fun b hb => hb.elim (fun h => h.1) fun h => by have := h.1; omega) hb10.size)⟩

end Go.Proofs.Ytbknpfngboioeaa
