/-
  The fixed example of the statements of layer 6 (awake) holds.
-/
import Derived.Test.YtbknpfngboioeaaXt4
import Derived.Lib.SlBytesConst
namespace Go.Proofs.Ytbknpfngboioeaa
open Go.RowKit

def aw6 : List UInt8 := [48, 49, 50, 51, 52, 53, 54, 55, 56, 57]
def aw6S : Dsk := ((Dsk.fresh st0).xwrite 4 1 2 60 aw6).1
theorem aw6_w : ((Dsk.fresh st0).xwrite 4 1 2 60 aw6).2 = 0 := by kernel_rfl
theorem aw6_r : (aw6S.xread 4 1 2 58 14).2.1 = 0 := by kernel_rfl
theorem aw6_c : (aw6S.xread 4 1 2 58 14).2.2 = [0, 0] ++ aw6 ++ [0, 0] := by kernel_rfl
theorem aw6_d : (dirtyZ 4 (aw6S.xread 4 1 2 58 14).1.ca).length = 2 := by kernel_rfl
theorem aw6_v : xvalid 4 1 2 = true := by kernel_rfl
theorem aw6_s : xsize 2 = 128 := by kernel_rfl
theorem PD.low {w w1 w2 : World} {F : Nat → Prop} {a n : Nat} {S : Dsk} (h : PD w2 (fun b => F b ∨ newF w1 w2 b) a n S) (hF : ∀ b, F b → w.heap.size ≤ b) (h1 : w.heap.size ≤ w1.heap.size) : PD w2 (newF w w2) a n S :=
  h.coarse fun b hb => hb.elim (hF b) fun h => by have := h.1; omega
theorem str_part {w : World} {A : Option Addr} {c : Nat} {l : List UInt8} (h : Has w w.heap.size A 14 (([0, 0] ++ l ++ [0, 0]).map bv)) (hl : l.length = 10) : ∃ b o, A = some ⟨b, o, none⟩ ∧ (convert 32 9 (.slice (some ⟨b, o + 2, none⟩) 10 c)).run Try.prog w = .ok (.string (bs l)) w := by
  obtain ⟨b, o, rfl, _, _⟩ := h.2 (by omega)
  refine ⟨b, o, rfl, str_has w _ 10 c w.heap.size l ?_⟩
  have := h.part 2 10 (by omega)
  simpa [hl] using this
theorem hasF_at {w : World} {F : Nat → Prop} {B g o n : Nat} {xs : List Value} (h : Has w B (some ⟨g, o, none⟩) n xs) (hB : B ≤ w.heap.size) (hg : ¬ F g) : HasF F w (some ⟨g, o, none⟩) n xs :=
  ⟨h.1, fun h0 => by
    obtain ⟨b, off, e, hb, hc⟩ := h.2 h0
    injection e with e
    injection e with e1 e2 _
    subst e1 e2
    exact ⟨g, o, rfl, by omega, hg, hc⟩⟩
theorem aw6_bs : bs aw6 = ⟨#[48, 49, 50, 51, 52, 53, 54, 55, 56, 57]⟩ := by kernel_rfl

set_option maxRecDepth 20000 in
set_option maxHeartbeats 3200000 in
theorem awake6_any (w : World) : Calls Try.prog 27 #[] w (Yes w) := by
  have hnew : Calls Try.prog 9 #[.int .i64 4] w fun e w' => ∃ a, e = .returned (.tuple #[.pointer (some ⟨a, 0, none⟩), .int .i64 0]) ∧ w.heap.size ≤ a ∧ PD w' (newF w w') a 4 (Dsk.fresh st0) ∧ Below w.heap.size w w' := new_yes 4 w (by omega) (by omega)
  go_enter Try.func27, Try.ntmps27
  go_wp2_with fail
  refine hnew.mono ?_
  rintro e w1 ⟨a, rfl, ha, hpd1, hb1⟩
  clear hnew ha
  have hs1 := hb1.size
  have hbx : Below w1.heap.size w1 (w1.alloc (.cells #[.int .i64 1, .int .i64 2] 50)) := (Below.refl _ _).alloc (Nat.le_refl _) _
  have hlx := heap_alloc_last w1 (.cells #[.int .i64 1, .int .i64 2] 50)
  have hv := valid_any (hpd1.below hbx) 1 2 (by omega)
  rw [aw6_v] at hv
  have HX := Lib.hid (And.intro (hpd1.below hbx) (hb1.trans (hbx.mono hs1)))
  have hz1 : (w1.alloc (.cells #[.int .i64 1, .int .i64 2] 50)).cell? ⟨w1.heap.size, 0, none⟩ = some (.int .i64 1) := cell_of_row _ _ 0 _ _ _ hlx
  have hz2 : (w1.alloc (.cells #[.int .i64 1, .int .i64 2] 50)).cell? ⟨w1.heap.size, 1, none⟩ = some (.int .i64 2) := cell_of_row _ _ 1 _ _ _ hlx
  have hzF : Hid (¬ newF w w1 w1.heap.size) := fun h => Nat.lt_irrefl _ h.2
  have HLO : Hid (∀ b, newF w w1 b → w.heap.size ≤ b) := fun b h => h.1
  clear hpd1 hb1 hbx hlx
  go_wp2_with fail
  generalize w1.alloc (.cells #[.int .i64 1, .int .i64 2] 50) = w2 at *
  generalize w1.heap.size = z at *
  generalize newF w w1 = F at *
  refine hv.mono ?_
  rintro e w3 ⟨rfl, hb3⟩
  have k0 := (hb3.cell (p := ⟨z, 0, none⟩) (cell_lt hz1)).trans hz1
  have k1 := (hb3.cell (p := ⟨z, 1, none⟩) (cell_lt hz2)).trans hz2
  have H3 := Lib.hid (And.intro (HX.out.1.below hb3) (HX.out.2.trans (hb3.mono HX.out.2.size)))
  clear hv hb3 hz1 hz2
  go_wp2_with fail
  refine (size_any w3 1 2).mono ?_
  rintro e w4 ⟨rfl, hb4⟩
  rw [aw6_s]
  have q0 := (hb4.cell (p := ⟨z, 0, none⟩) (cell_lt k0)).trans k0
  have q1 := (hb4.cell (p := ⟨z, 1, none⟩) (cell_lt k1)).trans k1
  have H4 := Lib.hid (And.intro (H3.out.1.below hb4) (H3.out.2.trans (hb4.mono H3.out.2.size)))
  have hc1 := Lib.run_convert_bytes_const (P := Try.prog) w4 32 5 #[.int .u8 48, .int .u8 49, .int .u8 50, .int .u8 51, .int .u8 52, .int .u8 53, .int .u8 54, .int .u8 55, .int .u8 56, .int .u8 57] 10 10 tyBs tyU8
  clear k0 k1 hb4
  go_wp2_with fail
  have hb5 := (Below.refl w4.heap.size w4).alloc (Nat.le_refl _) (.cells #[.int .u8 48, .int .u8 49, .int .u8 50, .int .u8 51, .int .u8 52, .int .u8 53, .int .u8 54, .int .u8 55, .int .u8 56, .int .u8 57] 5 (10, 11))
  have hA5 := hasF_at (F := F) (Has.laid w4 5 _ (10, 11) 10 (aw6.map bv) (by rfl) rfl) (by simp) (fun hb => Nat.lt_irrefl _ (H4.out.1.lt _ hb))
  refine (xwrite_any (H4.out.1.below hb5) 1 2 60 _ 10 10 aw6 (by omega) (by omega) (by omega) (by omega) hA5).mono ?_
  rintro e w6 ⟨rfl, hp6, hf6⟩
  rw [aw6_w]
  clear hc1
  have j0 := (hf6.cell (p := ⟨z, 0, none⟩) (by simp; exact Nat.lt_succ_of_lt (cell_lt q0)) hzF).trans ((hb5.cell (p := ⟨z, 0, none⟩) (cell_lt q0)).trans q0)
  have j1 := (hf6.cell (p := ⟨z, 1, none⟩) (by simp; exact Nat.lt_succ_of_lt (cell_lt q1)) hzF).trans ((hb5.cell (p := ⟨z, 1, none⟩) (cell_lt q1)).trans q1)
  have hs4 := H4.out.2.size
  have hb6 : Below w.heap.size w w6 := (H4.out.2.trans (hb5.mono hs4)).trans (hf6.below HLO.out (by simp; omega))
  obtain ⟨G, hpd6, hlo6⟩ : ∃ G : Nat → Prop, PD w6 G a 4 aw6S ∧ ∀ b, G b → w.heap.size ≤ b := ⟨_, hp6, fun b hb => hb.elim (HLO.out b) fun h => by have := h.1; simp at this; omega⟩
  have HLO6 := Lib.hid hlo6
  have H6 := Lib.hid (And.intro hpd6 hb6)
  clear hp6 hf6 hb5 hA5 q0 q1 hpd6 hb6 hs4 hlo6
  go_wp2_with fail
  refine (xread_any H6.out.1 1 2 58 14 (by omega) (by omega) (by omega)).mono ?_
  rintro e w7 ⟨v, rfl, ⟨A7, m7, c7, rfl, _, hmc, hh⟩, hp7, hf7⟩
  rw [aw6_r]
  rw [aw6_c] at hh
  have hH := (hh (fun _ => False) (fun _ h => h.elim)).has
  obtain rfl : m7 = 14 := by have := hH.1; simp [aw6] at this; omega
  obtain ⟨b7, o7, rfl, hstr⟩ := str_part (c := c7 - 2) hH rfl
  rw [aw6_bs] at hstr
  have hc2 : ¬ c7 = 2 := by omega
  have hc12 : (12 : Int) ≤ (c7 : Int) := by omega
  have H7 := Lib.hid (And.intro hp7 (H6.out.2.trans (hf7.below HLO6.out H6.out.2.size)))
  clear hh hH hp7 hf7 j0 j1
  go_wp2_with fail
  refine (dirty_any H7.out.1).mono ?_
  rintro e w8 ⟨v8, rfl, ho8, hb8⟩
  rw [aw6_d] at ho8
  obtain ⟨A8, c8, rfl, _, _⟩ := Has.of_own ho8
  have H8 := Lib.hid (H7.out.2.trans (hb8.mono H7.out.2.size))
  clear ho8 hb8
  go_wp2_with fail
  go_ret
  exact ⟨ret_bool (by simp), H8.out⟩

end Go.Proofs.Ytbknpfngboioeaa
