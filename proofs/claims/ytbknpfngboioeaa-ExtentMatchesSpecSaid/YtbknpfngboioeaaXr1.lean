/-
  Contracts of the reference's Valid, Size and check of an extent.
-/
import Derived.Test.YtbknpfngboioeaaXt2
import Derived.Test.YtbknpfngboioeaaDrT
namespace Go.Proofs.Ytbknpfngboioeaa
open Go.RowKit

set_option maxHeartbeats 1600000 in
theorem rvalidx_any {w : World} {F : Nat → Prop} {a n : Nat} {S : Dsk} (h : RD w F a n S) (f c : Int) (hc : c ≤ 9223372036854775807) :
    Calls Try.prog 33 #[.pointer (some ⟨a, 0, none⟩), .agg #[.int .i64 f, .int .i64 c]] w fun e w' => e = .returned (.bool (xvalid n f c)) ∧ Below w.heap.size w w' := by
  have hn4 := h.ok.n4
  have HP : Hid (∀ q, RD ((w.alloc (.cells #[.int .i64 f, .int .i64 c] 50)).drewN q) F a n S) := fun q => h.below (box_below _ q)
  clear h
  by_cases h0 : 0 ≤ f
  · have b0 : decide ((0 : Int) ≤ f) = true := by simpa using h0
    by_cases h1 : 1 ≤ c
    · have b1 : decide ((1 : Int) ≤ c) = true := by simpa using h1
      by_cases h2 : c ≤ (n : Int)
      · have b2 : decide (c ≤ (n : Int)) = true := by simpa using h2
        obtain ⟨r, hr⟩ : ∃ r, r = decide (f ≤ (n : Int) - c) := ⟨_, rfl⟩
        have hv : Hid (xvalid n f c = r) := by show _ = _; rw [hr]; simp only [xvalid, b0, b1, Bool.true_and]; congr 1; apply propext; constructor <;> intro h <;> omega
        have hr' := hr.symm
        clear hr
        go_enter Try.func33, Try.ntmps33
        go_wp2
        go_quiet ((go_at_call 62; exact quiet_same (rsectors_any (HP.out _))))
        go_wp2
        go_ret
        exact ⟨ret_bool hv.out.symm, box_below _ _⟩
      · have b2 : decide (c ≤ (n : Int)) = false := by simpa using h2
        have hv : Hid (xvalid n f c = false) := by show _ = _; simp [xvalid]; omega
        go_enter Try.func33, Try.ntmps33
        go_wp2
        go_quiet ((go_at_call 62; exact quiet_same (rsectors_any (HP.out _))))
        go_wp2
        go_ret
        exact ⟨ret_bool hv.out.symm, box_below _ _⟩
    · have b1 : decide ((1 : Int) ≤ c) = false := by simpa using h1
      have hv : Hid (xvalid n f c = false) := by show _ = _; simp [xvalid, h1]
      clear h0 h1
      go_enter Try.func33, Try.ntmps33
      go_wp2
      go_quiet (fail)
      go_wp2
      go_ret
      exact ⟨ret_bool hv.out.symm, box_below _ _⟩
  · have b0 : decide ((0 : Int) ≤ f) = false := by simpa using h0
    have hv : Hid (xvalid n f c = false) := by show _ = _; simp [xvalid, h0]
    clear h0
    go_enter Try.func33, Try.ntmps33
    go_wp2
    go_quiet (fail)
    go_wp2
    go_ret
    exact ⟨ret_bool hv.out.symm, box_below _ _⟩

set_option maxHeartbeats 1600000 in
theorem rsizex_any (w : World) (f c : Int) : Calls Try.prog 35 #[.agg #[.int .i64 f, .int .i64 c]] w fun e w' => e = .returned (.int .i64 (xsize c)) ∧ Below w.heap.size w w' := by
  by_cases h0 : c < 0
  · have b0 : decide (c < 0) = true := by simpa using h0
    have hv : Hid (xsize c = 0) := by show _ = _; simp [xsize, h0]
    clear h0
    go_enter Try.func35, Try.ntmps35
    go_wp2
    go_ret
    exact ⟨ret_int hv.out.symm, (Below.refl _ _).alloc (Nat.le_refl _) _⟩
  · have b0 : decide (c < 0) = false := by simpa using h0
    by_cases h1 : 4096 < c
    · have b1 : decide ((4096 : Int) < c) = true := by simpa using h1
      have hv : Hid (xsize c = 0) := by show _ = _; simp [xsize, h1]
      clear h0 h1
      go_enter Try.func35, Try.ntmps35
      go_wp2
      go_ret
      exact ⟨ret_int hv.out.symm, (Below.refl _ _).alloc (Nat.le_refl _) _⟩
    · have b1 : decide ((4096 : Int) < c) = false := by simpa using h1
      have hw : wrap64 (c * 64) = c * 64 := by unfold wrap64; omega
      have hv : Hid (xsize c = c * 64) := by show _ = _; simp [xsize, h1, h0]
      have hw' := Lib.hid hw
      clear h0 h1
      go_enter Try.func35, Try.ntmps35
      go_wp2
      go_ret
      exact ⟨ret_int (by rw [hv.out]; first | exact hw'.out | rfl), (Below.refl _ _).alloc (Nat.le_refl _) _⟩

set_option maxHeartbeats 1600000 in
theorem rcheck_any {w : World} {F : Nat → Prop} {a n : Nat} {S : Dsk} (h : RD w F a n S) (f c off m : Int) (hcc : c ≤ 9223372036854775807) (hoff : off ≤ 9223372036854775807) (_ : m ≤ 9223372036854775807) :
    Calls Try.prog 66 #[.pointer (some ⟨a, 0, none⟩), .agg #[.int .i64 f, .int .i64 c], .int .i64 off, .int .i64 m] w fun e w' => e = .returned (.int .i64 (xerr n f c off m)) ∧ Below w.heap.size w w' := by
  have hb0 : Below w.heap.size w (w.alloc (.cells #[.int .i64 f, .int .i64 c] 50)) := (Below.refl _ _).alloc (Nat.le_refl _) _
  have hv := rvalidx_any (h.below hb0) f c hcc
  have hl := heap_alloc_last w (.cells #[.int .i64 f, .int .i64 c] 50)
  have hn4 := h.ok.n4
  have HB0 := Lib.hid hb0
  have HL := Lib.hid hl
  clear h hb0 hl
  cases hx : xvalid n f c with
  | false =>
    have he := Lib.hid (xerr_bad (off := off) (m := m) hx)
    rw [hx] at hv
    clear hx
    go_enter Try.func66, Try.ntmps66
    go_wp2_with (go_at_call 33; refine hv.mono ?_; rintro e w' ⟨rfl, hb⟩)
    go_ret
    exact ⟨ret_int he.out.symm, HB0.out.trans (hb.mono HB0.out.size)⟩
  | true =>
    rw [hx] at hv
    have hc : Hid (0 ≤ f ∧ 1 ≤ c ∧ f + c ≤ n) := by show _ ∧ _; simp [xvalid] at hx; omega
    by_cases h0 : off < 0
    · have b0 : decide (off < 0) = true := by simpa using h0
      have he : Hid (xerr n f c off m = 2) := by show _ = _; simp [xerr, hx, h0]
      clear hx h0
      go_enter Try.func66, Try.ntmps66
      go_wp2_with (go_at_call 33; refine hv.mono ?_; rintro e w' ⟨rfl, hb⟩)
      go_ret
      exact ⟨ret_int he.out.symm, HB0.out.trans (hb.mono HB0.out.size)⟩
    · have b0 : decide (off < 0) = false := by simpa using h0
      by_cases h1 : m < 0
      · have b1 : decide (m < 0) = true := by simpa using h1
        have he : Hid (xerr n f c off m = 2) := by show _ = _; simp [xerr, hx, h1]
        clear hx h0 h1
        go_enter Try.func66, Try.ntmps66
        go_wp2_with (go_at_call 33; refine hv.mono ?_; rintro e w' ⟨rfl, hb⟩)
        go_ret
        exact ⟨ret_int he.out.symm, HB0.out.trans (hb.mono HB0.out.size)⟩
      · have b1 : decide (m < 0) = false := by simpa using h1
        obtain ⟨Z, hZ⟩ : ∃ Z : Int, Z = c * 64 := ⟨_, rfl⟩
        have hsz : Hid (xsize c = Z) := by show _ = _; have := hc.out; simp [xsize]; omega
        have hZb : Z ≤ 262144 := by have := hc.out; omega
        have hZ0 : 0 ≤ Z := by have := hc.out; omega
        obtain ⟨r, hr⟩ : ∃ r, decide (Z < m) = r := ⟨_, rfl⟩
        obtain ⟨r2, hr2⟩ : ∃ r, decide (Z - m < off) = r := ⟨_, rfl⟩
        have he : Hid (xerr n f c off m = if r || r2 then 2 else 0) := by
          show _ = _
          rw [← hr, ← hr2]
          simp only [xerr, hx, Bool.true_eq_false, if_false]
          rw [← hZ]
          by_cases g : Z - off < m
          · rw [if_pos (by omega), if_pos (by simp; omega)]
          · rw [if_neg (by omega), if_neg (by simp; omega)]
        have hm0 : 0 ≤ m := by omega
        clear hx hZ
        cases r
        · have hmZ : m ≤ Z := by simpa using hr
          cases r2
          · go_enter Try.func66, Try.ntmps66
            go_wp2_with fail
            refine hv.mono ?_
            rintro e w1 ⟨rfl, hb⟩
            have k0 : w1.cell? ⟨w.heap.size, 0, none⟩ = some (.int .i64 f) := (hb.cell (p := ⟨w.heap.size, 0, none⟩) (by simp)).trans (cell_of_row _ _ 0 _ _ _ HL.out)
            have k1 : w1.cell? ⟨w.heap.size, 1, none⟩ = some (.int .i64 c) := (hb.cell (p := ⟨w.heap.size, 1, none⟩) (by simp)).trans (cell_of_row _ _ 1 _ _ _ HL.out)
            have HB1 := Lib.hid (HB0.out.trans (hb.mono HB0.out.size))
            clear hb
            go_wp2_with fail
            refine (rsizex_any w1 f c).mono ?_
            rintro e w2 ⟨rfl, hb2⟩
            rw [hsz.out]
            have HB2 := Lib.hid (HB1.out.trans (hb2.mono HB1.out.size))
            have j0 := (hb2.cell (p := ⟨w.heap.size, 0, none⟩) (cell_lt k0)).trans k0
            have j1 := (hb2.cell (p := ⟨w.heap.size, 1, none⟩) (cell_lt k1)).trans k1
            clear hb2 k0 k1
            go_wp2_with fail
            refine (rsizex_any w2 f c).mono ?_
            rintro e w3 ⟨rfl, hb3⟩
            rw [hsz.out]
            have HB3 := Lib.hid (HB2.out.trans (hb3.mono HB2.out.size))
            go_wp2_with fail
            go_ret
            exact ⟨ret_int (by rw [he.out]; rfl), HB3.out⟩
          · go_enter Try.func66, Try.ntmps66
            go_wp2_with fail
            refine hv.mono ?_
            rintro e w1 ⟨rfl, hb⟩
            have k0 : w1.cell? ⟨w.heap.size, 0, none⟩ = some (.int .i64 f) := (hb.cell (p := ⟨w.heap.size, 0, none⟩) (by simp)).trans (cell_of_row _ _ 0 _ _ _ HL.out)
            have k1 : w1.cell? ⟨w.heap.size, 1, none⟩ = some (.int .i64 c) := (hb.cell (p := ⟨w.heap.size, 1, none⟩) (by simp)).trans (cell_of_row _ _ 1 _ _ _ HL.out)
            have HB1 := Lib.hid (HB0.out.trans (hb.mono HB0.out.size))
            clear hb
            go_wp2_with fail
            refine (rsizex_any w1 f c).mono ?_
            rintro e w2 ⟨rfl, hb2⟩
            rw [hsz.out]
            have HB2 := Lib.hid (HB1.out.trans (hb2.mono HB1.out.size))
            have j0 := (hb2.cell (p := ⟨w.heap.size, 0, none⟩) (cell_lt k0)).trans k0
            have j1 := (hb2.cell (p := ⟨w.heap.size, 1, none⟩) (cell_lt k1)).trans k1
            clear hb2 k0 k1
            go_wp2_with fail
            refine (rsizex_any w2 f c).mono ?_
            rintro e w3 ⟨rfl, hb3⟩
            rw [hsz.out]
            have HB3 := Lib.hid (HB2.out.trans (hb3.mono HB2.out.size))
            go_wp2_with fail
            go_ret
            exact ⟨ret_int (by rw [he.out]; rfl), HB3.out⟩
        · go_enter Try.func66, Try.ntmps66
          go_wp2_with fail
          refine hv.mono ?_
          rintro e w1 ⟨rfl, hb⟩
          have k0 : w1.cell? ⟨w.heap.size, 0, none⟩ = some (.int .i64 f) := (hb.cell (p := ⟨w.heap.size, 0, none⟩) (by simp)).trans (cell_of_row _ _ 0 _ _ _ HL.out)
          have k1 : w1.cell? ⟨w.heap.size, 1, none⟩ = some (.int .i64 c) := (hb.cell (p := ⟨w.heap.size, 1, none⟩) (by simp)).trans (cell_of_row _ _ 1 _ _ _ HL.out)
          have HB1 := Lib.hid (HB0.out.trans (hb.mono HB0.out.size))
          clear hb
          go_wp2_with fail
          refine (rsizex_any w1 f c).mono ?_
          rintro e w2 ⟨rfl, hb2⟩
          rw [hsz.out]
          have HB2 := Lib.hid (HB1.out.trans (hb2.mono HB1.out.size))
          go_wp2_with fail
          go_ret
          exact ⟨ret_int (by rw [he.out]; rfl), HB2.out⟩

end Go.Proofs.Ytbknpfngboioeaa
