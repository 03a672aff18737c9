/-
  Contracts of extent.Valid, Size, rangeError, span and part.
-/
import Derived.Test.YtbknpfngboioeaaXtP
import Derived.Test.YtbknpfngboioeaaDkK
import Derived.Test.YtbknpfngboioeaaDkO
import Derived.BigQuiet
import Derived.Deep.QuietTactic
namespace Go.Proofs.Ytbknpfngboioeaa
open Go.RowKit

theorem quiet_same {P : Program} {f : FuncId} {args : Array Value} {w : World} {n : Nat} {v : Value}
    (h : Calls P f args (w.drewN n) fun e w' => e = .returned v ∧ w.drewN n = w') : Calls P f args (w.drewN n) fun e w'' => e = .returned v ∧ ∃ m, w'' = w.drewN m :=
  h.mono fun _ _ ⟨he, hm⟩ => ⟨he, n, hm.symm⟩
def ext (f c : Int) : Value := .agg #[.int .i64 f, .int .i64 c]
theorem PD.drewN {w : World} {F : Nat → Prop} {a n : Nat} {S : Dsk} (h : PD w F a n S) (q : Nat) : PD (w.drewN q) F a n S := h.below (below_drewN _ w q)
theorem box_below {w : World} (o : Obj) (q : Nat) : Below w.heap.size w ((w.alloc o).drewN q) := ((Below.refl _ _).alloc (Nat.le_refl _) o).trans (below_drewN _ _ _)

set_option maxHeartbeats 1600000 in
theorem valid_any {w : World} {F : Nat → Prop} {a n : Nat} {S : Dsk} (h : PD w F a n S) (f c : Int) (hf : f ≤ 9223372036854775807) :
    Calls Try.prog 32 #[.pointer (some ⟨a, 0, none⟩), .agg #[.int .i64 f, .int .i64 c]] w fun e w' => e = .returned (.bool (xvalid n f c)) ∧ Below w.heap.size w w' := by
  have hn4 := h.ok.n4
  have HP : Hid (∀ q, PD ((w.alloc (.cells #[.int .i64 f, .int .i64 c] 50)).drewN q) F a n S) := fun q => h.below (box_below _ q)
  clear h
  by_cases h0 : 0 ≤ f
  · have b0 : decide ((0 : Int) ≤ f) = true := by simpa using h0
    by_cases h1 : 1 ≤ c
    · have b1 : decide ((1 : Int) ≤ c) = true := by simpa using h1
      have hw : wrap64 ((n : Int) - f) = (n : Int) - f := by unfold wrap64; omega
      obtain ⟨r, hr⟩ : ∃ r, r = decide (c ≤ (n : Int) - f) := ⟨_, rfl⟩
      have hv : Hid (xvalid n f c = r) := by show _ = _; rw [hr]; simp only [xvalid, b0, b1, Bool.true_and]; congr 1; apply propext; constructor <;> intro h <;> omega
      have hr' := hr.symm
      clear hr h0 h1
      go_enter Try.func32, Try.ntmps32
      go_wp2
      go_quiet ((go_at_call 46; exact quiet_same (sectors_any (HP.out _))))
      go_wp2
      go_ret
      exact ⟨ret_bool hv.out.symm, box_below _ _⟩
    · have b1 : decide ((1 : Int) ≤ c) = false := by simpa using h1
      have hv : Hid (xvalid n f c = false) := by show _ = _; simp [xvalid, h1]
      clear h0 h1
      go_enter Try.func32, Try.ntmps32
      go_wp2
      go_quiet (fail)
      go_wp2
      go_ret
      exact ⟨ret_bool hv.out.symm, box_below _ _⟩
  · have b0 : decide ((0 : Int) ≤ f) = false := by simpa using h0
    have hv : Hid (xvalid n f c = false) := by show _ = _; simp [xvalid, h0]
    clear h0
    go_enter Try.func32, Try.ntmps32
    go_wp2
    go_quiet (fail)
    go_wp2
    go_ret
    exact ⟨ret_bool hv.out.symm, box_below _ _⟩

set_option maxHeartbeats 1600000 in
theorem size_any (w : World) (f c : Int) : Calls Try.prog 34 #[.agg #[.int .i64 f, .int .i64 c]] w fun e w' => e = .returned (.int .i64 (xsize c)) ∧ Below w.heap.size w w' := by
  by_cases h0 : c < 0
  · have b0 : decide (c < 0) = true := by simpa using h0
    have hv : Hid (xsize c = 0) := by show _ = _; simp [xsize, h0]
    clear h0
    go_enter Try.func34, Try.ntmps34
    go_wp2
    go_ret
    exact ⟨ret_int hv.out.symm, (Below.refl _ _).alloc (Nat.le_refl _) _⟩
  · have b0 : decide (c < 0) = false := by simpa using h0
    by_cases h1 : 4096 < c
    · have b1 : decide ((4096 : Int) < c) = true := by simpa using h1
      have hv : Hid (xsize c = 0) := by show _ = _; simp [xsize, h1]
      clear h0 h1
      go_enter Try.func34, Try.ntmps34
      go_wp2
      go_ret
      exact ⟨ret_int hv.out.symm, (Below.refl _ _).alloc (Nat.le_refl _) _⟩
    · have b1 : decide ((4096 : Int) < c) = false := by simpa using h1
      have hw : wrap64 (c * 64) = c * 64 := by unfold wrap64; omega
      have hv : Hid (xsize c = c * 64) := by show _ = _; simp [xsize, h1, h0]
      have hw' := Lib.hid hw
      clear h0 h1
      go_enter Try.func34, Try.ntmps34
      go_wp2
      go_ret
      exact ⟨ret_int (by rw [hv.out]; first | exact hw'.out | rfl), (Below.refl _ _).alloc (Nat.le_refl _) _⟩

theorem xerr_bad {n : Nat} {f c off m : Int} (h : xvalid n f c = false) : xerr n f c off m = 1 := by simp [xerr, h]
set_option maxHeartbeats 1600000 in
theorem rangeError_any {w : World} {F : Nat → Prop} {a n : Nat} {S : Dsk} (h : PD w F a n S) (f c off m : Int) (hf : f ≤ 9223372036854775807) (hoff : off ≤ 9223372036854775807) (_ : m ≤ 9223372036854775807) :
    Calls Try.prog 63 #[.pointer (some ⟨a, 0, none⟩), .agg #[.int .i64 f, .int .i64 c], .int .i64 off, .int .i64 m] w fun e w' => e = .returned (.int .i64 (xerr n f c off m)) ∧ Below w.heap.size w w' := by
  have hb0 : Below w.heap.size w (w.alloc (.cells #[.int .i64 f, .int .i64 c] 50)) := (Below.refl _ _).alloc (Nat.le_refl _) _
  have hv := valid_any (h.below hb0) f c hf
  have hl := heap_alloc_last w (.cells #[.int .i64 f, .int .i64 c] 50)
  have hn4 := h.ok.n4
  have HB0 := Lib.hid hb0
  have HL := Lib.hid hl
  clear h hb0 hl
  cases hx : xvalid n f c with
  | false =>
    have he := Lib.hid (xerr_bad (off := off) (m := m) hx)
    rw [hx] at hv
    clear hx
    go_enter Try.func63, Try.ntmps63
    go_wp2_with (go_at_call 32; refine hv.mono ?_; rintro e w' ⟨rfl, hb⟩)
    go_ret
    exact ⟨ret_int he.out.symm, HB0.out.trans (hb.mono HB0.out.size)⟩
  | true =>
    rw [hx] at hv
    have hc : Hid (0 ≤ f ∧ 1 ≤ c ∧ f + c ≤ n) := by show _ ∧ _; simp [xvalid] at hx; omega
    by_cases h0 : off < 0
    · have b0 : decide (off < 0) = true := by simpa using h0
      have he : Hid (xerr n f c off m = 2) := by show _ = _; simp [xerr, hx, h0]
      clear hx h0
      go_enter Try.func63, Try.ntmps63
      go_wp2_with (go_at_call 32; refine hv.mono ?_; rintro e w' ⟨rfl, hb⟩)
      go_ret
      exact ⟨ret_int he.out.symm, HB0.out.trans (hb.mono HB0.out.size)⟩
    · have b0 : decide (off < 0) = false := by simpa using h0
      by_cases h1 : m < 0
      · have b1 : decide (m < 0) = true := by simpa using h1
        have he : Hid (xerr n f c off m = 2) := by show _ = _; simp [xerr, hx, h1]
        clear hx h0 h1
        go_enter Try.func63, Try.ntmps63
        go_wp2_with (go_at_call 32; refine hv.mono ?_; rintro e w' ⟨rfl, hb⟩)
        go_ret
        exact ⟨ret_int he.out.symm, HB0.out.trans (hb.mono HB0.out.size)⟩
      · have b1 : decide (m < 0) = false := by simpa using h1
        have hsz : Hid (xsize c = c * 64) := by show _ = _; have := hc.out; simp [xsize]; omega
        have hw : wrap64 (c * 64 - off) = c * 64 - off := by have := hc.out; unfold wrap64; omega
        obtain ⟨r, hr⟩ : ∃ r, decide (c * 64 - off < m) = r := ⟨_, rfl⟩
        have he : Hid (xerr n f c off m = if r then 2 else 0) := by show _ = _; rw [← hr]; simp [xerr, hx, h0, h1]
        clear hx h0 h1
        cases r
        · go_enter Try.func63, Try.ntmps63
          go_wp2_with (first
            | (go_at_call 32; refine hv.mono ?_; rintro e w1 ⟨rfl, hb⟩
               have k0 : w1.cell? ⟨w.heap.size, 0, none⟩ = some (.int .i64 f) := (hb.cell (p := ⟨w.heap.size, 0, none⟩) (by simp)).trans (cell_of_row _ _ 0 _ _ _ HL.out)
               have k1 : w1.cell? ⟨w.heap.size, 1, none⟩ = some (.int .i64 c) := (hb.cell (p := ⟨w.heap.size, 1, none⟩) (by simp)).trans (cell_of_row _ _ 1 _ _ _ HL.out)
               have HB1 := Lib.hid (HB0.out.trans (hb.mono HB0.out.size))
               clear hb)
            | (go_at_call 34; refine (size_any w1 f c).mono ?_; rintro e w2 ⟨rfl, hb2⟩; rw [hsz.out]))
          go_ret
          exact ⟨ret_int (by rw [he.out]; rfl), HB1.out.trans (hb2.mono HB1.out.size)⟩
        · go_enter Try.func63, Try.ntmps63
          go_wp2_with (first
            | (go_at_call 32; refine hv.mono ?_; rintro e w1 ⟨rfl, hb⟩
               have k0 : w1.cell? ⟨w.heap.size, 0, none⟩ = some (.int .i64 f) := (hb.cell (p := ⟨w.heap.size, 0, none⟩) (by simp)).trans (cell_of_row _ _ 0 _ _ _ HL.out)
               have k1 : w1.cell? ⟨w.heap.size, 1, none⟩ = some (.int .i64 c) := (hb.cell (p := ⟨w.heap.size, 1, none⟩) (by simp)).trans (cell_of_row _ _ 1 _ _ _ HL.out)
               have HB1 := Lib.hid (HB0.out.trans (hb.mono HB0.out.size))
               clear hb)
            | (go_at_call 34; refine (size_any w1 f c).mono ?_; rintro e w2 ⟨rfl, hb2⟩; rw [hsz.out]))
          go_ret
          exact ⟨ret_int (by rw [he.out]; rfl), HB1.out.trans (hb2.mono HB1.out.size)⟩

/-- The first sector of a range, and the one behind its last. -/
def sp0 (off m : Nat) : Nat := if m = 0 then 0 else off / 64
def sp1 (off m : Nat) : Nat := if m = 0 then 0 else (off + m - 1) / 64 + 1
theorem tdiv64 {k q : Nat} (h : k / 64 = q) : Int.tdiv (k : Int) 64 = (q : Int) := by rw [Int.tdiv_eq_ediv_of_nonneg (by omega)]; omega
set_option maxHeartbeats 800000 in
theorem span_any (off m : Nat) (w : World) (ho : off ≤ 1000000) (hm : m ≤ 1000000) : Calls Try.prog 64 #[.int .i64 off, .int .i64 m] w fun e w' => e = .returned (.tuple #[.int .i64 (sp0 off m), .int .i64 (sp1 off m)]) ∧ w = w' := by
  by_cases h0 : m = 0
  · subst h0
    have e1 : sp0 off 0 = 0 := rfl
    have e2 : sp1 off 0 = 0 := rfl
    rw [e1, e2]
    go_enter Try.func64, Try.ntmps64
    go_wp2
    go_ret2
    exact ⟨rfl, rfl⟩
  · obtain ⟨q0, hq0⟩ : ∃ q, q = sp0 off m := ⟨_, rfl⟩
    obtain ⟨q1, hq1⟩ : ∃ q, q = sp1 off m := ⟨_, rfl⟩
    rw [← hq0, ← hq1]
    have g0 : ((m : Int) == 0) = false := by simp; omega
    unfold sp0 at hq0
    unfold sp1 at hq1
    rw [if_neg h0] at hq0 hq1
    have t0 : Int.tdiv (off : Int) 64 = (q0 : Int) := tdiv64 hq0.symm
    have w0 : wrap64 (q0 : Int) = (q0 : Int) := by unfold wrap64; omega
    have w1 : wrap64 ((off : Int) + (m : Int)) = (off : Int) + (m : Int) := by unfold wrap64; omega
    have w2 : wrap64 ((off : Int) + (m : Int) - 1) = (off : Int) + (m : Int) - 1 := by unfold wrap64; omega
    have e0 := Lib.hid w0
    have e1 : Hid (wrap64 (((off : Int) + (m : Int) - 1).tdiv 64 + 1) = (q1 : Int)) := by
      show _ = _
      rw [show (off : Int) + (m : Int) - 1 = ((off + m - 1 : Nat) : Int) by omega, tdiv64 (q := q1 - 1) (by omega)]
      unfold wrap64; omega
    clear hq0 hq1 h0 w0
    go_enter Try.func64, Try.ntmps64
    go_wp2
    go_ret2
    exact ⟨by (rw [e0.out, e1.out]) <;> (try rfl), rfl⟩
set_option maxHeartbeats 800000 in
theorem part_any (i off m : Nat) (w : World) (ho : off ≤ 1000000) (hm : m ≤ 1000000) (hi : 64 * i ≤ off + m) : Calls Try.prog 65 #[.int .i64 i, .int .i64 off, .int .i64 m] w fun e w' => e = .returned (.tuple #[.int .i64 (pfrom off i), .int .i64 (pto off m i)]) ∧ w = w' := by
  obtain ⟨q0, hq0⟩ : ∃ q, q = pfrom off i := ⟨_, rfl⟩
  obtain ⟨q1, hq1⟩ : ∃ q, q = pto off m i := ⟨_, rfl⟩
  rw [← hq0, ← hq1]
  unfold pfrom at hq0
  unfold pto at hq1
  have w0 : wrap64 ((i : Int) * 64) = (i : Int) * 64 := by unfold wrap64; omega
  have w1 : wrap64 ((off : Int) - (i : Int) * 64) = (off : Int) - (i : Int) * 64 := by unfold wrap64; omega
  have w2 : wrap64 ((off : Int) + (m : Int)) = (off : Int) + (m : Int) := by unfold wrap64; omega
  have w3 : wrap64 ((off : Int) + (m : Int) - (i : Int) * 64) = (off : Int) + (m : Int) - (i : Int) * 64 := by unfold wrap64; omega
  have hmax := fun (W : World) (ts : Array TypeId) (t : TypeId) => max_two (P := Try.prog) W ts t ((off : Int) - (i : Int) * 64) 0 (q0 : Int) (by omega)
  have hmin := fun (W : World) (ts : Array TypeId) (t : TypeId) => min_two (P := Try.prog) W ts t ((off : Int) + (m : Int) - (i : Int) * 64) 64 (q1 : Int) (by omega)
  clear hq0 hq1 hi ho hm
  go_enter Try.func65, Try.ntmps65
  go_wp2
  go_ret2
  exact ⟨rfl, rfl⟩

end Go.Proofs.Ytbknpfngboioeaa
