/-
  Contracts of the matrices of package crc.
-/
import Derived.Test.YtpbdcljpcchihaaCrc2
import Derived.Test.YtpbdcljpcchihaaArr
namespace Go.Proofs.Ytpbdcljpcchihaa
open Go.RowKit

/-- A linear map of numbers of 32 bits. -/
def Lin (f : W32 → W32) : Prop := f 0#32 = 0#32 ∧ ∀ a b, f (a ^^^ b) = f a ^^^ f b
theorem Lin.step (n : Nat) : Lin (stepN n) := ⟨stepN_zero n, stepN_xor n⟩
theorem Lin.comp {f g : W32 → W32} (hf : Lin f) (hg : Lin g) : Lin (fun c => f (g c)) :=
  ⟨by show f (g 0#32) = _; rw [hg.1, hf.1], fun a b => by show f (g (a ^^^ b)) = _; rw [hg.2, hf.2]⟩
/-- The matrix of a linear map. -/
def IsMat (f : W32 → W32) (c : Array Value) : Prop := c.size = 32 ∧ ∀ i, i < 32 → c[i]? = some (.int .u32 (nv (f (1#32 <<< i))))

/-- The lowest i bits. -/
def lowW (c : W32) (i : Nat) : W32 := BitVec.ofNat 32 (c.toNat % 2 ^ i)
theorem lowW_bit (c : W32) (i j : Nat) (hj : j < 32) : (lowW c i).getLsbD j = (decide (j < i) && c.getLsbD j) := by
  simp only [lowW, BitVec.getLsbD_ofNat, Nat.testBit_mod_two_pow, hj, decide_true, Bool.true_and]
  rfl
theorem lowW_zero (c : W32) : lowW c 0 = 0#32 := by simp [lowW, Nat.mod_one]
theorem lowW_all (c : W32) : lowW c 32 = c := by
  apply BitVec.eq_of_getLsbD_eq
  intro j hj
  rw [lowW_bit c 32 j hj]; simp [hj]
theorem lowW_succ (c : W32) (i : Nat) (hi : i < 32) : lowW c (i + 1) = if c.getLsbD i then lowW c i ^^^ 1#32 <<< i else lowW c i := by
  apply BitVec.eq_of_getLsbD_eq
  intro j hj
  rw [lowW_bit c _ j hj]
  by_cases hc : c.getLsbD i = true
  · rw [if_pos hc, BitVec.getLsbD_xor, lowW_bit c _ j hj]
    simp only [BitVec.getLsbD_shiftLeft, BitVec.getLsbD_one]
    by_cases hji : j = i
    · subst hji; simp [hc, hj]
    · by_cases hlt : j < i
      · simp [hlt, hj, show j < i + 1 by omega]
      · have h1 : ¬ j < i + 1 := by omega
        have h2 : j - i ≠ 0 := by omega
        simp [hlt, hj, h1, h2]
  · rw [if_neg hc, lowW_bit c _ j hj]
    by_cases hji : j = i
    · subst hji; simp at hc; simp [hc]
    · by_cases hlt : j < i
      · simp [hlt, show j < i + 1 by omega]
      · simp [hlt, show ¬ j < i + 1 by omega]
theorem bit_nv (c : W32) (i : Nat) : c.getLsbD i = decide (nv c / 2 ^ i % 2 = 1) := by
  have h : c.getLsbD i = decide (c.toNat / 2 ^ i % 2 = 1) := by
    rw [BitVec.getLsbD, Nat.testBit_eq_decide_div_mod_eq]
  rw [h]
  apply decide_eq_decide.2
  have e : nv c / 2 ^ i % 2 = ((c.toNat / 2 ^ i % 2 : Nat) : Int) := by unfold nv; simp
  rw [e]; omega

theorem ty42 : Try.prog.underlying 42 = some (.array 32 23) := by kernel_rfl
theorem info42 : (Try.prog.info? 42).map (fun i => (i.zero, i.size)) = some (some (.agg (Array.replicate 32 (.int .u32 0))), 32) := by kernel_rfl
theorem size42 : (Try.prog.info? 42).map (·.size) = some 32 := (zero_of_info info42).2
theorem zero42 : ∀ w, (zeroValue 42).run Try.prog w = .ok (.agg (Array.replicate 32 (.int .u32 0))) w := (zero_of_info info42).1
theorem info23 : (Try.prog.info? 23).map (·.size) = some 1 := by kernel_rfl
theorem size42' {c : Array Value} (h : c.size = 32) : (Try.prog.info? 42).map (·.size) = some c.size := by rw [h]; exact size42
theorem ty23 : Try.prog.underlying 23 = some (.int .u32) := by kernel_rfl
theorem ty41 : Try.prog.underlying 41 = some (.array 32 23) := by kernel_rfl
theorem info41 : (Try.prog.info? 41).map (fun i => (i.zero, i.size)) = some (some (.agg (Array.replicate 32 (.int .u32 0))), 32) := by kernel_rfl
theorem size41 : (Try.prog.info? 41).map (·.size) = some 32 := (zero_of_info info41).2
theorem zero41 : ∀ w, (zeroValue 41).run Try.prog w = .ok (.agg (Array.replicate 32 (.int .u32 0))) w := (zero_of_info info41).1
theorem size41' {c : Array Value} (h : c.size = 32) : (Try.prog.info? 41).map (·.size) = some c.size := by rw [h]; exact size41

theorem low_hit (f : W32 → W32) (hf : Lin f) (x : W32) (k : Nat) (hk : k < 32) (hb : nv x / 2 ^ k % 2 = 1) : f (lowW x k) ^^^ f (1#32 <<< k) = f (lowW x (k + 1)) := by
  rw [lowW_succ x k hk, if_pos (by rw [bit_nv]; simpa using hb), hf.2]
theorem low_miss (x : W32) (k : Nat) (hk : k < 32) (hb : ¬ nv x / 2 ^ k % 2 = 1) : lowW x k = lowW x (k + 1) := by
  rw [lowW_succ x k hk, if_neg (by rw [bit_nv]; simpa using hb)]
theorem and_one' (n : Int) (h0 : 0 ≤ n) (h1 : n < 4294967296) : bits .and .u32 n 1 = n % 2 := by
  obtain ⟨c, rfl⟩ := nv_of n h0 h1
  exact and_one c
theorem shr_ge (c : W32) (k : Nat) : 0 ≤ nv c / 2 ^ k := Int.ediv_nonneg (nv_ge c) (Int.pow_nonneg (by decide))
theorem shr_lt (c : W32) (k : Nat) : nv c / 2 ^ k < 4294967296 := by
  have h := nv_lt c
  have h0 := nv_ge c
  have : nv c / 2 ^ k ≤ nv c := Int.ediv_le_self _ h0
  omega

set_option maxRecDepth 20000 in
set_option maxHeartbeats 1000000 in
theorem apply_any (f : W32 → W32) (hf : Lin f) (c : Array Value) (hc : IsMat f c) (x : W32) (w : World) :
    Calls Try.prog 25 #[.agg c, .int .u32 (nv x)] w fun e w' => e = .returned (.int .u32 (nv (f x))) ∧ Below w.heap.size w w' := by
  have HF := Lib.hid hf
  have HC := Lib.hid hc
  have hge := nv_ge x
  have hlx := nv_lt x
  clear hf hc
  go_enter Try.func25, Try.ntmps25
  go_wp2_with (first | (refine wpList_box_arr _ rfl 2 rfl _ _ rfl _ c (by exact rfl) (by exact rfl) ?_; intro w1 g1 hg1 hl1 hr1 hgr1) | (refine wpList_load_arr _ rfl _ _ rfl _ (by exact rfl) _ c hr1 32 _ ty42 (size42' HC.out.1) ?_))
  have hb1 := below_row0 (Below.refl w.heap.size w) hgr1 (Nat.le_refl _)
  clear hr1 hgr1 hg1 hl1
  go_loop [5, 6, 7, 9] (fun v _ _ i => ∃ (k : Nat) (d : W32), k ≤ 32 ∧ i = .int .i64 k ∧ v = .int .u32 (nv d) ∧ d = f (lowW x k)) (fun _ _ _ i => 32 - (intOf i).toNat)
  case atStart => exact ⟨0, 0#32, Nat.zero_le _, rfl, by rw [nv_zero], by rw [lowW_zero, HF.out.1]⟩
  case round =>
    obtain ⟨k, d, hk, rfl, rfl, hd⟩ := hrel
    have HD := Lib.hid hd
    clear hd
    by_cases hlt : k < 32
    · have hidx := run_index_arr (P := Try.prog) 42 23 32 .u32 ty42 ty23 info23 c k hlt _ (HC.out.2 k hlt)
      obtain ⟨y, hy⟩ : ∃ y, y = f (1#32 <<< k) := ⟨_, rfl⟩
      rw [← hy] at hidx
      have HY := Lib.hid hy
      clear hy
      obtain ⟨s, hs⟩ : ∃ s, nv x / 2 ^ k = s := ⟨_, rfl⟩
      have hand := and_one' s (by rw [← hs]; exact shr_ge x k) (by rw [← hs]; exact shr_lt x k)
      have HS := Lib.hid hs
      by_cases hbit : s % 2 = 1
      · have HN := Lib.hid (low_hit f HF.out x k hlt (by rw [hs]; exact hbit))
        have hx := nv_xor d y
        rw [hbit] at hand
        clear hbit hs
        go_wp2_with (refine wpList_shr32 _ rfl _ _ _ _ rfl ty23 _ k hk (by exact rfl) (by exact rfl) s HS.out ?_)
        go_round
        case rel => exact ⟨k + 1, _, by omega, by go_num, rfl, by rw [HD.out, HY.out, HN.out]⟩
        case measure => simp [intOf]; omega
      · have HN := Lib.hid (low_miss x k hlt (by rw [hs]; exact hbit))
        have hand0 : s % 2 = 0 := by omega
        rw [hand0] at hand
        clear hbit hand0 hs
        go_wp2_with (refine wpList_shr32 _ rfl _ _ _ _ rfl ty23 _ k hk (by exact rfl) (by exact rfl) s HS.out ?_)
        go_round
        case rel => exact ⟨k + 1, _, by omega, by go_num, rfl, by rw [HD.out, HN.out]⟩
        case measure => simp [intOf]; omega
    · obtain rfl : k = 32 := by omega
      go_wp2
      go_ret
      exact ⟨ret_int (by rw [HD.out, lowW_all]), hb1⟩

set_option maxHeartbeats 1000000 in
theorem refApply_any (f : W32 → W32) (hf : Lin f) (c : Array Value) (hc : IsMat f c) (x : W32) (w : World) :
    Calls Try.prog 27 #[.agg c, .int .u32 (nv x)] w fun e w' => e = .returned (.int .u32 (nv (f x))) ∧ Below w.heap.size w w' := by
  have HF := Lib.hid hf
  have HC := Lib.hid hc
  have hge := nv_ge x
  have hlx := nv_lt x
  clear hf hc
  go_enter Try.func27, Try.ntmps27
  go_wp2_with (refine wpList_box_arr _ rfl 2 rfl _ _ rfl _ c (by exact rfl) (by exact rfl) ?_; intro w1 g1 hg1 hl1 hr1 hgr1)
  have hb1 := below_row0 (Below.refl w.heap.size w) hgr1 (Nat.le_refl _)
  clear hgr1 hg1 hl1
  go_loop [5, 6] (fun v i => ∃ (k : Nat) (d : W32), k ≤ 32 ∧ i = .int .i64 k ∧ v = .int .u32 (nv d) ∧ d = f (lowW x k)) (fun _ i => 32 - (intOf i).toNat)
  case atStart => exact ⟨0, 0#32, Nat.zero_le _, rfl, by rw [nv_zero], by rw [lowW_zero, HF.out.1]⟩
  case round =>
    obtain ⟨k, d, hk, rfl, rfl, hd⟩ := hrel
    have HD := Lib.hid hd
    clear hd
    by_cases hlt : k < 32
    · obtain ⟨y, hy⟩ : ∃ y, y = f (1#32 <<< k) := ⟨_, rfl⟩
      have hcell : w1.cell? ⟨g1, k, none⟩ = some (.int .u32 (nv y)) := by
        rw [cell_of_row w1 g1 k c _ (0, 0) hr1, HC.out.2 k hlt, hy]
      have HY := Lib.hid hy
      clear hy
      obtain ⟨s, hs⟩ : ∃ s, nv x / 2 ^ k = s := ⟨_, rfl⟩
      have hs0 : 0 ≤ s := by rw [← hs]; exact shr_ge x k
      have HS := Lib.hid hs
      by_cases hbit : s % 2 = 1
      · have HN := Lib.hid (low_hit f HF.out x k hlt (by rw [hs]; exact hbit))
        have hx := nv_xor d y
        clear hs
        go_wp2_with (refine wpList_shr32 _ rfl _ _ _ _ rfl ty23 _ k hk (by exact rfl) (by exact rfl) s HS.out ?_)
        go_round
        case rel => exact ⟨k + 1, _, by omega, by go_num, rfl, by rw [HD.out, HY.out, HN.out]⟩
        case measure => simp [intOf]; omega
      · have HN := Lib.hid (low_miss x k hlt (by rw [hs]; exact hbit))
        have hbit0 : s % 2 = 0 := by omega
        clear hbit hs
        go_wp2_with (refine wpList_shr32 _ rfl _ _ _ _ rfl ty23 _ k hk (by exact rfl) (by exact rfl) s HS.out ?_)
        go_round
        case rel => exact ⟨k + 1, _, by omega, by go_num, rfl, by rw [HD.out, HN.out]⟩
        case measure => simp [intOf]; omega
    · obtain rfl : k = 32 := by omega
      go_wp2
      go_ret
      exact ⟨ret_int (by rw [HD.out, lowW_all]), hb1⟩

end Go.Proofs.Ytpbdcljpcchihaa
