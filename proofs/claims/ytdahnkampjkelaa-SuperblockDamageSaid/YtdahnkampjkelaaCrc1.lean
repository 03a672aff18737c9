/-
  Contracts of the step of the checksum, of package crc and of its reference.
-/
import Derived.Test.YtdahnkampjkelaaRows
import Derived.Test.YtdahnkampjkelaaCrcP
import Derived.Laws.BitsAll
import Derived.Laws.ShiftsVar
import Derived.BigQuiet
import Derived.Deep.QuietTactic
import Derived.WalkSmall
namespace Go.Proofs.Ytdahnkampjkelaa
open Go.RowKit

/-- A number of 32 bits as the walk's number: simp does not look into it. -/
def nv (c : W32) : Int := (c.toNat : Int)
theorem nv_ge (c : W32) : 0 ≤ nv c := by unfold nv; omega
theorem nv_lt (c : W32) : nv c < 4294967296 := by have := c.isLt; unfold nv; omega
theorem nv_zero : nv 0#32 = 0 := rfl
theorem nv_inj {a b : W32} (h : nv a = nv b) : a = b := BitVec.eq_of_toNat_eq (by unfold nv at h; omega)
theorem nv_of (n : Int) (h0 : 0 ≤ n) (h1 : n < 4294967296) : ∃ c, n = nv c :=
  ⟨BitVec.ofNat 32 n.toNat, by simp only [nv, BitVec.toNat_ofNat]; omega⟩
theorem nv_beq (a b : W32) : (nv a == nv b) = decide (a = b) := by
  by_cases h : a = b
  · subst h; simp
  · rw [decide_eq_false h, beq_eq_false_iff_ne]; exact fun e => h (nv_inj e)
theorem nv_xor (a b : W32) : bits .xor .u32 (nv a) (nv b) = nv (a ^^^ b) := by
  unfold nv
  rw [u32_xor_nat _ _ (by have := a.isLt; omega) (by have := b.isLt; omega), BitVec.toNat_xor]
theorem nv_byte (b : UInt8) : nv (b32 b) = (b.toNat : Int) := by unfold nv; rw [b32_toNat]
theorem nv_xor_byte (c : W32) (b : UInt8) : bits .xor .u32 (nv c) (b.toNat : Int) = nv (c ^^^ b32 b) := by rw [← nv_byte, nv_xor]
theorem nv_not (a : W32) : bits .xor .u32 IntKind.u32.max (nv a) = nv (~~~ a) := by
  have h := nv_xor (~~~ 0#32) a
  rw [← BitVec.not_xor_left, BitVec.zero_xor] at h
  exact h
theorem bit0 (c : W32) : c.getLsbD 0 = decide (nv c % 2 = 1) := by
  have : c.getLsbD 0 = decide (c.toNat % 2 = 1) := by simp [BitVec.getLsbD, Nat.testBit_zero]
  rw [this]
  unfold nv
  exact decide_eq_decide.2 (by omega)
theorem half_nv (c : W32) : nv c / (2 : Int) = nv (c >>> 1) := by
  unfold nv
  rw [BitVec.toNat_ushiftRight, Nat.shiftRight_eq_div_pow]
  omega
theorem stepB_odd (c : W32) (h : nv c % 2 = 1) : bits .xor .u32 (nv c / 2) 3988292384 = nv (stepB c) := by
  have hb : c.getLsbD 0 = true := by rw [bit0]; simpa using h
  rw [half_nv, show (3988292384 : Int) = nv polyW from rfl, nv_xor]
  unfold stepB
  rw [if_pos hb]
theorem stepB_even (c : W32) (h : nv c % 2 = 0) : nv c / 2 = nv (stepB c) := by
  have hb : ¬ c.getLsbD 0 = true := by rw [bit0]; simp; omega
  unfold stepB
  rw [if_neg hb, half_nv]
theorem and_one (c : W32) : bits .and .u32 (nv c) 1 = nv c % 2 := by
  unfold nv
  rw [show (1 : Int) = ((1 : Nat) : Int) from rfl, u32_and_nat _ _ (by have := c.isLt; omega) (by decide), Nat.and_one_is_mod]
  omega

attribute [irreducible] nv

set_option maxHeartbeats 400000 in
theorem step_any (c : W32) (w : World) : Calls Try.prog 30 #[.int .u32 (nv c)] w fun e w' => e = .returned (.int .u32 (nv (stepB c))) ∧ w = w' := by
  have hge := nv_ge c
  have hlt := nv_lt c
  have ha := and_one c
  by_cases h : nv c % 2 = 1
  · have HS := Lib.hid (stepB_odd c h)
    rw [h] at ha
    clear h
    go_enter Try.func30, Try.ntmps30
    go_wp2
    go_ret
    exact ⟨ret_int HS.out, rfl⟩
  · have h : nv c % 2 = 0 := by omega
    have HS := Lib.hid (stepB_even c h)
    rw [h] at ha
    clear h
    go_enter Try.func30, Try.ntmps30
    go_wp2
    go_ret
    exact ⟨ret_int HS.out, rfl⟩

set_option maxHeartbeats 400000 in
theorem refStep_any (c : W32) (w : World) : Calls Try.prog 28 #[.int .u32 (nv c)] w fun e w' => e = .returned (.int .u32 (nv (stepB c))) ∧ w = w' := by
  have hge := nv_ge c
  have hlt := nv_lt c
  by_cases h : nv c % 2 = 1
  · have HS := Lib.hid (stepB_odd c h)
    have h2 : nv c % 2 = 1 := h
    clear h
    go_enter Try.func28, Try.ntmps28
    go_wp2
    go_ret
    exact ⟨ret_int HS.out, rfl⟩
  · have h : nv c % 2 = 0 := by omega
    have HS := Lib.hid (stepB_even c h)
    have h2 : nv c % 2 = 0 := h
    clear h
    go_enter Try.func28, Try.ntmps28
    go_wp2
    go_ret
    exact ⟨ret_int HS.out, rfl⟩

set_option maxHeartbeats 400000 in
theorem eight_any (c : W32) (w : World) : Calls Try.prog 29 #[.int .u32 (nv c)] w fun e w' => e = .returned (.int .u32 (nv (stepN 8 c))) ∧ w = w' := by
  go_enter Try.func29, Try.ntmps29
  go_wp2
  go_loop [0, 3] (fun v i => ∃ (k : Nat) (d : W32), k ≤ 8 ∧ i = .int .i64 k ∧ v = .int .u32 (nv d) ∧ d = stepN k c) (fun _ i => 8 - (intOf i).toNat)
  case atStart => exact ⟨0, c, Nat.zero_le _, rfl, rfl, rfl⟩
  case round =>
    obtain ⟨k, d, hk, rfl, rfl, hd⟩ := hrel
    have HD := Lib.hid hd
    clear hd
    by_cases hlt : k < 8
    · have HN := Lib.hid (stepN_succ k c)
      go_wp2_with (go_at_call 30; refine (step_any _ _).mono ?_; rintro e w' ⟨rfl, rfl⟩)
      go_round
      case rel => exact ⟨k + 1, _, by omega, by go_num, rfl, by rw [HN.out, HD.out]⟩
      case measure => simp [intOf]; omega
    · obtain rfl : k = 8 := by omega
      go_wp2
      go_ret
      exact ⟨ret_int (by rw [HD.out]), rfl⟩

end Go.Proofs.Ytdahnkampjkelaa
