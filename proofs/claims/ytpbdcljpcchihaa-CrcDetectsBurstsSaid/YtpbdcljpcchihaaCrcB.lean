/-
  The walk of CrcDetectsBursts: it returns true.
-/
import Derived.Test.YtpbdcljpcchihaaCrcF
namespace Go.Proofs.Ytpbdcljpcchihaa
open Go.RowKit

theorem burst_bool (l : List UInt8) (a p : Nat) : ((nv (crcSum (flips l a p 32)) == nv (crcSum l)) == eqL (flips l a p 32) l) = true := by
  rw [nv_beq]
  unfold eqL
  by_cases h : flips l a p 32 = l
  · rw [decide_eq_true h, decide_eq_true ((burst_sum l a p).2 h)]; rfl
  · rw [decide_eq_false h, decide_eq_false (fun e => h ((burst_sum l a p).1 e))]; rfl

set_option maxHeartbeats 2000000 in
theorem crcBursts_walk (A : Option Addr) (len cap : Nat) (zs : List Int) (at_ s : Int) (w : World) (h : In8 w A len cap zs) (ha : (Lit.int .i64 at_).wf = true) (hs : (Lit.int .u32 s).wf = true) :
    Calls Try.prog 6 #[.slice A len cap, .int .i64 at_, .int .u32 s] w (Yes w) := by
  obtain ⟨l, hl⟩ := arg8_of h
  obtain ⟨p, rfl⟩ := w32_of hs
  have hab := bounds_i64 ha
  have HA := Lib.hid hl
  clear hl h ha hs
  by_cases h0 : len = 0
  · subst h0
    go_enter Try.func6, Try.ntmps6
    go_wp2_with fail
    refine (awake2_any _).mono ?_
    rintro e w2 ⟨rfl, hb2⟩
    go_wp2
    go_ret
    exact ⟨rfl, hb2⟩
  · have h0' : ((len : Int) == 0) = false := by rw [beq_eq_false_iff_ne]; omega
    have hpos : 0 < len := by omega
    clear h0
    by_cases hlen : len ≤ 2000
    · have hlen' : (len : Int) ≤ 2000 := by omega
      go_enter Try.func6, Try.ntmps6
      go_wp2_with fail
      refine (mod_any at_ (8 * (len : Int)) (by omega) (by omega) (by omega) (by omega) _).mono ?_
      rintro e w' ⟨rfl, rfl⟩
      obtain ⟨a, ham⟩ : ∃ a : Nat, at_ % (8 * (len : Int)) = (a : Int) := ⟨(at_ % (8 * (len : Int))).toNat, by have := Int.emod_nonneg at_ (show (8 * (len : Int)) ≠ 0 by omega); omega⟩
      have hab2 : a ≤ 1000000 := by have := Int.emod_lt_of_pos at_ (show (0 : Int) < 8 * (len : Int) by omega); omega
      rw [ham]
      clear ham
      go_wp2_with fail
      refine (flip_any A len cap _ l a p w HA.out.1 HA.out.2.2.2 (by omega) hpos hab2 (Nat.le_refl _)).mono ?_
      rintro e w1 ⟨⟨g, c, rfl, hO⟩, hb⟩
      have hf := hO.has
      have hd := HA.out.1.below hb
      have hfin := burst_bool l a p.toNat
      clear hO
      generalize flips l a p.toNat 32 = F at *
      go_wp2_with fail
      refine (sum_any _ len c _ F w1 hf (by omega)).mono ?_
      rintro e w' ⟨rfl, rfl⟩
      go_wp2_with fail
      refine (sum_any A len cap _ l w1 hd (by omega)).mono ?_
      rintro e w' ⟨rfl, rfl⟩
      go_wp2_with fail
      refine (bytes_any _ A len c len cap _ F l w1 hf (hd.more hb.size)).mono ?_
      rintro e w' ⟨rfl, rfl⟩
      go_wp2_with fail
      refine (awake2_any _).mono ?_
      rintro e w2 ⟨rfl, hb2⟩
      go_wp2
      go_ret
      exact ⟨rfl, hb.trans (hb2.mono hb.size)⟩
    · have hlen' : ¬ (len : Int) ≤ 2000 := by omega
      go_enter Try.func6, Try.ntmps6
      go_wp2_with fail
      refine (awake2_any _).mono ?_
      rintro e w2 ⟨rfl, hb2⟩
      go_wp2
      go_ret
      exact ⟨rfl, hb2⟩

end Go.Proofs.Ytpbdcljpcchihaa
