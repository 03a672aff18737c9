/-
  The turning of bits of a slice of bytes, as the statements of layers 2 and 7 do it: plain facts.
-/
import Derived.Test.YtdahnkampjkelaaCrc2
import Derived.Test.YtdahnkampjkelaaMkB
namespace Go.Proofs.Ytdahnkampjkelaa
open Go.RowKit

theorem xor_u8 (a b : UInt8) : bits .xor .u8 (a.toNat : Int) (b.toNat : Int) = ((a ^^^ b).toNat : Int) := by
  rw [u8_xor_nat _ _ a.toNat_lt b.toNat_lt, UInt8.toNat_xor]
theorem mask8_pow : ∀ r < 8, (2 : Int) ^ r % 256 = ((mask8 r).toNat : Int) := by decide

theorem flips_hit {l : List UInt8} {a p k : Nat} (h : hits l.length a p k = true) : flips l a p (k + 1) = (flips l a p k).set ((a + k) / 8) ((flips l a p k).getD ((a + k) / 8) 0 ^^^ mask8 ((a + k) % 8)) := by
  show (if hits l.length a p k = true then _ else _) = _
  rw [if_pos h]; rfl
theorem flips_miss {l : List UInt8} {a p k : Nat} (h : ¬ hits l.length a p k = true) : flips l a p (k + 1) = flips l a p k := by
  show (if hits l.length a p k = true then _ else _) = _
  rw [if_neg h]
theorem nv_bit {p : W32} {k : Nat} {s : Int} (hs : nv p / 2 ^ k = s) : (p.toNat / 2 ^ k % 2 = 1) ↔ s % 2 = 1 := by
  have e : s = ((p.toNat / 2 ^ k : Nat) : Int) := by rw [← hs]; unfold nv; simp
  omega

theorem ty_u32 : Try.prog.underlying 23 = some (.int .u32) := by kernel_rfl
theorem shr_ge0 (c : W32) (k : Nat) : 0 ≤ nv c / 2 ^ k := Int.ediv_nonneg (nv_ge c) (Int.pow_nonneg (by decide))

end Go.Proofs.Ytdahnkampjkelaa
