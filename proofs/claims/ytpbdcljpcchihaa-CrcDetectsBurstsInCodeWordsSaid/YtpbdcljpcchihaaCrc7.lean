/-
  The fixed examples of the statements of layer 2 (awake) hold; the walks of CrcMatchesSpec and CrcCombineMatchesSpec.
-/
import Derived.Test.YtpbdcljpcchihaaCrc6
import Derived.Test.YtpbdcljpcchihaaKeepB
import Derived.Lib.SlBytesConst
namespace Go.Proofs.Ytpbdcljpcchihaa
open Go.RowKit

def Yes (w : World) (e : Ending) (w' : World) : Prop := e = .returned (.bool true) ∧ Below w.heap.size w w'
theorem yes_of {w w1 w' : World} {e : Ending} (hb : Below w.heap.size w w1) (h : Yes w1 e w') : Yes w e w' := ⟨h.1, hb.trans (h.2.mono hb.size)⟩

theorem ex_nine : crcSum [49, 50, 51, 52, 53, 54, 55, 56, 57] = 3421780262#32 := by decide +kernel
theorem ex_comb : crcComb (crcSum [49, 50, 51, 52]) (crcSum [53, 54, 55, 56, 57]) (Int.toNat 5) = 3421780262#32 := by decide +kernel
theorem ex_nv : nv 3421780262#32 = 3421780262 := by unfold nv; rfl

set_option maxHeartbeats 2000000 in
theorem awake2_any (w : World) : Calls Try.prog 9 #[] w (Yes w) := by
  have HV := Lib.hid ex_nv
  have hc1 := Lib.run_convert_bytes_const (P := Try.prog) w 22 5 #[.int .u8 49, .int .u8 50, .int .u8 51, .int .u8 52, .int .u8 53, .int .u8 54, .int .u8 55, .int .u8 56, .int .u8 57] 9 9 tyBs tyU8
  go_enter Try.func9, Try.ntmps9
  go_wp2_with fail
  refine (sum_any _ 9 9 _ [49, 50, 51, 52, 53, 54, 55, 56, 57] _ (Has.laid w _ _ _ 9 _ (by rfl) rfl) (by decide)).mono ?_
  rintro e w1 ⟨rfl, rfl⟩
  clear hc1
  have hb := (Below.refl w.heap.size w).alloc (Nat.le_refl _) (.cells #[.int .u8 49, .int .u8 50, .int .u8 51, .int .u8 52, .int .u8 53, .int .u8 54, .int .u8 55, .int .u8 56, .int .u8 57] 5 (9, 10))
  generalize w.alloc (.cells #[.int .u8 49, .int .u8 50, .int .u8 51, .int .u8 52, .int .u8 53, .int .u8 54, .int .u8 55, .int .u8 56, .int .u8 57] 5 (9, 10)) = w1 at *
  have hc2 := Lib.run_convert_bytes_const (P := Try.prog) w1 22 5 #[.int .u8 49, .int .u8 50, .int .u8 51, .int .u8 52] 4 4 tyBs tyU8
  rw [ex_nine, HV.out]
  go_wp2_with fail
  refine (sum_any _ 4 4 _ [49, 50, 51, 52] _ (Has.laid w1 _ _ _ 4 _ (by rfl) rfl) (by decide)).mono ?_
  rintro e w2 ⟨rfl, rfl⟩
  clear hc2
  replace hb := hb.alloc hb.size (.cells #[.int .u8 49, .int .u8 50, .int .u8 51, .int .u8 52] 5 (4, 5))
  generalize w1.alloc (.cells #[.int .u8 49, .int .u8 50, .int .u8 51, .int .u8 52] 5 (4, 5)) = w2 at *
  have hc3 := Lib.run_convert_bytes_const (P := Try.prog) w2 22 5 #[.int .u8 53, .int .u8 54, .int .u8 55, .int .u8 56, .int .u8 57] 5 5 tyBs tyU8
  go_wp2_with fail
  refine (sum_any _ 5 5 _ [53, 54, 55, 56, 57] _ (Has.laid w2 _ _ _ 5 _ (by rfl) rfl) (by decide)).mono ?_
  rintro e w3 ⟨rfl, rfl⟩
  clear hc3
  replace hb := hb.alloc hb.size (.cells #[.int .u8 53, .int .u8 54, .int .u8 55, .int .u8 56, .int .u8 57] 5 (5, 6))
  generalize w2.alloc (.cells #[.int .u8 53, .int .u8 54, .int .u8 55, .int .u8 56, .int .u8 57] 5 (5, 6)) = w3 at *
  go_wp2_with fail
  refine (combine_any _ _ 5 (by decide) (by decide) _).mono ?_
  rintro e w4 ⟨rfl, hb4⟩
  replace hb := hb.trans (hb4.mono hb.size)
  rw [ex_comb, HV.out]
  go_wp2_with fail
  go_ret
  exact ⟨rfl, hb⟩

end Go.Proofs.Ytpbdcljpcchihaa
