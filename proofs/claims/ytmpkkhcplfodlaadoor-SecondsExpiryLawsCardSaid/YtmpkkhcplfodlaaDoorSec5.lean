/-
  The fixed examples of the statements of layer 4 (awake) hold.
-/
import Derived.Test.YtmpkkhcplfodlaaDoorYes
import Derived.Test.YtmpkkhcplfodlaaDoorSec3
namespace Go.Proofs.YtmpkkhcplfodlaaDoor
open Go.RowKit

theorem ex_year : perV ⟨#[48, 51, 49, 53, 51, 54, 48, 48, 48]⟩ = 31536000 ∧ digitsB ⟨#[48, 51, 49, 53, 51, 54, 48, 48, 48]⟩ = true := by decide +kernel
theorem ex_great : perV ⟨#[57, 57, 57, 57, 57, 57, 57, 57, 57, 57, 57]⟩ = 2147483647 ∧ digitsB ⟨#[57, 57, 57, 57, 57, 57, 57, 57, 57, 57, 57]⟩ = true := by decide +kernel
theorem ex_five : fmtS 5 = ⟨#[53]⟩ := by
  unfold fmtS
  rw [show (lim 5 2147483647).toNat = 5 by decide +kernel, Lib.decDigits_one (by omega)]
  rfl
theorem ex_seven : expV 3 4 = 7 := by decide +kernel

set_option maxHeartbeats 2000000 in
theorem awake4_any (w : World) : Calls Tryd.prog 7 #[] w (Yes w) := by
  have c1 := parse_any ⟨#[48, 51, 49, 53, 51, 54, 48, 48, 48]⟩ w (by decide)
  have c2 := fun W => parse_any ⟨#[57, 57, 57, 57, 57, 57, 57, 57, 57, 57, 57]⟩ W (by decide)
  have c3 := fun W => format_small 5 (by omega) (by omega) W
  have c4 := fun W => expiry_any 3 4 W
  have c5 := fun W => expired_any 7 7 W
  rw [ex_year.1, ex_year.2] at c1
  rw [ex_great.1, ex_great.2] at c2
  rw [ex_five] at c3
  rw [ex_seven] at c4
  go_enter Tryd.func7, Tryd.ntmps7
  go_wp2_with fail
  refine c1.mono ?_
  rintro e w1 ⟨rfl, hb⟩
  go_wp2_with fail
  refine (c2 _).mono ?_
  rintro e w2 ⟨rfl, hb2⟩
  replace hb := hb.trans (hb2.mono hb.size)
  clear hb2
  go_wp2_with fail
  refine (c3 _).mono ?_
  rintro e w' ⟨rfl, rfl⟩
  go_wp2_with fail
  refine (c4 _).mono ?_
  rintro e w' ⟨rfl, rfl⟩
  go_wp2_with fail
  refine (c5 _).mono ?_
  rintro e w' ⟨rfl, rfl⟩
  go_wp2_with fail
  go_ret
  exact ⟨rfl, hb⟩

end Go.Proofs.YtmpkkhcplfodlaaDoor
