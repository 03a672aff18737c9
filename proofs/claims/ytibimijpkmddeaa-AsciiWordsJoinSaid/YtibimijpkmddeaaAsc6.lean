/-
  The fixed examples of the statements of layer 1 (awake) hold.
-/
import Derived.Test.YtibimijpkmddeaaAsc4
import Derived.Test.YtibimijpkmddeaaAsc5
import Derived.Test.YtibimijpkmddeaaAscT
import Derived.Test.YtibimijpkmddeaaKeep
namespace Go.Proofs.Ytibimijpkmddeaa
open Go.RowKit

def Yes (w : World) (e : Ending) (w' : World) : Prop := e = .returned (.bool true) ∧ Below w.heap.size w w'

theorem ex_lower : (lowS ⟨#[65, 45, 98]⟩).toList = [97, 45, 98] := by decide +kernel
theorem ex_words : wordsL (ls ⟨#[32, 97, 9, 98, 32]⟩) = [[97], [98]] := by decide +kernel
theorem ex_token : tokenB 97 = true := by decide +kernel
theorem ex_trim : (trimS ⟨#[32, 120, 9]⟩).toList = [120] := by decide +kernel
theorem ex_digits : digitsB ⟨#[49, 50]⟩ = true := by decide +kernel

set_option maxHeartbeats 2000000 in
theorem awake1_any (w : World) : Calls Try.prog 13 #[] w (Yes w) := by
  have h1 := ex_lower
  have h4 := ex_trim
  go_enter Try.func13, Try.ntmps13
  go_wp2_with fail
  refine (lower_any _ _ (by decide)).mono ?_
  rintro e w1 ⟨rfl, hb1⟩
  go_wp2_with fail
  refine (words_any _ _ (by decide)).mono ?_
  rintro e w2 ⟨v, n, rfl, hown, hb2⟩
  obtain ⟨A, c, rfl, hhas, _⟩ := Has.of_own hown
  obtain rfl : 2 = n := by have := hhas.1; rw [ex_words] at this; exact this
  clear hown hhas
  go_wp2_with fail
  refine (isToken_any _ _).mono ?_
  rintro e w3 ⟨rfl, rfl⟩
  rw [ex_token]
  go_wp2_with fail
  refine (trim_any _ _ (by decide)).mono ?_
  rintro e w4 ⟨rfl, hb4⟩
  go_wp2_with fail
  refine (digits_any _ _ (by decide)).mono ?_
  rintro e w5 ⟨rfl, rfl⟩
  rw [ex_digits]
  go_wp2_with fail
  go_ret
  exact ⟨rfl, hb1.trans ((hb2.trans (hb4.mono hb2.size)).mono hb1.size)⟩

end Go.Proofs.Ytibimijpkmddeaa
