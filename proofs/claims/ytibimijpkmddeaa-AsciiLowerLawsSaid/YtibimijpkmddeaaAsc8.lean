/-
  The walk of AsciiLowerLaws: it returns true.
-/
import Derived.Test.YtibimijpkmddeaaAsc7
namespace Go.Proofs.Ytibimijpkmddeaa
open Go.RowKit

set_option maxHeartbeats 4000000 in
theorem asciiLower_walk (a b : ByteArray) (_ : a.size ≤ maxLen) (_ : b.size ≤ maxLen) (w : World) : Calls Try.prog 5 #[.string a, .string b] w (Yes w) := by
  by_cases hsh : shortB 2000 [a, b] = true
  · obtain ⟨ha, hbs⟩ := shortB_two hsh
    have hla := lowS_size a
    have hlb := lowS_size b
    have hll := lowS_lowS a
    have hap := lowS_append a b
    have hrf := foldB_refl a
    have HF : Hid (((lowS a).toList == (lowS b).toList) = foldB a b) := by
      show _ = _
      rw [toList_ls, toList_ls]; rfl
    have HC := Lib.hid (foldB_comm b a)
    go_enter Try.func5, Try.ntmps5
    go_wp2_with fail
    refine (short2 2000 a b _ _).mono ?_
    rintro e w' ⟨rfl, rfl⟩
    have hb := (Below.refl w.heap.size w).alloc (Nat.le_refl _) (.cells #[.string a, .string b] 9)
    generalize w.alloc (.cells #[.string a, .string b] 9) = w1 at *
    go_wp2_with fail
    refine (lower_any a _ (by omega)).mono ?_
    rintro e w2 ⟨rfl, h2⟩
    replace hb := hb.trans (h2.mono hb.size)
    go_wp2_with fail
    refine (lower_any (lowS a) _ (by omega)).mono ?_
    rintro e w3 ⟨rfl, h3⟩
    replace hb := hb.trans (h3.mono hb.size)
    go_wp2_with fail
    refine (lower_any (a ++ b) _ (by rw [ByteArray.size_append]; omega)).mono ?_
    rintro e w4 ⟨rfl, h4⟩
    replace hb := hb.trans (h4.mono hb.size)
    go_wp2_with fail
    refine (lower_any b _ (by omega)).mono ?_
    rintro e w5 ⟨rfl, h5⟩
    replace hb := hb.trans (h5.mono hb.size)
    go_wp2_with fail
    refine (equalFold_any a a _ (by omega) (by omega)).mono ?_
    rintro e w6 ⟨rfl, h6⟩
    replace hb := hb.trans (h6.mono hb.size)
    go_wp2_with fail
    refine (equalFold_any a b _ (by omega) (by omega)).mono ?_
    rintro e w7 ⟨rfl, h7⟩
    replace hb := hb.trans (h7.mono hb.size)
    go_wp2_with fail
    refine (equalFold_any b a _ (by omega) (by omega)).mono ?_
    rintro e w8 ⟨rfl, h8⟩
    replace hb := hb.trans (h8.mono hb.size)
    rw [HC.out]
    go_wp2_with fail
    refine (equalFold_any a b _ (by omega) (by omega)).mono ?_
    rintro e w9 ⟨rfl, h9⟩
    replace hb := hb.trans (h9.mono hb.size)
    go_wp2_with fail
    refine (lower_any b _ (by omega)).mono ?_
    rintro e w10 ⟨rfl, h10⟩
    replace hb := hb.trans (h10.mono hb.size)
    have hf := HF.out
    go_wp2_with fail
    refine (awake1_any _).mono ?_
    rintro e w11 ⟨rfl, h11⟩
    replace hb := hb.trans (h11.mono hb.size)
    go_wp2
    go_ret
    exact ⟨rfl, hb⟩
  · have hsf : shortB 2000 [a, b] = false := by simpa using hsh
    clear hsh
    go_enter Try.func5, Try.ntmps5
    go_wp2_with fail
    refine (short2 2000 a b _ _).mono ?_
    rintro e w' ⟨rfl, rfl⟩
    have hb := (Below.refl w.heap.size w).alloc (Nat.le_refl _) (.cells #[.string a, .string b] 9)
    generalize w.alloc (.cells #[.string a, .string b] 9) = w1 at *
    go_wp2_with fail
    refine (awake1_any _).mono ?_
    rintro e w2 ⟨rfl, h2⟩
    replace hb := hb.trans (h2.mono hb.size)
    go_wp2
    go_ret
    exact ⟨rfl, hb⟩

end Go.Proofs.Ytibimijpkmddeaa
