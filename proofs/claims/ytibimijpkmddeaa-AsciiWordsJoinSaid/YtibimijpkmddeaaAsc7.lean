/-
  The walks of the statements of layer 1: each returns true.
-/
import Derived.Test.YtibimijpkmddeaaAsc6
namespace Go.Proofs.Ytibimijpkmddeaa
open Go.RowKit

theorem yes_of {w w1 w' : World} {e : Ending} (hb : Below w.heap.size w w1) (h : Yes w1 e w') : Yes w e w' := ⟨h.1, hb.trans (h.2.mono hb.size)⟩

set_option maxHeartbeats 2000000 in
theorem asciiBytes_walk (b : Int) (_ : (Lit.int .u8 b).wf = true) (w : World) : Calls Try.prog 3 #[.int .u8 b] w (Yes w) := by
  go_enter Try.func3, Try.ntmps3
  go_wp2_with (first | (go_at_call 7; refine (isToken_any _ _).mono ?_; rintro e w' ⟨rfl, rfl⟩) | (go_at_call 8; refine (refIsToken_any _ _).mono ?_; rintro e w' ⟨rfl, rfl⟩) | (go_at_call 9; refine (isBlank_any _ _).mono ?_; rintro e w' ⟨rfl, rfl⟩) | (go_at_call 10; refine (refIsBlank_any _ _).mono ?_; rintro e w' ⟨rfl, rfl⟩) | (go_at_call 11; refine (isSpace_any _ _).mono ?_; rintro e w' ⟨rfl, rfl⟩) | (go_at_call 12; refine (refIsSpace_any _ _).mono ?_; rintro e w' ⟨rfl, rfl⟩))
  refine (awake1_any _).mono ?_
  rintro e w1 ⟨rfl, hb⟩
  go_wp2
  go_ret
  exact ⟨rfl, hb⟩

/-- The two strings of a call of Short lie in a new block. -/
theorem short2 (n : Int) (a b : ByteArray) (w : World) (t : TypeId) :
    Calls Try.prog 14 #[.int .i64 n, .slice (some ⟨w.heap.size, 0, none⟩) 2 2] (w.alloc (.cells #[.string a, .string b] t)) fun e w' => e = .returned (.bool (shortB n [a, b])) ∧ w.alloc (.cells #[.string a, .string b] t) = w' :=
  short_any n _ 2 2 [a, b] _ _ (Has.two w _ _ t) (by decide)

theorem shortB_two {n : Int} {a b : ByteArray} (h : shortB n [a, b] = true) : (a.size : Int) ≤ n ∧ (b.size : Int) ≤ n := by
  simpa [shortB] using h
theorem foldB_low (a : ByteArray) : foldB a (lowS a) = true := (foldB_iff _ _).2 (lowS_lowS a).symm
theorem foldB_refl (a : ByteArray) : foldB a a = true := (foldB_iff _ _).2 rfl
theorem foldB_comm (a b : ByteArray) : foldB a b = foldB b a := by
  unfold foldB; exact Bool.eq_iff_iff.2 (by rw [beq_iff_eq, beq_iff_eq]; exact eq_comm)
theorem textsB_refl (l : List ByteArray) : textsB l l = true := by simp [textsB]
theorem wv_map (acc : List (List UInt8)) : wv acc = (acc.map bs).map Value.string := by simp [wv]
theorem wordsFrom_length (l : List UInt8) : ∀ cur, (wordsFrom l cur).length ≤ l.length + 1 := by
  induction l with
  | nil => intro cur; unfold wordsFrom; split <;> simp
  | cons c l ih =>
    intro cur
    unfold wordsFrom
    have h1 := ih []
    have h2 := ih (cur ++ [c])
    split
    · split <;> simp <;> omega
    · simp; omega

set_option maxHeartbeats 4000000 in
theorem asciiText_walk (a b : ByteArray) (_ : a.size ≤ maxLen) (_ : b.size ≤ maxLen) (w : World) : Calls Try.prog 4 #[.string a, .string b] w (Yes w) := by
  by_cases hsh : shortB 2000 [a, b] = true
  · obtain ⟨ha, hbs⟩ := shortB_two hsh
    have hfl := foldB_low a
    have htx := textsB_refl ((wordsL (ls a)).map bs)
    have hwl : (wordsL (ls a)).length ≤ 2001 := by have h := wordsFrom_length (ls a) []; rw [ls_length] at h; unfold wordsL; omega
    go_enter Try.func4, Try.ntmps4
    go_wp2_with fail
    refine (short2 2000 a b _ _).mono ?_
    rintro e w' ⟨rfl, rfl⟩
    have hb := (Below.refl w.heap.size w).alloc (Nat.le_refl _) (.cells #[.string a, .string b] 9)
    generalize w.alloc (.cells #[.string a, .string b] 9) = w1 at *
    go_wp2_with fail
    refine (lower_any a _ (by omega)).mono ?_
    rintro e w2 ⟨rfl, h2⟩
    replace hb := hb.trans (h2.mono hb.size)
    go_wp2_with fail
    refine (refLower_any a _ (by omega)).mono ?_
    rintro e w3 ⟨rfl, h3⟩
    replace hb := hb.trans (h3.mono hb.size)
    go_wp2_with fail
    refine (equalFold_any a b _ (by omega) (by omega)).mono ?_
    rintro e w4 ⟨rfl, h4⟩
    replace hb := hb.trans (h4.mono hb.size)
    go_wp2_with fail
    refine (refEqualFold_any a b _ (by omega) (by omega)).mono ?_
    rintro e w5 ⟨rfl, h5⟩
    replace hb := hb.trans (h5.mono hb.size)
    go_wp2_with fail
    refine (refLower_any a _ (by omega)).mono ?_
    rintro e w6 ⟨rfl, h6⟩
    replace hb := hb.trans (h6.mono hb.size)
    go_wp2_with fail
    refine (equalFold_any a (lowS a) _ (by omega) (by rw [lowS_size]; omega)).mono ?_
    rintro e w7 ⟨rfl, h7⟩
    replace hb := hb.trans (h7.mono hb.size)
    go_wp2_with fail
    refine (trim_any a _ (by omega)).mono ?_
    rintro e w8 ⟨rfl, h8⟩
    replace hb := hb.trans (h8.mono hb.size)
    go_wp2_with fail
    refine (refTrim_any a _ (by omega)).mono ?_
    rintro e w9 ⟨rfl, rfl⟩
    go_wp2_with fail
    refine (words_any a _ (by omega)).mono ?_
    rintro e w10 ⟨v, n, rfl, hown, h10⟩
    replace hb := hb.trans (h10.mono hb.size)
    obtain ⟨A1, c1, rfl, hA1, _⟩ := Has.of_own hown
    clear hown
    go_wp2_with fail
    refine (refWords_any a _ (by omega)).mono ?_
    rintro e w11 ⟨v, n2, rfl, hown, h11⟩
    replace hb := hb.trans (h11.mono hb.size)
    obtain ⟨A2, c2, rfl, hA2, _⟩ := Has.of_own hown
    clear hown
    have hA1' := hA1.below h11
    rw [wv_map] at hA1' hA2
    have hn1 : n ≤ 2001 := by have := hA1'.1; simp at this; omega
    have hn2 : n2 ≤ 2001 := by have := hA2.1; simp at this; omega
    have HA1 := Lib.hid (hA1'.more h11.size)
    have HA2 := Lib.hid hA2
    clear hA1 hA1' hA2
    go_wp2_with fail
    refine (texts_any _ _ _ _ _ _ _ _ _ _ HA1.out HA2.out (by omega) (by omega)).mono ?_
    rintro e w12 ⟨rfl, h12⟩
    replace hb := hb.trans (h12.mono hb.size)
    rw [htx]
    go_wp2_with fail
    refine (digits_any a _ (by omega)).mono ?_
    rintro e w13 ⟨rfl, rfl⟩
    go_wp2_with fail
    refine (refDigits_any a _ (by omega)).mono ?_
    rintro e w13 ⟨rfl, rfl⟩
    go_wp2_with fail
    refine (awake1_any _).mono ?_
    rintro e w14 ⟨rfl, h14⟩
    replace hb := hb.trans (h14.mono hb.size)
    go_wp2
    go_ret
    exact ⟨rfl, hb⟩
  · have hsf : shortB 2000 [a, b] = false := by simpa using hsh
    clear hsh
    go_enter Try.func4, Try.ntmps4
    go_wp2_with fail
    refine (short2 2000 a b _ _).mono ?_
    rintro e w' ⟨rfl, rfl⟩
    have hb := (Below.refl w.heap.size w).alloc (Nat.le_refl _) (.cells #[.string a, .string b] 9)
    generalize w.alloc (.cells #[.string a, .string b] 9) = w1 at *
    go_wp2_with fail
    refine (awake1_any _).mono ?_
    rintro e w2 ⟨rfl, h2⟩
    replace hb := hb.trans (h2.mono hb.size)
    go_wp2
    go_ret
    exact ⟨rfl, hb⟩

end Go.Proofs.Ytibimijpkmddeaa
