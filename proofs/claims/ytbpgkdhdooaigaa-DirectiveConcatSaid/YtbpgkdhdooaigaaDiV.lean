/-
  The walk of DirectiveConcat: the call returns true.
-/
import Derived.Test.YtbpgkdhdooaigaaDiM
import Derived.Test.YtbpgkdhdooaigaaDvN
namespace Go.Proofs.Ytbpgkdhdooaigaa
open Go.RowKit

set_option maxRecDepth 20000 in
set_option maxHeartbeats 8000000 in
theorem walkDiC (a b : ByteArray) (_h1 : a.size ≤ maxLen) (_h2 : b.size ≤ maxLen) (w : World) :
    Calls Try.prog 7 #[.string a, .string b] w (Yes w) := by
  clear _h1 _h2
  have cs := short_any 2000 (some ⟨w.heap.size, 0, none⟩) 2 2 [a, b] _ _ (Has.two w (.string a) (.string b) 9) (by decide)
  have hb0 : Below w.heap.size w (w.alloc (.cells #[.string a, .string b] 9)) := (Below.refl _ _).alloc (Nat.le_refl _) _
  cases hsh : shortB 2000 [a, b] with
  | false =>
    rw [hsh] at cs
    clear hsh
    go_enter Try.func7, Try.ntmps7
    go_wp2_with fail
    refine cs.mono ?_
    rintro e w' ⟨rfl, rfl⟩
    have hb := hb0
    go_wp2_with fail
    refine (awake18_any _).mono ?_
    rintro e wz ⟨rfl, hb2⟩
    replace hb := hb.trans (hb2.mono hb.size)
    clear hb2
    go_wp2
    go_ret
    exact ⟨rfl, hb⟩
  | true =>
    rw [hsh] at cs
    have hz : a.size ≤ 2000 ∧ b.size ≤ 2000 := by
      simp [shortB] at hsh
      omega
    clear hsh
    obtain ⟨l, r, hl⟩ : ∃ l r, dirL (ls a) = (l, r) := ⟨_, _, rfl⟩
    obtain ⟨m, q, hm⟩ : ∃ m q, dirL (ls b) = (m, q) := ⟨_, _, rfl⟩
    have c1 := dirs_at (l := l) (r := r) (fun W => dirParse_any a (by omega) W) hl
    have c2 := dirs_at (l := m) (r := q) (fun W => dirParse_any b (by omega) W) hm
    have hl32 : l.length ≤ 32 := by have := dirL_len (ls a); rw [hl] at this; exact this
    have hm32 : m.length ≤ 32 := by have := dirL_len (ls b); rw [hm] at this; exact this
    by_cases hr : r = 0
    · by_cases hq : q = 0
      · subst hr hq
        by_cases hs : l.length + m.length ≤ 32
        · have t1 : decide ((32 : Int) < (l.length : Int) + (m.length : Int)) = false := decide_eq_false (by omega)
          have n1 : ¬ 32 < l.length + m.length := by omega
          have k1 : ¬ 9223372036854775807 < a.size + 1 := by omega
          have k2 : ¬ 9223372036854775807 < a.size + (⟨#[59]⟩ : ByteArray).size := by rw [show (⟨#[59]⟩ : ByteArray).size = 1 from rfl]; omega
          have k3 : ¬ 9223372036854775807 < a.size + 1 + b.size := by omega
          have k4 : ¬ 9223372036854775807 < (a ++ (⟨#[59]⟩ : ByteArray)).size + b.size := by rw [ByteArray.size_append, show (⟨#[59]⟩ : ByteArray).size = 1 from rfl]; omega
          have hj : dirL (ls (a ++ ⟨#[59]⟩ ++ b)) = (l ++ m, 0) := by
            rw [ls_append, ls_append, List.append_assoc, show ls ⟨#[59]⟩ ++ ls b = 59 :: ls b from rfl]
            exact dirL_join hl hm hs (by rw [ls_length, ls_length]; omega)
          have hsz : (a ++ ⟨#[59]⟩ ++ b).size ≤ 1000000 := by rw [ByteArray.size_append, ByteArray.size_append, show (⟨#[59]⟩ : ByteArray).size = 1 from rfl]; omega
          have c5 : ∀ W, Calls Try.prog 9 #[.string (a ++ ⟨#[59]⟩ ++ b)] W (DvsPost (l ++ m) 0 W) := by
            intro W
            have h5 := dirParse_any (a ++ ⟨#[59]⟩ ++ b) hsz W
            rwa [hj] at h5
          clear hsz
          have hlm : (l ++ m).length = l.length + m.length := by simp
          have HLM := Lib.hid hlm
          obtain ⟨k, hk⟩ : ∃ k, k = l ++ m := ⟨_, rfl⟩
          rw [← hk] at c5 HLM
          have HK := Lib.hid hk
          clear hj hl hm hz hlm hk
          go_enter Try.func7, Try.ntmps7
          go_wp2_with fail
          refine cs.mono ?_
          rintro e w' ⟨rfl, rfl⟩
          have hb := hb0
          go_wp2_with fail
          refine (c1 _).mono ?_
          rintro e w1 ⟨A1, d1, rfl, hc1, hz1, hh1, hb2⟩
          replace hb := hb.trans (hb2.mono hb.size)
          clear hb2
          go_wp2_with fail
          refine (c2 _).mono ?_
          rintro e w2 ⟨A2, d2, rfl, hc2, hz2, hh2, hb2⟩
          replace hh1 := (hh1.below hb2).more hb2.size
          replace hb := hb.trans (hb2.mono hb.size)
          clear hb2
          go_wp2_with fail
          refine (c5 _).mono ?_
          rintro e w3 ⟨A3, d3, rfl, hc3, hz3, hh3, hb2⟩
          replace hh1 := (hh1.below hb2).more hb2.size
          replace hh2 := (hh2.below hb2).more hb2.size
          replace hb := hb.trans (hb2.mono hb.size)
          clear hb2
          have hbA : Below w3.heap.size w3 (w3.alloc (.cells #[] 40)) := (Below.refl _ _).alloc (Nat.le_refl _) _
          have hh1a := hh1.below' hbA (Nat.le_refl _)
          go_wp2_with (first
            | (at_builtin
               refine wpList_wanted (by exact rfl) ?_
               refine wpList_app_dvs _ rfl _ _ (by exact rfl) w3.heap.size _ 0 [] (by exact rfl) (own_dv0 w3) A1 l.length d1 w3.heap.size l (by exact rfl) hz1 hh1a (by omega) hbA (Nat.le_refl _) ?_
               intro v4 w4 hown4 hb4 _
               have hh2a := hh2.below' hb4 (Nat.le_refl _))
            | (at_builtin
               refine wpList_wanted (by exact rfl) ?_
               refine wpList_app_dvs _ rfl _ _ (by exact rfl) w3.heap.size v4 (0 + l.length) ([] ++ l) (by exact rfl) hown4 A2 m.length d2 w3.heap.size m (by exact rfl) hz2 hh2a (by omega) hb4 (Nat.le_refl _) ?_
               intro v5 w5 hown5 hb5 _
               obtain ⟨A6, c6, rfl, hh6, hc6, _⟩ := HasDv.of_own hown5
               have hh3a := (hh3.below' hb5 (Nat.le_refl _)).more hb5.size))
          have hh6a : HasDv w5 w5.heap.size A6 (l.length + m.length) k := by
            have h6 := hh6
            simp only [Nat.zero_add, List.nil_append] at h6
            rw [← HK.out] at h6
            exact h6
          have hc6a : l.length + m.length ≤ c6 := by omega
          replace hb := hb.trans (hb5.mono hb.size)
          refine (dirs_same A3 A6 k.length (l.length + m.length) d3 c6 k w5.heap.size w5 hh3a hh6a (Nat.le_refl _) (by rw [HLM.out]; omega) (by omega) hc3 hc6a).mono ?_
          rintro e w7 ⟨rfl, hb2⟩
          replace hb := hb.trans (hb2.mono hb.size)
          clear hb2
          go_wp2_with fail
          refine (awake18_any _).mono ?_
          rintro e wz ⟨rfl, hb2⟩
          replace hb := hb.trans (hb2.mono hb.size)
          clear hb2
          go_wp2
          go_ret
          exact ⟨rfl, hb⟩
        · have t1 : decide ((32 : Int) < (l.length : Int) + (m.length : Int)) = true := decide_eq_true (by omega)
          have n1 : 32 < l.length + m.length := by omega
          clear hl hm hz hs
          go_enter Try.func7, Try.ntmps7
          go_wp2_with fail
          refine cs.mono ?_
          rintro e w' ⟨rfl, rfl⟩
          have hb := hb0
          go_wp2_with fail
          refine (c1 _).mono ?_
          rintro e w1 ⟨A1, d1, rfl, hc1, hz1, hh1, hb2⟩
          replace hb := hb.trans (hb2.mono hb.size)
          clear hb2
          go_wp2_with fail
          refine (c2 _).mono ?_
          rintro e w2 ⟨A2, d2, rfl, hc2, hz2, hh2, hb2⟩
          replace hh1 := (hh1.below hb2).more hb2.size
          replace hb := hb.trans (hb2.mono hb.size)
          clear hb2
          go_wp2_with fail
          refine (awake18_any _).mono ?_
          rintro e wz ⟨rfl, hb2⟩
          replace hb := hb.trans (hb2.mono hb.size)
          clear hb2
          go_wp2
          go_ret
          exact ⟨rfl, hb⟩
      · have hq' : (q == 0) = false := by simpa using hq
        have hq2 : (q != 0) = true := by rw [bne, hq']; rfl
        subst hr
        clear hl hm hz hq
        go_enter Try.func7, Try.ntmps7
        go_wp2_with fail
        refine cs.mono ?_
        rintro e w' ⟨rfl, rfl⟩
        have hb := hb0
        go_wp2_with fail
        refine (c1 _).mono ?_
        rintro e w1 ⟨A1, d1, rfl, hc1, hz1, hh1, hb2⟩
        replace hb := hb.trans (hb2.mono hb.size)
        clear hb2
        go_wp2_with fail
        refine (c2 _).mono ?_
        rintro e w2 ⟨A2, d2, rfl, hc2, hz2, hh2, hb2⟩
        replace hh1 := (hh1.below hb2).more hb2.size
        replace hb := hb.trans (hb2.mono hb.size)
        clear hb2
        go_wp2_with fail
        refine (awake18_any _).mono ?_
        rintro e wz ⟨rfl, hb2⟩
        replace hb := hb.trans (hb2.mono hb.size)
        clear hb2
        go_wp2
        go_ret
        exact ⟨rfl, hb⟩
    · have hr' : (r == 0) = false := by simpa using hr
      have hr2 : (r != 0) = true := by rw [bne, hr']; rfl
      clear hl hm hz hr
      go_enter Try.func7, Try.ntmps7
      go_wp2_with fail
      refine cs.mono ?_
      rintro e w' ⟨rfl, rfl⟩
      have hb := hb0
      go_wp2_with fail
      refine (c1 _).mono ?_
      rintro e w1 ⟨A1, d1, rfl, hc1, hz1, hh1, hb2⟩
      replace hb := hb.trans (hb2.mono hb.size)
      clear hb2
      go_wp2_with fail
      refine (c2 _).mono ?_
      rintro e w2 ⟨A2, d2, rfl, hc2, hz2, hh2, hb2⟩
      replace hh1 := (hh1.below hb2).more hb2.size
      replace hb := hb.trans (hb2.mono hb.size)
      clear hb2
      go_wp2_with fail
      refine (awake18_any _).mono ?_
      rintro e wz ⟨rfl, hb2⟩
      replace hb := hb.trans (hb2.mono hb.size)
      clear hb2
      go_wp2
      go_ret
      exact ⟨rfl, hb⟩

end Go.Proofs.Ytbpgkdhdooaigaa
