/-
  Awake of layer 13; the walks of its statements: each returns true.
-/
import Derived.Test.YtoieapdfpbcfpaaDoorLabA
import Derived.Test.YtoieapdfpbcfpaaDoorYes
import Derived.Test.YtoieapdfpbcfpaaDoorLbW
import Derived.Test.YtoieapdfpbcfpaaDoorKeepS
namespace Go.Proofs.YtoieapdfpbcfpaaDoor
open Go.RowKit

set_option maxRecDepth 20000 in
set_option maxHeartbeats 2000000 in
theorem awake13_any (hV : LbVal 12) (hA : LbTA 8) (hU : LbTU 10) (w : World) (hT : U8 w) :
    Calls Tryd.prog 7 #[] w (Yes w) := by
  have c1 := hA ⟨#[66, 195, 188, 99, 104, 101, 114]⟩ w (by decide) hT
  rw [show toA (ls ⟨#[66, 195, 188, 99, 104, 101, 114]⟩) = (0, exX) from ex_toA, show bs ((0 : Nat), exX).2 = ⟨#[120, 110, 45, 45, 98, 99, 104, 101, 114, 45, 107, 118, 97]⟩ from rfl] at c1
  have c2 := fun W => hU ⟨#[120, 110, 45, 45, 98, 99, 104, 101, 114, 45, 107, 118, 97]⟩ W (by decide)
  rw [show toU (ls ⟨#[120, 110, 45, 45, 98, 99, 104, 101, 114, 45, 107, 118, 97]⟩) = (0, [98, 195, 188, 99, 104, 101, 114]) from ex_toU, show bs ((0 : Nat), ([98, 195, 188, 99, 104, 101, 114] : List UInt8)).2 = ⟨#[98, 195, 188, 99, 104, 101, 114]⟩ from rfl] at c2
  have c3 := fun W hW => hA ⟨#[45, 97]⟩ W (by decide) hW
  rw [show toA (ls ⟨#[45, 97]⟩) = (14, []) from ex_no, show bs ((14 : Nat), ([] : List UInt8)).2 = ⟨#[]⟩ from rfl] at c3
  have c4 := fun W => hV ⟨#[97, 95, 49]⟩ W (by decide)
  rw [show labL (ls ⟨#[97, 95, 49]⟩) = true from ex_val] at c4
  have HT := Lib.hid hT
  clear hT
  go_enter Tryd.func7, Tryd.ntmps7
  go_wp2_with fail
  refine c1.mono ?_
  rintro e w1 ⟨rfl, hb⟩
  go_wp2_with fail
  refine (c2 _).mono ?_
  rintro e w2 ⟨rfl, hb2⟩
  replace hb2 := hb.trans (hb2.mono hb.size)
  have c5 := c3 w2 (u8_below HT.out hb2)
  go_wp2_with fail
  refine c5.mono ?_
  rintro e w3 ⟨rfl, hb3⟩
  replace hb3 := hb2.trans (hb3.mono hb2.size)
  clear c5
  go_wp2_with fail
  refine (c4 _).mono ?_
  rintro e w4 ⟨rfl, hb4⟩
  replace hb4 := hb3.trans (hb4.mono hb3.size)
  go_wp2
  go_ret
  exact ⟨rfl, hb4⟩


set_option maxRecDepth 20000 in
set_option maxHeartbeats 4000000 in
theorem walkLabMat (hV : LbVal 12) (hA : LbTA 8) (hU : LbTU 10) (s : ByteArray) (w : World) (_ : s.size ≤ maxLen) (hT : U8 w) :
    Calls Tryd.prog 3 #[.string s] w (Yes w) := by
  have c9 := fun W hW => awake13_any hV hA hU W hW
  by_cases hlen : 1200 < s.size
  · have hd : decide ((1200 : Int) < (s.size : Int)) = true := decide_eq_true (by omega)
    go_enter Tryd.func3, Tryd.ntmps3
    go_wp2_with fail
    refine (c9 _ hT).mono ?_
    rintro r w2 ⟨rfl, hb2⟩
    go_wp2
    go_ret
    exact ⟨rfl, hb2⟩
  · have hd : decide ((1200 : Int) < (s.size : Int)) = false := decide_eq_false (by omega)
    have c1 := hA s w (by omega) hT
    have c2 := fun W => refToA_any s W (by omega)
    have c3 := fun W => hU s W (by omega)
    have c4 := fun W => refToU_any s W (by omega)
    have c5 := fun W => hV s W (by omega)
    have c6 := fun W => refLab_any s W (by omega)
    obtain ⟨n1, hn1⟩ : ∃ n, n = (toA (ls s)).1 := ⟨_, rfl⟩
    obtain ⟨X, hX⟩ : ∃ X, X = bs (toA (ls s)).2 := ⟨_, rfl⟩
    obtain ⟨n2, hn2⟩ : ∃ n, n = (toU (ls s)).1 := ⟨_, rfl⟩
    obtain ⟨Y, hY⟩ : ∃ Y, Y = bs (toU (ls s)).2 := ⟨_, rfl⟩
    obtain ⟨q, hq⟩ : ∃ q, q = labL (ls s) := ⟨_, rfl⟩
    rw [← hn1, ← hX] at c1
    simp only [← hn1, ← hX] at c2
    simp only [← hn2, ← hY] at c3 c4
    simp only [← hq] at c5 c6
    have e1 : (X.toList == X.toList) = true := by simp
    have e2 : (Y.toList == Y.toList) = true := by simp
    have e3 : ((n1 : Int) == (n1 : Int)) = true := by simp
    have e4 : ((n2 : Int) == (n2 : Int)) = true := by simp
    have e5 : (q == q) = true := by simp
    have HT := Lib.hid hT
    clear hn1 hX hn2 hY hq hT
    go_enter Tryd.func3, Tryd.ntmps3
    go_wp2_with fail
    refine c1.mono ?_
    rintro r w1 ⟨rfl, hb⟩
    go_wp2_with fail
    refine (c2 _).mono ?_
    rintro r w2 ⟨rfl, hb2⟩
    replace hb2 := hb.trans (hb2.mono hb.size)
    go_wp2_with fail
    refine (c3 _).mono ?_
    rintro r w3 ⟨rfl, hb3⟩
    replace hb3 := hb2.trans (hb3.mono hb2.size)
    go_wp2_with fail
    refine (c4 _).mono ?_
    rintro r w4 ⟨rfl, hb4⟩
    replace hb4 := hb3.trans (hb4.mono hb3.size)
    go_wp2_with fail
    refine (c5 _).mono ?_
    rintro r w5 ⟨rfl, hb5⟩
    replace hb5 := hb4.trans (hb5.mono hb4.size)
    go_wp2_with fail
    refine (c6 _).mono ?_
    rintro r w6 ⟨rfl, hb6⟩
    replace hb6 := hb5.trans (hb6.mono hb5.size)
    have c7 := c9 w6 (u8_below HT.out hb6)
    go_wp2_with fail
    refine c7.mono ?_
    rintro r w7 ⟨rfl, hb7⟩
    replace hb7 := hb6.trans (hb7.mono hb6.size)
    clear c7
    go_wp2
    go_ret
    exact ⟨rfl, hb7⟩

set_option maxRecDepth 20000 in
set_option maxHeartbeats 4000000 in
theorem walkLabRT (hV : LbVal 12) (hA : LbTA 8) (hU : LbTU 10) (s : ByteArray) (w : World) (_ : s.size ≤ maxLen) (hT : U8 w) :
    Calls Tryd.prog 4 #[.string s] w (Yes w) := by
  have c9 := fun W hW => awake13_any hV hA hU W hW
  by_cases hlen : 1200 < s.size
  · have hd : decide ((1200 : Int) < (s.size : Int)) = true := decide_eq_true (by omega)
    go_enter Tryd.func4, Tryd.ntmps4
    go_wp2_with fail
    refine (c9 _ hT).mono ?_
    rintro r w2 ⟨rfl, hb2⟩
    go_wp2
    go_ret
    exact ⟨rfl, hb2⟩
  · have hd : decide ((1200 : Int) < (s.size : Int)) = false := decide_eq_false (by omega)
    have c1 := hU s w (by omega)
    have c2 := fun W => hV s W (by omega)
    have HT := Lib.hid hT
    rcases toU_cases (ls s) with ⟨hl, h0⟩ | ⟨hl, h0⟩
    · have hAU := toA_toU hl
      have hXs : (bs (toU (ls s)).2).size ≤ 1000000000 := by rw [bs_size]; have := toU_len (l := ls s); omega
      have c3 := fun W hW => hA (bs (toU (ls s)).2) W hXs hW
      rw [ls_bs, hAU, show bs ((0 : Nat), ls s).2 = s from bs_ls s] at c3
      rw [h0] at c1
      rw [hl] at c2
      obtain ⟨X, hX⟩ : ∃ X, X = bs (toU (ls s)).2 := ⟨_, rfl⟩
      rw [← hX] at c1
      simp only [← hX] at c3
      have e1 : (s.toList == s.toList) = true := by simp
      clear hl h0 hAU hXs hX hT
      go_enter Tryd.func4, Tryd.ntmps4
      go_wp2_with fail
      refine c1.mono ?_
      rintro r w1 ⟨rfl, hb⟩
      go_wp2_with fail
      refine (c2 _).mono ?_
      rintro r w2 ⟨rfl, hb2⟩
      replace hb2 := hb.trans (hb2.mono hb.size)
      have c4 := c3 w2 (u8_below HT.out hb2)
      go_wp2_with fail
      refine c4.mono ?_
      rintro r w3 ⟨rfl, hb3⟩
      replace hb3 := hb2.trans (hb3.mono hb2.size)
      clear c4 c3
      have c5 := c9 w3 (u8_below HT.out hb3)
      go_wp2_with fail
      refine c5.mono ?_
      rintro r w4 ⟨rfl, hb4⟩
      replace hb4 := hb3.trans (hb4.mono hb3.size)
      clear c5
      go_wp2
      go_ret
      exact ⟨rfl, hb4⟩
    · rw [h0, show bs ((14 : Nat), ([] : List UInt8)).2 = ⟨#[]⟩ from rfl] at c1
      rw [hl] at c2
      clear hl h0 hT
      go_enter Tryd.func4, Tryd.ntmps4
      go_wp2_with fail
      refine c1.mono ?_
      rintro r w1 ⟨rfl, hb⟩
      go_wp2_with fail
      refine (c2 _).mono ?_
      rintro r w2 ⟨rfl, hb2⟩
      replace hb2 := hb.trans (hb2.mono hb.size)
      have c5 := c9 w2 (u8_below HT.out hb2)
      go_wp2_with fail
      refine c5.mono ?_
      rintro r w4 ⟨rfl, hb4⟩
      replace hb4 := hb2.trans (hb4.mono hb2.size)
      clear c5
      go_wp2
      go_ret
      exact ⟨rfl, hb4⟩

set_option maxRecDepth 20000 in
set_option maxHeartbeats 4000000 in
theorem walkLabSt (hV : LbVal 12) (hA : LbTA 8) (hU : LbTU 10) (s : ByteArray) (w : World) (_ : s.size ≤ maxLen) (hT : U8 w) :
    Calls Tryd.prog 5 #[.string s] w (Yes w) := by
  have c9 := fun W hW => awake13_any hV hA hU W hW
  by_cases hlen : 1200 < s.size
  · have hd : decide ((1200 : Int) < (s.size : Int)) = true := decide_eq_true (by omega)
    go_enter Tryd.func5, Tryd.ntmps5
    go_wp2_with fail
    refine (c9 _ hT).mono ?_
    rintro r w2 ⟨rfl, hb2⟩
    go_wp2
    go_ret
    exact ⟨rfl, hb2⟩
  · have hd : decide ((1200 : Int) < (s.size : Int)) = false := decide_eq_false (by omega)
    have c1 := hA s w (by omega) hT
    have cL := fun W => refLower_any s W (by omega)
    have c2 := fun W hW => hA (lowS s) W (by rw [lowS_size]; omega) hW
    rw [show ls (lowS s) = lowL (ls s) from rfl, toA_low] at c2
    have HT := Lib.hid hT
    rcases toA_cases (ls s) with ⟨h0, hl⟩ | ⟨h0, hl⟩
    · rw [h0] at c1
      simp only [h0] at c2
      obtain ⟨O, hO⟩ : ∃ O, O = (toA (ls s)).2 := ⟨_, rfl⟩
      rw [← hO] at c1 hl
      simp only [← hO] at c2
      obtain ⟨_, _, h63⟩ := lab_all hl
      have hXs : (bs O).size ≤ 1000000000 := by rw [bs_size]; omega
      have c3 := fun W hW => hA (bs O) W hXs hW
      rw [ls_bs, toA_lab hl] at c3
      have c4 := fun W => hV (bs O) W hXs
      rw [ls_bs, hl] at c4
      obtain ⟨X, hX⟩ : ∃ X, X = bs O := ⟨_, rfl⟩
      rw [show bs ((0 : Nat), O).2 = bs O from rfl] at c3
      rw [← hX] at c1
      simp only [← hX] at c2 c3 c4
      have hX63 : X.size ≤ 63 := by rw [hX, bs_size]; exact h63
      have e0 : decide ((X.size : Int) ≤ 63) = true := decide_eq_true (by omega)
      have e0N : decide (X.size ≤ 63) = true := decide_eq_true hX63
      have e1 : (X.toList == X.toList) = true := by simp
      have e2 : (X.toList != X.toList) = false := by simp
      clear h0 hl hO h63 hXs hX hT
      go_enter Tryd.func5, Tryd.ntmps5
      go_wp2_with fail
      refine c1.mono ?_
      rintro r w1 ⟨rfl, hb⟩
      go_wp2_with fail
      refine (cL _).mono ?_
      rintro r w2 ⟨rfl, hb2⟩
      replace hb2 := hb.trans (hb2.mono hb.size)
      have c5 := c2 w2 (u8_below HT.out hb2)
      go_wp2_with fail
      refine c5.mono ?_
      rintro r w3 ⟨rfl, hb3⟩
      replace hb3 := hb2.trans (hb3.mono hb2.size)
      clear c5 c2
      have c6 := c3 w3 (u8_below HT.out hb3)
      go_wp2_with fail
      refine c6.mono ?_
      rintro r w4 ⟨rfl, hb4⟩
      replace hb4 := hb3.trans (hb4.mono hb3.size)
      clear c6 c3
      go_wp2_with fail
      refine (c4 _).mono ?_
      rintro r w5 ⟨rfl, hb5⟩
      replace hb5 := hb4.trans (hb5.mono hb4.size)
      have c7 := c9 w5 (u8_below HT.out hb5)
      go_wp2_with fail
      refine c7.mono ?_
      rintro r w6 ⟨rfl, hb6⟩
      replace hb6 := hb5.trans (hb6.mono hb5.size)
      clear c7
      go_wp2
      go_ret
      exact ⟨rfl, hb6⟩
    · rw [hl] at c1
      simp only [hl] at c2
      obtain ⟨n, hn⟩ : ∃ n, n = (toA (ls s)).1 := ⟨_, rfl⟩
      rw [← hn] at c1 h0
      simp only [← hn] at c2
      rw [show bs ([] : List UInt8) = ⟨#[]⟩ from rfl] at c1
      simp only [show bs ([] : List UInt8) = ⟨#[]⟩ from rfl] at c2
      have e1 : ((n : Int) != (n : Int)) = false := by simp
      have e2 : ((n : Int) != 0) = true := by rw [bne_iff_ne]; omega
      have e2N : (n != 0) = true := by rw [bne_iff_ne]; exact h0
      clear h0 hl hn hT
      go_enter Tryd.func5, Tryd.ntmps5
      go_wp2_with fail
      refine c1.mono ?_
      rintro r w1 ⟨rfl, hb⟩
      go_wp2_with fail
      refine (cL _).mono ?_
      rintro r w2 ⟨rfl, hb2⟩
      replace hb2 := hb.trans (hb2.mono hb.size)
      have c5 := c2 w2 (u8_below HT.out hb2)
      go_wp2_with fail
      refine c5.mono ?_
      rintro r w3 ⟨rfl, hb3⟩
      replace hb3 := hb2.trans (hb3.mono hb2.size)
      clear c5 c2
      have c7 := c9 w3 (u8_below HT.out hb3)
      go_wp2_with fail
      refine c7.mono ?_
      rintro r w6 ⟨rfl, hb6⟩
      replace hb6 := hb3.trans (hb6.mono hb3.size)
      clear c7
      go_wp2
      go_ret
      exact ⟨rfl, hb6⟩

theorem short2L (n : Int) (a b : ByteArray) (w : World) (t : TypeId) :
    Calls Tryd.prog 15 #[.int .i64 n, .slice (some ⟨w.heap.size, 0, none⟩) 2 2] (w.alloc (.cells #[.string a, .string b] t)) fun e w' => e = .returned (.bool (shortB n [a, b])) ∧ w.alloc (.cells #[.string a, .string b] t) = w' :=
  short_any n _ 2 2 [a, b] _ _ (Has.two w _ _ t) (by decide)
theorem u8_alloc {w : World} (h : U8 w) (o : Obj) : U8 (w.alloc o) := u8_below h ((Below.refl _ _).alloc (Nat.le_refl _) o)

set_option maxRecDepth 20000 in
set_option maxHeartbeats 4000000 in
theorem walkLabInj (hV : LbVal 12) (hA : LbTA 8) (hU : LbTU 10) (s t : ByteArray) (w : World) (_ : s.size ≤ maxLen) (_ : t.size ≤ maxLen) (hT : U8 w) :
    Calls Tryd.prog 6 #[.string s, .string t] w (Yes w) := by
  have c9 := fun W hW => awake13_any hV hA hU W hW
  have HT := Lib.hid (u8_alloc hT (.cells #[.string s, .string t] 9))
  have hb0 := (Below.refl w.heap.size w).alloc (Nat.le_refl _) (.cells #[.string s, .string t] 9)
  by_cases hsh : shortB 300 [s, t] = true
  · have hst : (s.size : Int) ≤ 300 ∧ (t.size : Int) ≤ 300 := by simpa [shortB] using hsh
    have c1 := fun W => hU s W (by omega)
    have c2 := fun W => hU t W (by omega)
    obtain ⟨n1, hn1⟩ : ∃ n, n = (toU (ls s)).1 := ⟨_, rfl⟩
    obtain ⟨X, hX⟩ : ∃ X, X = bs (toU (ls s)).2 := ⟨_, rfl⟩
    obtain ⟨n2, hn2⟩ : ∃ n, n = (toU (ls t)).1 := ⟨_, rfl⟩
    obtain ⟨Y, hY⟩ : ∃ Y, Y = bs (toU (ls t)).2 := ⟨_, rfl⟩
    simp only [← hn1, ← hX] at c1
    simp only [← hn2, ← hY] at c2
    have hkey : n1 ≠ 0 ∨ (n1 = 0 ∧ n2 ≠ 0) ∨ (n1 = 0 ∧ n2 = 0 ∧ (X.toList == Y.toList) = (s.toList == t.toList)) := by
      by_cases z1 : n1 = 0
      · by_cases z2 : n2 = 0
        · refine .inr (.inr ⟨z1, z2, ?_⟩)
          rcases toU_cases (ls s) with ⟨l1, g1⟩ | ⟨l1, g1⟩
          · rcases toU_cases (ls t) with ⟨l2, g2⟩ | ⟨l2, g2⟩
            · rw [hX, hY, toList_ls, toList_ls, toList_ls, toList_ls, ls_bs, ls_bs]
              by_cases he : ls s = ls t
              · rw [he]; simp
              · have : ¬ (toU (ls s)).2 = (toU (ls t)).2 := fun h => he (toU_inj l1 l2 h)
                rw [beq_false_of_ne this, beq_false_of_ne he]
            · rw [g2] at hn2
              rw [hn2] at z2
              cases z2
          · rw [g1] at hn1
            rw [hn1] at z1
            cases z1
        · exact .inr (.inl ⟨z1, z2⟩)
      · exact .inl z1
    clear hn1 hX hn2 hY hT
    rcases hkey with z1 | ⟨z1, z2⟩ | ⟨z1, z2, hz⟩
    · have e1 : ((n1 : Int) != 0) = true := by rw [bne_iff_ne]; omega
      have e1N : (n1 != 0) = true := by rw [bne_iff_ne]; exact z1
      clear z1 hst
      go_enter Tryd.func6, Tryd.ntmps6
      go_wp2_with fail
      refine (short2L 300 s t _ _).mono ?_
      rintro r w1 ⟨rfl, rfl⟩
      rw [hsh]
      generalize w.alloc (.cells #[.string s, .string t] 9) = w1 at *
      go_wp2_with fail
      refine (c1 _).mono ?_
      rintro r w2 ⟨rfl, hb2⟩
      go_wp2_with fail
      refine (c2 _).mono ?_
      rintro r w3 ⟨rfl, hb3⟩
      replace hb3 := hb2.trans (hb3.mono hb2.size)
      have c7 := c9 w3 (u8_below HT.out hb3)
      replace hb3 := hb0.trans (hb3.mono hb0.size)
      go_wp2_with fail
      refine c7.mono ?_
      rintro r w6 ⟨rfl, hb6⟩
      replace hb6 := hb3.trans (hb6.mono hb3.size)
      clear c7
      go_wp2
      go_ret
      exact ⟨rfl, hb6⟩
    · subst z1
      have e1 : ((n2 : Int) != 0) = true := by rw [bne_iff_ne]; omega
      have e1N : (n2 != 0) = true := by rw [bne_iff_ne]; exact z2
      clear z2 hst
      go_enter Tryd.func6, Tryd.ntmps6
      go_wp2_with fail
      refine (short2L 300 s t _ _).mono ?_
      rintro r w1 ⟨rfl, rfl⟩
      rw [hsh]
      generalize w.alloc (.cells #[.string s, .string t] 9) = w1 at *
      go_wp2_with fail
      refine (c1 _).mono ?_
      rintro r w2 ⟨rfl, hb2⟩
      go_wp2_with fail
      refine (c2 _).mono ?_
      rintro r w3 ⟨rfl, hb3⟩
      replace hb3 := hb2.trans (hb3.mono hb2.size)
      have c7 := c9 w3 (u8_below HT.out hb3)
      replace hb3 := hb0.trans (hb3.mono hb0.size)
      go_wp2_with fail
      refine c7.mono ?_
      rintro r w6 ⟨rfl, hb6⟩
      replace hb6 := hb3.trans (hb6.mono hb3.size)
      clear c7
      go_wp2
      go_ret
      exact ⟨rfl, hb6⟩
    · subst z1 z2
      obtain ⟨q, hq⟩ : ∃ q, (s.toList == t.toList) = q := ⟨_, rfl⟩
      rw [hq] at hz
      have e1 : (q == q) = true := by simp
      clear hst
      cases q
      all_goals
        go_enter Tryd.func6, Tryd.ntmps6
        go_wp2_with fail
        refine (short2L 300 s t _ _).mono ?_
        rintro r w1 ⟨rfl, rfl⟩
        rw [hsh]
        generalize w.alloc (.cells #[.string s, .string t] 9) = w1 at *
        go_wp2_with fail
        refine (c1 _).mono ?_
        rintro r w2 ⟨rfl, hb2⟩
        go_wp2_with fail
        refine (c2 _).mono ?_
        rintro r w3 ⟨rfl, hb3⟩
        replace hb3 := hb2.trans (hb3.mono hb2.size)
        have c7 := c9 w3 (u8_below HT.out hb3)
        replace hb3 := hb0.trans (hb3.mono hb0.size)
        go_wp2_with fail
        refine c7.mono ?_
        rintro r w6 ⟨rfl, hb6⟩
        replace hb6 := hb3.trans (hb6.mono hb3.size)
        clear c7
        go_wp2
        go_ret
        exact ⟨rfl, hb6⟩
  · rw [Bool.not_eq_true] at hsh
    clear hT
    go_enter Tryd.func6, Tryd.ntmps6
    go_wp2_with fail
    refine (short2L 300 s t _ _).mono ?_
    rintro r w1 ⟨rfl, rfl⟩
    rw [hsh]
    generalize w.alloc (.cells #[.string s, .string t] 9) = w1 at *
    have c7 := c9 w1 HT.out
    go_wp2_with fail
    refine c7.mono ?_
    rintro r w6 ⟨rfl, hb6⟩
    replace hb6 := hb0.trans (hb6.mono hb0.size)
    clear c7
    go_wp2
    go_ret
    exact ⟨rfl, hb6⟩

end Go.Proofs.YtoieapdfpbcfpaaDoor
