/-
  The walk of SecondsOrder: the call returns true.
-/
import Derived.Test.YtmpkkhcplfodlaaDoorSec5
import Derived.Test.YtmpkkhcplfodlaaDoorKeepS
namespace Go.Proofs.YtmpkkhcplfodlaaDoor
open Go.RowKit

theorem empty_of (b : ByteArray) (v : Bool) (h : decide (b.size = 0) = v) : b.toList.isEmpty = v ∧ (b.toList == []) = v := by
  rw [beq_empty, toList_ls, isEmpty_ls]
  exact ⟨h, h⟩

set_option maxHeartbeats 4000000 in
theorem order_walk (a b : ByteArray) (_ha : a.size ≤ maxLen) (_hb : b.size ≤ maxLen) (w : World) :
    Calls Tryd.prog 5 #[.string a, .string b] w (Yes w) := by
  clear _ha _hb
  have hhas := Has.two w (.string a) (.string b) 9
  have hb0 := (Below.refl w.heap.size w).alloc (Nat.le_refl _) (.cells #[.string a, .string b] 9)
  have cs := short_any 3000 (some ⟨w.heap.size, 0, none⟩) 2 2 [a, b] (w.heap.size + 1) (w.alloc (.cells #[.string a, .string b] 9)) hhas (by omega)
  generalize hw1 : w.alloc (.cells #[.string a, .string b] 9) = w1 at *
  have HW := Lib.hid hw1
  by_cases hs : a.size ≤ 3000 ∧ b.size ≤ 3000
  · have e : shortB 3000 [a, b] = true := by simp [shortB]; omega
    rw [e] at cs
    have hsa := hs.1
    have hsb := hs.2
    obtain ⟨P, hP⟩ : ∃ P, ⟨#[49]⟩ ++ a = P := ⟨_, rfl⟩
    obtain ⟨Q, hQ⟩ : ∃ Q, P ++ b = Q := ⟨_, rfl⟩
    have hPs : P.size = 1 + a.size := by rw [← hP, ByteArray.size_append]; rfl
    have hQs : Q.size = P.size + b.size := by rw [← hQ, ByteArray.size_append]
    have c1 := parse_any P w1 (by omega)
    have c2 := fun W => parse_any Q W (by omega)
    have f1 := per_more P b
    have f2 := digits_front P b (by omega)
    rw [hQ] at f1 f2
    generalize perV P = x at *
    generalize perV Q = y at *
    generalize digitsB P = ok at *
    generalize digitsB Q = is at *
    obtain ⟨v, hv⟩ : ∃ v, decide (b.size = 0) = v := ⟨_, rfl⟩
    have hbe := (empty_of b v hv).1
    have hbq := (empty_of b v hv).2
    clear hv e hs hhas
    have n1 : ¬ 9223372036854775807 < 1 + a.size := by omega
    have n2 : ¬ 9223372036854775807 < P.size + b.size := by omega
    clear hPs hQs
    have hcase : (ok = true ∧ is = true ∧ x ≤ y) ∨ (ok = false ∧ is = false) ∨ (ok = true ∧ is = false) := by
      cases ok <;> cases is
      · exact .inr (.inl ⟨rfl, rfl⟩)
      · exact absurd (f2 rfl) (by decide)
      · exact .inr (.inr ⟨rfl, rfl⟩)
      · exact .inl ⟨rfl, rfl, f1 rfl rfl⟩
    clear f1 f2
    rcases hcase with ⟨rfl, rfl, hxy⟩ | ⟨rfl, rfl⟩ | ⟨rfl, rfl⟩
    · cases v
      · go_enter Tryd.func5, Tryd.ntmps5
        go_wp2_with fail
        refine cs.mono ?_
        rintro e w' ⟨rfl, rfl⟩
        go_wp2_with fail
        refine c1.mono ?_
        rintro e w2 ⟨rfl, hb2⟩
        replace hb0 := hb0.trans (hb2.mono hb0.size)
        clear hb2
        go_wp2_with fail
        refine (c2 _).mono ?_
        rintro e w3 ⟨rfl, hb3⟩
        replace hb0 := hb0.trans (hb3.mono hb0.size)
        clear hb3
        go_wp2_with fail
        refine (awake4_any _).mono ?_
        rintro e w4 ⟨rfl, hb4⟩
        replace hb0 := hb0.trans (hb4.mono hb0.size)
        clear hb4
        go_wp2_with fail
        go_ret
        exact ⟨rfl, hb0⟩
      · go_enter Tryd.func5, Tryd.ntmps5
        go_wp2_with fail
        refine cs.mono ?_
        rintro e w' ⟨rfl, rfl⟩
        go_wp2_with fail
        refine c1.mono ?_
        rintro e w2 ⟨rfl, hb2⟩
        replace hb0 := hb0.trans (hb2.mono hb0.size)
        clear hb2
        go_wp2_with fail
        refine (c2 _).mono ?_
        rintro e w3 ⟨rfl, hb3⟩
        replace hb0 := hb0.trans (hb3.mono hb0.size)
        clear hb3
        go_wp2_with fail
        refine (awake4_any _).mono ?_
        rintro e w4 ⟨rfl, hb4⟩
        replace hb0 := hb0.trans (hb4.mono hb0.size)
        clear hb4
        go_wp2_with fail
        go_ret
        exact ⟨rfl, hb0⟩
    · cases v
      · go_enter Tryd.func5, Tryd.ntmps5
        go_wp2_with fail
        refine cs.mono ?_
        rintro e w' ⟨rfl, rfl⟩
        go_wp2_with fail
        refine c1.mono ?_
        rintro e w2 ⟨rfl, hb2⟩
        replace hb0 := hb0.trans (hb2.mono hb0.size)
        clear hb2
        go_wp2_with fail
        refine (c2 _).mono ?_
        rintro e w3 ⟨rfl, hb3⟩
        replace hb0 := hb0.trans (hb3.mono hb0.size)
        clear hb3
        go_wp2_with fail
        refine (awake4_any _).mono ?_
        rintro e w4 ⟨rfl, hb4⟩
        replace hb0 := hb0.trans (hb4.mono hb0.size)
        clear hb4
        go_wp2_with fail
        go_ret
        exact ⟨rfl, hb0⟩
      · go_enter Tryd.func5, Tryd.ntmps5
        go_wp2_with fail
        refine cs.mono ?_
        rintro e w' ⟨rfl, rfl⟩
        go_wp2_with fail
        refine c1.mono ?_
        rintro e w2 ⟨rfl, hb2⟩
        replace hb0 := hb0.trans (hb2.mono hb0.size)
        clear hb2
        go_wp2_with fail
        refine (c2 _).mono ?_
        rintro e w3 ⟨rfl, hb3⟩
        replace hb0 := hb0.trans (hb3.mono hb0.size)
        clear hb3
        go_wp2_with fail
        refine (awake4_any _).mono ?_
        rintro e w4 ⟨rfl, hb4⟩
        replace hb0 := hb0.trans (hb4.mono hb0.size)
        clear hb4
        go_wp2_with fail
        go_ret
        exact ⟨rfl, hb0⟩
    · cases v
      · go_enter Tryd.func5, Tryd.ntmps5
        go_wp2_with fail
        refine cs.mono ?_
        rintro e w' ⟨rfl, rfl⟩
        go_wp2_with fail
        refine c1.mono ?_
        rintro e w2 ⟨rfl, hb2⟩
        replace hb0 := hb0.trans (hb2.mono hb0.size)
        clear hb2
        go_wp2_with fail
        refine (c2 _).mono ?_
        rintro e w3 ⟨rfl, hb3⟩
        replace hb0 := hb0.trans (hb3.mono hb0.size)
        clear hb3
        go_wp2_with fail
        refine (awake4_any _).mono ?_
        rintro e w4 ⟨rfl, hb4⟩
        replace hb0 := hb0.trans (hb4.mono hb0.size)
        clear hb4
        go_wp2_with fail
        go_ret
        exact ⟨rfl, hb0⟩
      · go_enter Tryd.func5, Tryd.ntmps5
        go_wp2_with fail
        refine cs.mono ?_
        rintro e w' ⟨rfl, rfl⟩
        go_wp2_with fail
        refine c1.mono ?_
        rintro e w2 ⟨rfl, hb2⟩
        replace hb0 := hb0.trans (hb2.mono hb0.size)
        clear hb2
        go_wp2_with fail
        refine (c2 _).mono ?_
        rintro e w3 ⟨rfl, hb3⟩
        replace hb0 := hb0.trans (hb3.mono hb0.size)
        clear hb3
        go_wp2_with fail
        refine (awake4_any _).mono ?_
        rintro e w4 ⟨rfl, hb4⟩
        replace hb0 := hb0.trans (hb4.mono hb0.size)
        clear hb4
        go_wp2_with fail
        go_ret
        exact ⟨rfl, hb0⟩
  · have e : shortB 3000 [a, b] = false := by
      simp only [shortB, List.all_cons, List.all_nil, Bool.and_true, Bool.and_eq_false_iff, decide_eq_false_iff_not]
      omega
    rw [e] at cs
    clear hhas hs
    go_enter Tryd.func5, Tryd.ntmps5
    go_wp2_with fail
    refine cs.mono ?_
    rintro e w' ⟨rfl, rfl⟩
    go_wp2_with fail
    refine (awake4_any _).mono ?_
    rintro e w' ⟨rfl, hbw⟩
    go_wp2_with fail
    go_ret
    exact ⟨rfl, hb0.trans (hbw.mono hb0.size)⟩

end Go.Proofs.YtmpkkhcplfodlaaDoor
