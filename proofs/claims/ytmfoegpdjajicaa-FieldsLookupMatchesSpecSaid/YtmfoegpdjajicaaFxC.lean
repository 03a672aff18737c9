/-
  The walk of FieldsLookupMatchesSpec: it returns true.
-/
import Derived.Test.YtmfoegpdjajicaaFeW
import Derived.Test.YtmfoegpdjajicaaFeH
import Derived.Test.YtmfoegpdjajicaaFdS
import Derived.Test.YtmfoegpdjajicaaFdB
import Derived.Test.YtmfoegpdjajicaaKeepQ
import Derived.Test.YtmfoegpdjajicaaFdO
namespace Go.Proofs.Ytmfoegpdjajicaa
open Go.RowKit

theorem textsB_self (xs : List ByteArray) : textsB xs xs = true := by simp [textsB]
theorem wv_map (L : List (List UInt8)) : wv L = (L.map bs).map Value.string := by unfold wv; rw [List.map_map]; rfl

set_option maxRecDepth 20000 in
set_option maxHeartbeats 4000000 in
theorem walkFLook (A : Option Addr) (n cap : Nat) (s : ByteArray) (w : World) (hI : ∃ l, InFd w A n cap l) (_ : s.size ≤ maxLen) :
    Calls Try.prog 5 #[.slice A n cap, .string s] w (Yes w) := by
  obtain ⟨l, hH, hnc, hcm⟩ := hI
  obtain rfl := hH.1
  have cw := awake21_any
  have cs := small21_any A cap l w hH (by omega)
  cases hq : smF l with
  | false =>
    rw [hq] at cs
    clear hq hH
    go_enter Try.func5, Try.ntmps5
    go_wp2_with fail
    refine cs.mono ?_
    rintro e w1 ⟨rfl, hb1⟩
    go_wp2_with fail
    refine (cw _).mono ?_
    rintro e w2 ⟨rfl, hb2⟩
    have hB := hb1.trans (hb2.mono hb1.size)
    go_wp2
    go_ret
    exact ⟨rfl, hB⟩
  | true =>
    obtain ⟨h110, hsz⟩ := smF_sizes hq
    rw [hq] at cs
    by_cases hz : 3000 < s.size
    · have hd : decide ((3000 : Int) < (s.size : Int)) = true := decide_eq_true (by omega)
      clear hq hH
      go_enter Try.func5, Try.ntmps5
      go_wp2_with fail
      refine cs.mono ?_
      rintro e w1 ⟨rfl, hb1⟩
      go_wp2_with fail
      refine (cw _).mono ?_
      rintro e w2 ⟨rfl, hb2⟩
      have hB := hb1.trans (hb2.mono hb1.size)
      go_wp2
      go_ret
      exact ⟨rfl, hB⟩
    · have hd : decide ((3000 : Int) < (s.size : Int)) = false := decide_eq_false (by omega)
      have c1 := fun W h => fFirst_any A cap l s W h (by omega) (by omega) (fun x hx => by have := hsz x hx; omega)
      have c2 := fun W h => refFirst_any A cap l s W h (by omega) (by omega) (fun x hx => by have := hsz x hx; omega)
      have c3 := fun W h => fAll_any A cap l s W h (by omega) (by omega) (fun x hx => by have := hsz x hx; omega)
      have c4 := fun W h => refAll_any A cap l s W h (by omega) (by omega) (fun x hx => by have := hsz x hx; omega)
      have hfl := fall_len l (ls s)
      have e1 : ((bs ((fall l (ls s)).headD [])).toList == (bs ((fall l (ls s)).headD [])).toList) = true := by simp
      have e2 : ((!(fall l (ls s)).isEmpty) == (!(fall l (ls s)).isEmpty)) = true := by simp
      unfold FirstPost at c1
      unfold ListPost at c3 c4
      have ct := fun A1 A2 k1 k2 B W h1 h2 => texts_q A1 A2 (fall l (ls s)).length (fall l (ls s)).length k1 k2 ((fall l (ls s)).map bs) ((fall l (ls s)).map bs) B W h1 h2 (by omega) (by omega)
      simp only [textsB_self] at ct
      rw [← wv_map] at ct
      have hwl := wv_length (fall l (ls s))
      generalize bs ((fall l (ls s)).headD []) = X at *
      generalize (!(fall l (ls s)).isEmpty) = Q at *
      generalize fall l (ls s) = F at *
      have HWL := Lib.hid hwl
      clear hq hsz hz hwl
      go_enter Try.func5, Try.ntmps5
      go_wp2_with fail
      refine cs.mono ?_
      rintro e w1 ⟨rfl, hb1⟩
      have hH1 := (hH.below hb1).more hb1.size
      clear cs
      go_wp2_with fail
      refine (c1 w1 hH1).mono ?_
      rintro e w2 ⟨rfl, hb2⟩
      have hH2 := (hH1.below hb2).more hb2.size
      have hB2 := hb1.trans (hb2.mono hb1.size)
      clear c1 hH1 hb2
      go_wp2_with fail
      refine (c2 w2 hH2).mono ?_
      rintro e w3 ⟨rfl, hb3⟩
      have hH3 := (hH2.below hb3).more hb3.size
      have hB3 := hB2.trans (hb3.mono hB2.size)
      clear c2 hH2 hb3
      go_wp2_with fail
      refine (c3 w3 hH3).mono ?_
      rintro e w4 ⟨v4, n4, rfl, hown4, hb4⟩
      obtain ⟨A4, k4, rfl, hh4, hk4⟩ := Has.of_own hown4
      have hH4 := (hH3.below hb4).more hb4.size
      have hB4 := hB3.trans (hb4.mono hB3.size)
      have hn4 : n4 = F.length := by have := hh4.1; rw [HWL.out] at this; omega
      subst hn4
      clear c3 hH3 hb4 hown4
      go_wp2_with fail
      refine (c4 w4 hH4).mono ?_
      rintro e w5 ⟨v5, n5, rfl, hown5, hb5⟩
      obtain ⟨A5, k5, rfl, hh5, hk5⟩ := Has.of_own hown5
      have hh4' := (hh4.below hb5).more hb5.size
      have hB5 := hB4.trans (hb5.mono hB4.size)
      have hn5 : n5 = F.length := by have := hh5.1; rw [HWL.out] at this; omega
      subst hn5
      clear c4 hH4 hb5 hown5 hh4
      go_wp2_with fail
      refine (ct A4 A5 k4 k5 _ w5 hh4' hh5).mono ?_
      rintro e w6 ⟨rfl, m6, rfl⟩
      have hB6 := below_drewN hB5 m6
      go_wp2_with fail
      refine (cw _).mono ?_
      rintro e w7 ⟨rfl, hb7⟩
      have hB7 := hB6.trans (hb7.mono hB6.size)
      go_wp2
      go_ret
      exact ⟨rfl, hB7⟩

end Go.Proofs.Ytmfoegpdjajicaa
