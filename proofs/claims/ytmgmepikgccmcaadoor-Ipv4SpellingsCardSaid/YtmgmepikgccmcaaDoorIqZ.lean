/-
  Contract of Parse of package ipv4; what is asked of the package, and that the program's start lays the powers of ten.
-/
import Derived.Test.YtmgmepikgccmcaaDoorIq3
import Derived.Test.YtmgmepikgccmcaaDoorIpA
namespace Go.Proofs.YtmgmepikgccmcaaDoor
open Go.RowKit

theorem pPn : IpPn 10 := fun s w hs => (pn_any s hs w).mono (by rintro e w' ⟨rfl, rfl⟩; exact ⟨rfl, Below.refl _ _⟩)
theorem pNum : IpNum 12 := fun s w hs => (num_any s hs w).mono (by rintro e w' ⟨rfl, rfl⟩; exact ⟨rfl, Below.refl _ _⟩)
theorem pFmt : IpFmt 14 := fun v h0 h1 w hp => fmt_any v h0 h1 w hp

theorem pPar : IpPar 8 := by
  intro s w hs hp
  have c1 := pn_any s hs w
  cases hq : pnL (ls s) with
  | none =>
    have HE : Hid (parseL (ls s) = none) := by show _ = _; rw [parse_pn, hq]
    rw [hq, show aV (none : Option Nat) = 0 from rfl, show aK (none : Option Nat) = false from rfl] at c1
    clear hq
    go_enter Tryd.func8, Tryd.ntmps8
    go_wp2_with fail
    refine c1.mono ?_
    rintro e w' ⟨rfl, rfl⟩
    go_wp2
    go_ret2
    rw [HE.out]
    exact ⟨rfl, Below.refl _ _⟩
  | some v =>
    have hv := pnL_range hq
    have c2 := fmt_any (v : Int) (by omega) (by omega) w hp
    rw [show ((v : Int)).toNat = v from rfl] at c2
    rw [hq, show aV (some v) = (v : Int) from rfl, show aK (some v) = true from rfl] at c1
    by_cases hf : fmtI v = ls s
    · have HE : Hid (parseL (ls s) = some v) := by show _ = _; rw [parse_pn, hq]; exact if_pos hf
      rw [hf, bs_ls] at c2
      clear hq hf
      go_enter Tryd.func8, Tryd.ntmps8
      go_wp2_with fail
      refine c1.mono ?_
      rintro e w' ⟨rfl, hw⟩
      subst hw
      go_wp2_with fail
      refine c2.mono ?_
      rintro e w2 ⟨rfl, hb⟩
      go_wp2
      go_ret2
      rw [HE.out]
      exact ⟨rfl, hb⟩
    · have HE : Hid (parseL (ls s) = none) := by show _ = _; rw [parse_pn, hq]; exact if_neg hf
      obtain ⟨X, hX⟩ : ∃ X, X = bs (fmtI v) := ⟨_, rfl⟩
      have hne : ¬ X.toList = s.toList := by
        rw [toList_ls, toList_ls, hX, ls_bs]
        exact hf
      have hn2 : (X.toList == s.toList) = false := beq_eq_false_iff_ne.2 hne
      have hn3 : (!X.toList == s.toList) = true := by rw [hn2]; rfl
      rw [← hX] at c2
      clear hq hf hX
      go_enter Tryd.func8, Tryd.ntmps8
      go_wp2_with fail
      refine c1.mono ?_
      rintro e w' ⟨rfl, hw⟩
      subst hw
      go_wp2_with fail
      refine c2.mono ?_
      rintro e w2 ⟨rfl, hb⟩
      go_wp2
      go_ret2
      rw [HE.out]
      exact ⟨rfl, hb⟩

end Go.Proofs.YtmgmepikgccmcaaDoor
