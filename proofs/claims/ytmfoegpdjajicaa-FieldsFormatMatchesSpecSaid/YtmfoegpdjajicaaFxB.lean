/-
  The walk of FieldsFormatMatchesSpec: it returns true.
-/
import Derived.Test.YtmfoegpdjajicaaFeW
import Derived.Test.YtmfoegpdjajicaaFdS
import Derived.Test.YtmfoegpdjajicaaKeepG
import Derived.Test.YtmfoegpdjajicaaRfQ
import Derived.Test.YtmfoegpdjajicaaFdO
namespace Go.Proofs.Ytmfoegpdjajicaa
open Go.RowKit

set_option maxRecDepth 20000 in
set_option maxHeartbeats 4000000 in
theorem walkFFmt (A : Option Addr) (n cap : Nat) (w : World) (hI : ∃ l, InFd w A n cap l) :
    Calls Try.prog 4 #[.slice A n cap] w (Yes w) := by
  obtain ⟨l, hH, hnc, hcm⟩ := hI
  obtain rfl := hH.1
  have cw := awake21_any
  have cs := small21_any A cap l w hH (by omega)
  cases hq : smF l with
  | false =>
    rw [hq] at cs
    clear hq hH
    go_enter Try.func4, Try.ntmps4
    go_wp2_with fail
    refine cs.mono ?_
    rintro e w1 ⟨rfl, hb1⟩
    go_wp2_with fail
    refine (cw _).mono ?_
    rintro e w2 ⟨rfl, hb2⟩
    have hB := hb1.trans (hb2.mono hb1.size)
    go_wp2
    go_ret
    exact ⟨rfl, hB⟩
  | true =>
    obtain ⟨h110, hsz⟩ := smF_sizes hq
    rw [hq] at cs
    have c1 := fun W h => fFormat_any A cap l W h (by omega) (fun x hx => by have := hsz x hx; omega)
    have c2 := fun W h => refFormat_any21 A cap l W h (by omega) (fun x hx => by have := hsz x hx; omega)
    have e1 : ((ffmt l).2 == (ffmt l).2) = true := by simp
    have cb := fun A1 A2 k1 k2 B W h1 h2 => bytes_any A1 A2 (ffmt l).1.length k1 (ffmt l).1.length k2 B (ffmt l).1 (ffmt l).1 W h1 h2
    have heq : eqL (ffmt l).1 (ffmt l).1 = true := by simp [eqL]
    simp only [heq] at cb
    clear hq hsz heq
    generalize ffmt l = R at *
    obtain ⟨t, x⟩ := R
    dsimp only at e1 c1 c2 cb
    go_enter Try.func4, Try.ntmps4
    go_wp2_with fail
    refine cs.mono ?_
    rintro e w1 ⟨rfl, hb1⟩
    have hH1 := (hH.below hb1).more hb1.size
    clear cs
    go_wp2_with fail
    refine (c1 w1 hH1).mono ?_
    rintro e w2 ⟨A2, k2, rfl, hk2, _, hf2, hb2⟩
    have hH2 := (hH1.below hb2).more hb2.size
    have hB2 := hb1.trans (hb2.mono hb1.size)
    clear c1 hH1 hb2
    go_wp2_with fail
    refine (c2 w2 hH2).mono ?_
    rintro e w3 ⟨A3, k3, rfl, hk3, _, hf3, hb3⟩
    have hf2' := (hf2.below hb3).more hb3.size
    have hB3 := hB2.trans (hb3.mono hB2.size)
    clear c2 hH2 hf2 hb3
    go_wp2_with fail
    refine (cb A2 A3 k2 k3 _ w3 hf2' hf3).mono ?_
    rintro e w4 ⟨rfl, rfl⟩
    go_wp2_with fail
    refine (cw _).mono ?_
    rintro e w5 ⟨rfl, hb5⟩
    have hB5 := hB3.trans (hb5.mono hB3.size)
    go_wp2
    go_ret
    exact ⟨rfl, hB5⟩

end Go.Proofs.Ytmfoegpdjajicaa
