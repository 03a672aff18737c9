/-
  The walk of FieldsParseMatchesSpec: it returns true.
-/
import Derived.Test.YtmfoegpdjajicaaFeW
import Derived.Test.YtmfoegpdjajicaaFdK
import Derived.Test.YtmfoegpdjajicaaKeepG
import Derived.Test.YtmfoegpdjajicaaRfP
import Derived.Test.YtmfoegpdjajicaaOp8
namespace Go.Proofs.Ytmfoegpdjajicaa
open Go.RowKit

set_option maxRecDepth 20000 in
set_option maxHeartbeats 4000000 in
theorem walkFPar (A : Option Addr) (n cap : Nat) (w : World) (hI : ∃ l, Arg8 w A n cap l) :
    Calls Try.prog 3 #[.slice A n cap] w (Yes w) := by
  obtain ⟨l, hH, hnc, hcm, hcn⟩ := hI
  have hl : l.length = n := by have := hH.1; simpa using this
  subst hl
  have cw := awake21_any
  by_cases hz : 17000 < l.length
  · have hd : decide ((17000 : Int) < (l.length : Int)) = true := decide_eq_true (by omega)
    go_enter Try.func3, Try.ntmps3
    go_wp2_with fail
    refine (cw _).mono ?_
    rintro e w1 ⟨rfl, hb⟩
    go_wp2
    go_ret
    exact ⟨rfl, hb⟩
  · have hd : decide ((17000 : Int) < (l.length : Int)) = false := decide_eq_false (by omega)
    have hl2 : l.length ≤ 17000 := by omega
    have co := ownBytes_any A l.length cap w.heap.size l w hH hcn (by omega) (Nat.le_refl _)
    have c1 := fun A1 c1 W h => fParse_any A1 c1 l W (by omega) h
    have c2 := fun W h => refParse_any A cap l W (by omega) h hnc hcm
    have hlen := fpar_len l
    have e1 : ((fpar l).2 == (fpar l).2) = true := by simp
    have cb := fun A1 A2 k1 k2 B W h1 h2 => bytes_any A1 A2 l.length k1 l.length k2 B l l W h1 h2
    have heq : eqL l l = true := by simp [eqL]
    simp only [heq] at cb
    generalize fpar l = R at *
    obtain ⟨m, x⟩ := R
    dsimp only at e1 hlen c1 c2
    have cf := fun A1 A2 k1 k2 B W h1 h2 => fds_same m A1 A2 k1 k2 B W h1 h2 (by omega)
    clear hz heq
    go_enter Try.func3, Try.ntmps3
    go_wp2_with fail
    refine co.mono ?_
    rintro e w1 ⟨⟨v, rfl, hown⟩, hb1⟩
    obtain ⟨A1, k1, rfl, hh1, hk1⟩ := Has.of_own hown
    have hH1 := (hH.below hb1).more hb1.size
    clear hown co
    go_wp2_with fail
    refine (c1 A1 k1 w1 hh1).mono ?_
    rintro e w2 ⟨A2, k2, rfl, hk2, _, hf2, hb2⟩
    have hh2 := (hh1.below hb2).more hb2.size
    have hH2 := (hH1.below hb2).more hb2.size
    have hB2 := hb1.trans (hb2.mono hb1.size)
    clear c1 hh1 hH1 hb2
    go_wp2_with fail
    refine (c2 w2 hH2).mono ?_
    rintro e w3 ⟨A3, k3, rfl, hk3, _, hf3, hb3⟩
    have hh3 := (hh2.below hb3).more hb3.size
    have hH3 := (hH2.below hb3).more hb3.size
    have hf2' := (hf2.below hb3).more hb3.size
    have hB3 := hB2.trans (hb3.mono hB2.size)
    clear c2 hh2 hH2 hf2 hb3
    go_wp2_with fail
    refine (cf A2 A3 k2 k3 _ w3 hf2' hf3).mono ?_
    rintro e w4 ⟨rfl, hb4⟩
    have hh4 := (hh3.below hb4).more hb4.size
    have hH4 := (hH3.below hb4).more hb4.size
    have hB4 := hB3.trans (hb4.mono hB3.size)
    clear cf hh3 hH3 hf2' hf3 hb4
    go_wp2_with fail
    refine (cb A1 A k1 cap _ w4 hh4 hH4).mono ?_
    rintro e w5 ⟨rfl, rfl⟩
    go_wp2_with fail
    refine (cw _).mono ?_
    rintro e w6 ⟨rfl, hb6⟩
    have hB6 := hB4.trans (hb6.mono hB4.size)
    go_wp2
    go_ret
    exact ⟨rfl, hB6⟩

end Go.Proofs.Ytmfoegpdjajicaa
