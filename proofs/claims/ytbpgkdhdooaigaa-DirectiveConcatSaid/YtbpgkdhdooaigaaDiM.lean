/-
  The walks of DirectiveParseMatchesSpec and DirectiveFormatMatchesSpec: the calls return true.
-/
import Derived.Test.YtbpgkdhdooaigaaDiE
import Derived.Test.YtbpgkdhdooaigaaDiI
import Derived.Test.YtbpgkdhdooaigaaDiJ
import Derived.Test.YtbpgkdhdooaigaaDiK
import Derived.Test.YtbpgkdhdooaigaaDiL
import Derived.Test.YtbpgkdhdooaigaaDiU
namespace Go.Proofs.Ytbpgkdhdooaigaa
open Go.RowKit

theorem dirs_same (A1 A2 : Option Addr) (n1 n2 c1 c2 : Nat) (xs : List Dv) (B : Nat) (w : World) (hA1 : HasDv w B A1 n1 xs) (hA2 : HasDv w B A2 n2 xs) (hB : B ≤ w.heap.size) (hl1 : n1 ≤ 1000000) (hl2 : n2 ≤ 1000000) (hc1 : n1 ≤ c1) (hc2 : n2 ≤ c2) :
    Calls Try.prog 11 #[.slice A1 n1 c1, .slice A2 n2 c2] w fun e w' => e = .returned (.bool true) ∧ Below w.heap.size w w' := by
  have h := dirs_any A1 A2 n1 n2 c1 c2 xs xs B w hA1 hA2 hB hl1 hl2 hc1 hc2
  rwa [show decide (xs = xs) = true from decide_eq_true rfl] at h

set_option maxRecDepth 20000 in
set_option maxHeartbeats 4000000 in
theorem walkDiP (s : ByteArray) (_hs : s.size ≤ maxLen) (w : World) :
    Calls Try.prog 3 #[.string s] w (Yes w) := by
  clear _hs
  by_cases hs : s.size ≤ 4500
  · have n0 : ¬ (4500 : Int) < (s.size : Int) := by omega
    have c1 := fun W => dirParse_any s (by omega) W
    have c2 := fun W => refDirParse_any s (by omega) W
    have hlen := dirL_len (ls s)
    generalize (dirL (ls s)).1 = l at *
    generalize (dirL (ls s)).2 = r at *
    go_enter Try.func3, Try.ntmps3
    go_wp2_with fail
    refine (c1 _).mono ?_
    rintro e w1 ⟨A1, d1, rfl, hc1, _, hh1, hb⟩
    go_wp2_with fail
    refine (c2 _).mono ?_
    rintro e w2 ⟨A2, d2, rfl, hc2, _, hh2, hb2⟩
    have c3 := dirs_same A1 A2 l.length l.length d1 d2 l w2.heap.size w2 ((hh1.below hb2).more hb2.size) hh2 (Nat.le_refl _) (by omega) (by omega) hc1 hc2
    replace hb := hb.trans (hb2.mono hb.size)
    clear hh1 hh2 hb2 c1 c2
    go_wp2_with fail
    refine c3.mono ?_
    rintro e w3 ⟨rfl, hb2⟩
    replace hb := hb.trans (hb2.mono hb.size)
    clear hb2
    go_wp2_with fail
    refine (awake18_any _).mono ?_
    rintro e w4 ⟨rfl, hb2⟩
    replace hb := hb.trans (hb2.mono hb.size)
    clear hb2
    go_wp2
    go_ret
    exact ⟨rfl, hb⟩
  · have n0 : (4500 : Int) < (s.size : Int) := by omega
    clear hs
    go_enter Try.func3, Try.ntmps3
    go_wp2_with fail
    refine (awake18_any _).mono ?_
    rintro e w' ⟨rfl, hbw⟩
    go_wp2
    go_ret
    exact ⟨rfl, hbw⟩

/-- A slice of directives that came in. -/
def InDv (w : World) (A : Option Addr) (n c : Nat) (l : List Dv) : Prop := HasDv w w.heap.size A n l ∧ n ≤ c ∧ c ≤ maxLen

set_option maxRecDepth 20000 in
set_option maxHeartbeats 4000000 in
theorem walkDiF (A : Option Addr) (n c : Nat) (w : World) (hIn : ∃ l, InDv w A n c l) :
    Calls Try.prog 4 #[.slice A n c] w (Yes w) := by
  obtain ⟨l, hA, hnc, hcm⟩ := hIn
  have cs := smallD_any A n c _ l w hA (by omega) hnc (Nat.le_refl _)
  cases hsm : smallD l with
  | false =>
    rw [hsm] at cs
    clear hsm hA
    go_enter Try.func4, Try.ntmps4
    go_wp2_with fail
    refine cs.mono ?_
    rintro e w1 ⟨rfl, hb⟩
    go_wp2_with fail
    refine (awake18_any _).mono ?_
    rintro e w2 ⟨rfl, hb2⟩
    replace hb := hb.trans (hb2.mono hb.size)
    clear hb2
    go_wp2
    go_ret
    exact ⟨rfl, hb⟩
  | true =>
    rw [hsm] at cs
    have hS := SmDv.of_small hsm
    have hn : n ≤ 1000000 := by have := (smallD_sm hsm).1; have := hA.1; omega
    have F := fun W (hb : Below w.heap.size w W) => hA.below hb
    have c1 := fun W hb => fmt_at (dirFormat_any A n c w.heap.size l W (F W hb) hS hn hnc (Below.size hb)) (show fmtR l = ((fmtR l).1, (fmtR l).2) from rfl)
    have c2 := fun W hb => fmt_at (refFormat_any18 A n c w.heap.size l W (F W hb) hS hn hnc (Below.size hb)) (show fmtR l = ((fmtR l).1, (fmtR l).2) from rfl)
    have c3 := fun W hb => dirValid_any A n c w.heap.size l W (F W hb) hS hn hnc (Below.size hb)
    have c4 := fun W hb => refValid_any18 A n c w.heap.size l W (F W hb) hS hn hnc (Below.size hb)
    generalize bs (fmtR l).1 = T at *
    generalize (fmtR l).2 = r at *
    generalize dirOk l = q at *
    have e1 : (T.toList == T.toList) = true := by simp
    have e2 : (q == q) = true := by simp
    clear F hsm hA hS
    go_enter Try.func4, Try.ntmps4
    go_wp2_with fail
    refine cs.mono ?_
    rintro e w1 ⟨rfl, hb⟩
    go_wp2_with fail
    refine (c1 _ hb).mono ?_
    rintro e w2 ⟨rfl, hb2⟩
    replace hb := hb.trans (hb2.mono hb.size)
    clear hb2
    go_wp2_with fail
    refine (c2 _ hb).mono ?_
    rintro e w3 ⟨rfl, hb2⟩
    replace hb := hb.trans (hb2.mono hb.size)
    clear hb2
    go_wp2_with fail
    refine (c3 _ hb).mono ?_
    rintro e w4 ⟨rfl, hb2⟩
    replace hb := hb.trans (hb2.mono hb.size)
    clear hb2
    go_wp2_with fail
    refine (c4 _ hb).mono ?_
    rintro e w5 ⟨rfl, hb2⟩
    replace hb := hb.trans (hb2.mono hb.size)
    clear hb2
    go_wp2_with fail
    refine (awake18_any _).mono ?_
    rintro e w6 ⟨rfl, hb2⟩
    replace hb := hb.trans (hb2.mono hb.size)
    clear hb2
    go_wp2
    go_ret
    exact ⟨rfl, hb⟩

end Go.Proofs.Ytbpgkdhdooaigaa
