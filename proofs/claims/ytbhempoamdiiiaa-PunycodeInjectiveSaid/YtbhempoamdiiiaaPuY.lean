/-
  The walk of PunycodeDecodeMatchesSpec: it returns true.
-/
import Derived.Test.YtbhempoamdiiiaaPuA
import Derived.Test.YtbhempoamdiiiaaPu4
namespace Go.Proofs.Ytbhempoamdiiiaa
open Go.RowKit

theorem decV_small (l : List UInt8) : (decV l).length ≤ 256 := by
  unfold decV
  cases h : decL l with
  | error c => simp
  | ok p => exact (enc_dec h).2.1

set_option maxRecDepth 20000 in
set_option maxHeartbeats 2000000 in
theorem walkPuDec (hE : PuEnc 9) (hD : PuDec 12) (s : ByteArray) (w : World) (_ : s.size ≤ maxLen) :
    Calls Try.prog 4 #[.string s] w (Yes w) := by
  have c9 := awake12_any hE hD
  by_cases hlen : 1100 < s.size
  · have hd : decide ((1100 : Int) < (s.size : Int)) = true := decide_eq_true (by omega)
    go_enter Try.func4, Try.ntmps4
    go_wp2_with fail
    refine (c9 _).mono ?_
    rintro r w2 ⟨rfl, hb2⟩
    go_wp2
    go_ret
    exact ⟨rfl, hb2⟩
  · have hd : decide ((1100 : Int) < (s.size : Int)) = false := decide_eq_false (by omega)
    have c1 := hD s w (by omega)
    have c2 := refDec_any s
    have hl := decV_small (ls s)
    unfold DecPost at c1 c2
    generalize decE (ls s) = n at *
    obtain ⟨p, hp⟩ : ∃ p, p = decV (ls s) := ⟨_, rfl⟩
    rw [← hp] at c1 hl
    simp only [← hp] at c2
    have hll : (p.map (fun n : Nat => (n : Int))).length ≤ 1000000 := by rw [List.length_map]; omega
    have eN : ((n : Int) == (n : Int)) = true := by simp
    clear hp
    go_enter Try.func4, Try.ntmps4
    go_wp2_with fail
    refine c1.mono ?_
    rintro r w1 ⟨⟨v1, rfl, hown1⟩, hb1⟩
    rw [nvI_zv] at hown1
    obtain ⟨A1, k1, rfl, hh1, _⟩ := Has.of_own hown1
    go_wp2_with fail
    refine (c2 _).mono ?_
    rintro r w2 ⟨⟨v2, rfl, hown2⟩, hb2⟩
    rw [nvI_zv] at hown2
    obtain ⟨A2, k2, rfl, hh2, _⟩ := Has.of_own hown2
    have hh1b := hh1.below hb2
    have hs2 := hb2.size
    replace hb2 := hb1.trans (hb2.mono hb1.size)
    have cI := ints_any A1 A2 p.length k1 p.length k2 w2.heap.size _ w2 (hh1b.more hs2) hh2 hll (Nat.le_refl _)
    go_wp2_with fail
    refine cI.mono ?_
    rintro r w4 ⟨rfl, hb4⟩
    replace hb4 := hb2.trans (hb4.mono hb2.size)
    go_wp2_with fail
    refine (c9 _).mono ?_
    rintro r w5 ⟨rfl, hb5⟩
    replace hb5 := hb4.trans (hb5.mono hb4.size)
    go_wp2
    go_ret
    exact ⟨rfl, hb5⟩

end Go.Proofs.Ytbhempoamdiiiaa
