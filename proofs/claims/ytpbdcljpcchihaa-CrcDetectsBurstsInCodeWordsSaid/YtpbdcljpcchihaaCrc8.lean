/-
  The walks of CrcMatchesSpec, CrcCombineMatchesSpec and CrcConcatenates: each returns true.
-/
import Derived.Test.YtpbdcljpcchihaaCrc7
namespace Go.Proofs.Ytpbdcljpcchihaa
open Go.RowKit

/-- What a walk is told of a slice of bytes that came in. -/
def In8 (w : World) (a : Option Addr) (len cap : Nat) (zs : List Int) : Prop :=
  (a = none ∧ len = 0 ∧ cap = 0 ∧ zs = []) ∨
  ∃ x, a = some x ∧ len ≤ cap ∧ cap ≤ maxLen ∧ zs.length = cap ∧ (∀ i, i < zs.length → w.cell? (x.add i) = some (.int .u8 (zs.getD i 0))) ∧ ∀ n ∈ zs, (Lit.int .u8 n).wf = true
theorem eqL_refl (l : List UInt8) : eqL l l = true := by simp [eqL]
theorem w32_of {s : Int} (h : (Lit.int .u32 s).wf = true) : ∃ x, s = nv x := by
  have := bounds_u32 h
  exact nv_of s (by omega) (by omega)

set_option maxHeartbeats 2000000 in
theorem crcMatches_walk (A : Option Addr) (len cap : Nat) (zs : List Int) (s : Int) (w : World) (h : In8 w A len cap zs) (hs : (Lit.int .u32 s).wf = true) :
    Calls Try.prog 3 #[.slice A len cap, .int .u32 s] w (Yes w) := by
  obtain ⟨l, hl⟩ := arg8_of h
  obtain ⟨x, rfl⟩ := w32_of hs
  have HA := Lib.hid hl
  clear hl h hs
  by_cases hlen : len ≤ 4096
  · have he := eqL_refl l
    go_enter Try.func3, Try.ntmps3
    go_wp2_with fail
    refine (ownBytes_any A len cap _ l _ HA.out.1 HA.out.2.2.2 (by omega) (Nat.le_refl _)).mono ?_
    rintro e w1 ⟨⟨v, rfl, hown⟩, hb⟩
    obtain ⟨A1, c1, rfl, h1, _⟩ := Has.of_own hown
    clear hown
    have h2 := HA.out.1.below hb
    go_wp2_with fail
    refine (sum_any A1 len c1 _ l w1 h1 (by omega)).mono ?_
    rintro e w' ⟨rfl, rfl⟩
    go_wp2_with fail
    refine (refSum_any A len cap _ l w1 h2 (by omega)).mono ?_
    rintro e w' ⟨rfl, rfl⟩
    go_wp2_with fail
    refine (update_any x A1 len c1 _ l w1 h1 (by omega)).mono ?_
    rintro e w' ⟨rfl, rfl⟩
    go_wp2_with fail
    refine (refUpdate_any x A len cap _ l w1 h2 (by omega)).mono ?_
    rintro e w' ⟨rfl, rfl⟩
    go_wp2_with fail
    refine (bytes_any A1 A len c1 len cap _ l l w1 h1 (h2.more hb.size)).mono ?_
    rintro e w' ⟨rfl, rfl⟩
    go_wp2_with fail
    refine (awake2_any _).mono ?_
    rintro e w2 ⟨rfl, hb2⟩
    go_wp2
    go_ret
    exact ⟨rfl, hb.trans (hb2.mono hb.size)⟩
  · go_enter Try.func3, Try.ntmps3
    go_wp2_with fail
    refine (awake2_any _).mono ?_
    rintro e w2 ⟨rfl, hb2⟩
    go_wp2
    go_ret
    exact ⟨rfl, hb2⟩

set_option maxHeartbeats 2000000 in
theorem crcCombine_walk (a b n : Int) (ha : (Lit.int .u32 a).wf = true) (hb : (Lit.int .u32 b).wf = true) (hn : (Lit.int .i64 n).wf = true) (w : World) :
    Calls Try.prog 4 #[.int .u32 a, .int .u32 b, .int .i64 n] w (Yes w) := by
  obtain ⟨x, rfl⟩ := w32_of ha
  obtain ⟨y, rfl⟩ := w32_of hb
  have hnb := bounds_i64 hn
  clear ha hb hn
  go_enter Try.func4, Try.ntmps4
  go_wp2_with fail
  refine (combine_any x y n (by omega) (by omega) _).mono ?_
  rintro e w1 ⟨rfl, hb⟩
  go_wp2_with fail
  refine (refCombine_any x y n (by omega) (by omega) _).mono ?_
  rintro e w2 ⟨rfl, hb2⟩
  replace hb := hb.trans (hb2.mono hb.size)
  go_wp2_with fail
  refine (awake2_any _).mono ?_
  rintro e w3 ⟨rfl, hb3⟩
  replace hb := hb.trans (hb3.mono hb.size)
  go_wp2
  go_ret
  exact ⟨rfl, hb⟩

end Go.Proofs.Ytpbdcljpcchihaa
