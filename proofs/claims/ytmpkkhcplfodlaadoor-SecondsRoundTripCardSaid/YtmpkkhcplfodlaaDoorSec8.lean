/-
  The walk of SecondsRoundTrip: the call returns true.
-/
import Derived.Test.YtmpkkhcplfodlaaDoorSec5
namespace Go.Proofs.YtmpkkhcplfodlaaDoor
open Go.RowKit

theorem lim_id (k : Int) (h0 : 0 ≤ k) (h1 : k ≤ 2147483647) : lim k 2147483647 = k := by unfold lim; omega

set_option maxHeartbeats 4000000 in
theorem roundTrip_walk (n : Int) (s : ByteArray) (w0 : (Lit.int .i64 n).wf = true) (_hs : s.size ≤ maxLen) (w : World) (hp : Pow w) :
    Calls Tryd.prog 4 #[.int .i64 n, .string s] w (Yes w) := by
  clear w0 _hs
  by_cases hs : s.size ≤ 3000
  · have n0 : ¬ (3000 : Int) < (s.size : Int) := by omega
    have c1 := format_any n w hp
    have hZ := fmt_zeros n
    have hFs := fmtS_size n
    generalize fmtS n = F at *
    obtain ⟨Z, eZ⟩ : ∃ Z, ⟨#[48, 48, 48]⟩ ++ F = Z := ⟨_, rfl⟩
    have hZs : Z.size ≤ 13 := by
      rw [← eZ, ByteArray.size_append, show (ByteArray.size ⟨#[48, 48, 48]⟩) = 3 from rfl]
      omega
    rw [eZ] at hZ
    have c2 := fun W => parse_any Z W (by omega)
    rw [hZ.1, hZ.2] at c2
    clear hZ hZs
    have hmin : ∀ W ts t, (Builtin.min_ ts t #[.int .i64 n, .int .i64 2147483647]).run Tryd.prog W = .ok (.int .i64 (min n 2147483647)) W := fun W ts t => min_two W ts t _ _ _ rfl
    have hmax : ∀ W ts t, (Builtin.max_ ts t #[.int .i64 0, .int .i64 (min n 2147483647)]).run Tryd.prog W = .ok (.int .i64 (lim n 2147483647)) W := fun W ts t => max_two W ts t _ _ _ rfl
    generalize lim n 2147483647 = m at *
    generalize min n 2147483647 = mn at *
    have nF : ¬ 9223372036854775807 < 3 + F.size := by omega
    clear hFs
    have c3 := fun W => parse_any s W (by omega)
    have hr := perV_range s
    have hno := perV_no s
    cases hd : digitsB s with
    | false =>
      have hk := hno hd
      rw [hd, hk] at c3
      clear hr hno hd hk
      go_enter Tryd.func4, Tryd.ntmps4
      go_wp2_with fail
      refine c1.mono ?_
      rintro e w1 ⟨rfl, hb⟩
      go_wp2_with fail
      refine (c2 _).mono ?_
      rintro e w2 ⟨rfl, hb2⟩
      replace hb := hb.trans (hb2.mono hb.size)
      clear hb2
      go_wp2_with fail
      refine (c3 _).mono ?_
      rintro e w3 ⟨rfl, hb3⟩
      replace hb := hb.trans (hb3.mono hb.size)
      clear hb3
      go_wp2_with fail
      refine (awake4_any _).mono ?_
      rintro e w4 ⟨rfl, hb4⟩
      replace hb := hb.trans (hb4.mono hb.size)
      clear hb4
      go_wp2_with fail
      go_ret
      exact ⟨rfl, hb⟩
    | true =>
      rw [hd] at c3
      generalize perV s = k at *
      have hk0 := hr.1
      have hk1 := hr.2
      have c4 := fun W (h : Pow W) => format_any k W h
      have h5 := fmtS_digits k
      have h6 := fmtS_value k
      rw [lim_id k hk0 hk1] at h6
      have hGs := fmtS_size k
      generalize fmtS k = G at *
      have c5 := fun W => parse_any G W (by omega)
      rw [h5, h6] at c5
      clear hr hno hd h5 h6 hGs
      have HP := Lib.hid hp
      clear hp
      go_enter Tryd.func4, Tryd.ntmps4
      go_wp2_with fail
      refine c1.mono ?_
      rintro e w1 ⟨rfl, hb⟩
      go_wp2_with fail
      refine (c2 _).mono ?_
      rintro e w2 ⟨rfl, hb2⟩
      replace hb := hb.trans (hb2.mono hb.size)
      clear hb2
      go_wp2_with fail
      refine (c3 _).mono ?_
      rintro e w3 ⟨rfl, hb3⟩
      replace hb := hb.trans (hb3.mono hb.size)
      clear hb3
      go_wp2_with fail
      refine (c4 _ (pow_below HP.out hb)).mono ?_
      rintro e w4 ⟨rfl, hb4⟩
      replace hb := hb.trans (hb4.mono hb.size)
      clear hb4
      go_wp2_with fail
      refine (c5 _).mono ?_
      rintro e w5 ⟨rfl, hb5⟩
      replace hb := hb.trans (hb5.mono hb.size)
      clear hb5
      go_wp2_with fail
      refine (awake4_any _).mono ?_
      rintro e w6 ⟨rfl, hb6⟩
      replace hb := hb.trans (hb6.mono hb.size)
      clear hb6
      go_wp2_with fail
      go_ret
      exact ⟨rfl, hb⟩
  · have n0 : (3000 : Int) < (s.size : Int) := by omega
    clear hs
    go_enter Tryd.func4, Tryd.ntmps4
    go_wp2_with fail
    refine (awake4_any _).mono ?_
    rintro e w' ⟨rfl, hbw⟩
    go_wp2_with fail
    go_ret
    exact ⟨rfl, hbw⟩

end Go.Proofs.YtmpkkhcplfodlaaDoor
