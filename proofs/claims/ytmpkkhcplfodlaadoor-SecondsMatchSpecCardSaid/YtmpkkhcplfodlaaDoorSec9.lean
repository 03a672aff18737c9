/-
  The walk of SecondsMatchSpec: the call returns true.
-/
import Derived.Test.YtmpkkhcplfodlaaDoorSec5
import Derived.Test.YtmpkkhcplfodlaaDoorSec4
namespace Go.Proofs.YtmpkkhcplfodlaaDoor
open Go.RowKit

set_option maxHeartbeats 4000000 in
theorem matchSpec_walk (s : ByteArray) (n m : Int) (_hs : s.size ≤ maxLen) (w0 : (Lit.int .i64 n).wf = true) (w1 : (Lit.int .i64 m).wf = true) (w : World) (hp : Pow w) :
    Calls Tryd.prog 3 #[.string s, .int .i64 n, .int .i64 m] w (Yes w) := by
  clear w0 w1 _hs
  by_cases hs : s.size ≤ 3000
  · have n0 : ¬ (3000 : Int) < (s.size : Int) := by omega
    have c1 := parse_any s w (by omega)
    have c2 := fun W => refParse_any s W (by omega)
    have c3 := fun W (h : Pow W) => format_any n W h
    have c4 := fun W => refFormat_any n W
    have c5 := fun W => expiry_any n m W
    have c6 := fun W => refExpiry_any n m W
    have c7 := fun W => expired_any n m W
    generalize perV s = k at *
    generalize digitsB s = d at *
    generalize fmtS n = F at *
    generalize expV n m = E at *
    obtain ⟨b, hb⟩ : ∃ b, decide (n ≤ m) = b := ⟨_, rfl⟩
    rw [hb] at c7
    have HP := Lib.hid hp
    clear hp
    go_enter Tryd.func3, Tryd.ntmps3
    go_wp2_with fail
    refine c1.mono ?_
    rintro e w1 ⟨rfl, hb⟩
    go_wp2_with fail
    refine (c2 _).mono ?_
    rintro e w' ⟨rfl, rfl⟩
    go_wp2_with fail
    refine (c3 _ (pow_below HP.out hb)).mono ?_
    rintro e w2 ⟨rfl, hb2⟩
    replace hb := hb.trans (hb2.mono hb.size)
    clear hb2
    go_wp2_with fail
    refine (c4 _).mono ?_
    rintro e w3 ⟨rfl, hb3⟩
    replace hb := hb.trans (hb3.mono hb.size)
    clear hb3
    go_wp2_with fail
    refine (c5 _).mono ?_
    rintro e w' ⟨rfl, rfl⟩
    go_wp2_with fail
    refine (c6 _).mono ?_
    rintro e w' ⟨rfl, rfl⟩
    go_wp2_with fail
    refine (c7 _).mono ?_
    rintro e w' ⟨rfl, rfl⟩
    go_wp2_with fail
    refine (awake4_any _).mono ?_
    rintro e w4 ⟨rfl, hb4⟩
    replace hb := hb.trans (hb4.mono hb.size)
    clear hb4
    go_wp2_with fail
    go_ret
    exact ⟨rfl, hb⟩
  · have n0 : (3000 : Int) < (s.size : Int) := by omega
    clear hs
    go_enter Tryd.func3, Tryd.ntmps3
    go_wp2_with fail
    refine (awake4_any _).mono ?_
    rintro e w' ⟨rfl, hbw⟩
    go_wp2_with fail
    go_ret
    exact ⟨rfl, hbw⟩

end Go.Proofs.YtmpkkhcplfodlaaDoor
