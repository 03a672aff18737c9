/-
  The walk of StsParseMatchesSpec: the call returns true.
-/
import Derived.Test.YtpopkeidpohdiaaStN
import Derived.Test.YtpopkeidpohdiaaStR
namespace Go.Proofs.Ytpopkeidpohdiaa
open Go.RowKit

set_option maxRecDepth 20000 in
set_option maxHeartbeats 4000000 in
theorem walkStP (s : ByteArray) (_hs : s.size ≤ maxLen) (w : World) :
    Calls Try.prog 3 #[.string s] w (Yes w) := by
  clear _hs
  by_cases hs : s.size ≤ 4500
  · have n0 : ¬ (4500 : Int) < (s.size : Int) := by omega
    have c1 := fun W => stsParse_any s (by omega) W
    have c2 := fun W => refStsParse_any s (by omega) W
    obtain ⟨⟨⟨a, sb⟩, r⟩, hR⟩ : ∃ R, R = stsP (ls s) := ⟨_, rfl⟩
    rw [← hR] at c1 c2
    have heq : ∀ W, (binOp .eql 24 (.agg #[.int .i64 a, .bool sb]) (.agg #[.int .i64 a, .bool sb])).run Try.prog W = .ok (.bool true) W := fun W => by rw [eq_pv]; simp
    clear hR hs
    go_enter Try.func3, Try.ntmps3
    go_wp2_with fail
    refine (c1 _).mono ?_
    rintro e w1 ⟨rfl, hb⟩
    go_wp2_with (first
      | (refine wpList_alloc_arr _ rfl 3 rfl _ rfl #[.int .i64 0, .bool false] zeroPv ?_; intro W2 p3 hp3 hq3 hR3 hG3)
      | (refine wpList_store_pv rfl rfl _ _ rfl p3 (by exact rfl) a sb (by exact rfl) _ _ hR3 ?_; intro W3 hr3 hG4))
    have hE := RSt19.boxed hb hp3 hG3 hr3 hG4
    clear hb hp3 hq3 hR3 hG3 hr3 hG4
    refine (c2 _).mono ?_
    rintro e w2 ⟨rfl, hb⟩
    have hE := hE.call hb
    clear hb
    go_wp2_with (first
      | (refine wpList_alloc_arr _ rfl 5 rfl _ rfl #[.int .i64 0, .bool false] zeroPv ?_; intro W6 p5 hp5 hq5 hR5 hG5)
      | (refine wpList_store_pv rfl rfl _ _ rfl p5 (by exact rfl) a sb (by exact rfl) _ _ hR5 ?_
         intro W7 hr5 hG7
         have hE7 := hE.pass hp5 hG5 hG7)
      | (refine wpList_load_pv (by rfl) _ rfl p3 (by exact rfl) _ _ hE7.row ?_)
      | (refine wpList_load_pv (by rfl) _ rfl p5 (by exact rfl) _ _ hr5 ?_))
    have hb := hE7.bel
    clear hE7 hE hr5 hG7 hG5 hR5
    refine (awake19_any _).mono ?_
    rintro e w4 ⟨rfl, hb2⟩
    replace hb := hb.trans (hb2.mono hb.size)
    clear hb2
    go_wp2
    go_ret
    exact ⟨rfl, hb⟩
  · have n0 : (4500 : Int) < (s.size : Int) := by omega
    clear hs
    go_enter Try.func3, Try.ntmps3
    go_wp2_with fail
    refine (awake19_any _).mono ?_
    rintro e w' ⟨rfl, hbw⟩
    go_wp2
    go_ret
    exact ⟨rfl, hbw⟩

end Go.Proofs.Ytpopkeidpohdiaa
