/-
  The walk of FieldsRoundTrip: it returns true.
-/
import Derived.Test.YtmfoegpdjajicaaFeW
import Derived.Test.YtmfoegpdjajicaaFdK
import Derived.Test.YtmfoegpdjajicaaFdS
import Derived.Test.YtmfoegpdjajicaaKeepG
import Derived.Test.YtmfoegpdjajicaaFdO
import Derived.Test.YtmfoegpdjajicaaOp8
namespace Go.Proofs.Ytmfoegpdjajicaa
open Go.RowKit

theorem ffmt_len (l : List Fv) : (ffmt l).1.length ≤ 16384 := by
  unfold ffmt
  by_cases h1 : 100 < l.length
  · rw [if_pos h1]; simp
  · rw [if_neg h1]
    by_cases h2 : l.all okF = false
    · rw [if_pos h2]; simp
    · rw [if_neg h2]
      by_cases h3 : 16384 < (fmtF l).length
      · rw [if_pos h3]; simp
      · rw [if_neg h3]
        exact Nat.not_lt.1 h3
set_option maxRecDepth 20000 in
set_option maxHeartbeats 4000000 in
theorem walkFRt (A : Option Addr) (n cap : Nat) (A' : Option Addr) (n' cap' : Nat) (w : World) (hI : ∃ l, InFd w A n cap l) (hI' : ∃ r, Arg8 w A' n' cap' r) :
    Calls Try.prog 6 #[.slice A n cap, .slice A' n' cap'] w (Yes w) := by
  obtain ⟨l, hH, hnc, hcm⟩ := hI
  obtain rfl := hH.1
  obtain ⟨r, hR, hrc, hrm, hrn⟩ := hI'
  have hrl : r.length = n' := by have := hR.1; simpa using this
  subst hrl
  have cw := awake21_any
  have cs := small21_any A cap l w hH (by omega)
  cases hq : smF l with
  | false =>
    rw [hq] at cs
    clear hq hH hR
    go_enter Try.func6, Try.ntmps6
    go_wp2_with fail
    refine cs.mono ?_
    rintro e w1 ⟨rfl, hb1⟩
    go_wp2_with fail
    refine (cw _).mono ?_
    rintro e w2 ⟨rfl, hb2⟩
    have hB := hb1.trans (hb2.mono hb1.size)
    go_wp2
    go_ret
    exact ⟨rfl, hB⟩
  | true =>
    obtain ⟨h110, hsz⟩ := smF_sizes hq
    rw [hq] at cs
    by_cases hz : 100 < r.length
    · have hd : decide ((100 : Int) < (r.length : Int)) = true := decide_eq_true (by omega)
      clear hq hH hR
      go_enter Try.func6, Try.ntmps6
      go_wp2_with fail
      refine cs.mono ?_
      rintro e w1 ⟨rfl, hb1⟩
      go_wp2_with fail
      refine (cw _).mono ?_
      rintro e w2 ⟨rfl, hb2⟩
      have hB := hb1.trans (hb2.mono hb1.size)
      go_wp2
      go_ret
      exact ⟨rfl, hB⟩
    · have hd : decide ((100 : Int) < (r.length : Int)) = false := decide_eq_false (by omega)
      have c1 := fun W h => fFormat_any A cap l W h (by omega) (fun x hx => by have := hsz x hx; omega)
      have hback := fun h1 h2 => read_back (l := l) (rest := r) h1 h2
      have htl := ffmt_len l
      generalize ffmt l = R at *
      obtain ⟨t, x⟩ := R
      dsimp only at c1 hback htl
      by_cases hx : x = 0
      · subst hx
        have hx0 : ((0 : Int) != (0 : Int)) = false := rfl
        by_cases hbig : 16384 < t.length + r.length
        · have hd1 : decide ((16384 : Int) < ((t.length + r.length : Nat) : Int)) = true := decide_eq_true (by omega)
          have hd2 : decide ((16384 : Int) < (t.length : Int) + (r.length : Int)) = true := decide_eq_true (by omega)
          clear hq hsz hR hback hbig
          go_enter Try.func6, Try.ntmps6
          go_wp2_with fail
          refine cs.mono ?_
          rintro e w1 ⟨rfl, hb1⟩
          have hH1 := (hH.below hb1).more hb1.size
          go_wp2_with fail
          refine (c1 w1 hH1).mono ?_
          rintro e w2 ⟨A2, k2, rfl, hk2, _, hf2, hb2⟩
          have hB2 := hb1.trans (hb2.mono hb1.size)
          clear c1 hf2 hb2
          go_wp2_with fail
          refine (cw _).mono ?_
          rintro e w3 ⟨rfl, hb3⟩
          have hB := hB2.trans (hb3.mono hB2.size)
          go_wp2
          go_ret
          exact ⟨rfl, hB⟩
        · have hd1 : decide ((16384 : Int) < ((t.length + r.length : Nat) : Int)) = false := decide_eq_false (by omega)
          have hd2 : decide ((16384 : Int) < (t.length : Int) + (r.length : Int)) = false := decide_eq_false (by omega)
          have hpar := hback rfl (by omega)
          have c2 := fun A2 c2 W h => fParse_any A2 c2 (t ++ r) W (by rw [List.length_append]; omega) h
          rw [hpar, List.length_append] at c2
          obtain ⟨i5, hi5, hz0, hz1, hz2⟩ := info_parts infoU8
          have ha : ∀ B W (h : Has W B A' r.length (r.map bv)), Has W B A' r.length (r.map bv) := fun _ _ h => h
          clear hq hsz hback hbig hpar
          go_enter Try.func6, Try.ntmps6
          go_wp2_with fail
          refine cs.mono ?_
          rintro e w1 ⟨rfl, hb1⟩
          have hH1 := (hH.below hb1).more hb1.size
          have hR1 := (hR.below hb1).more hb1.size
          clear cs
          go_wp2_with fail
          refine (c1 w1 hH1).mono ?_
          rintro e w2 ⟨A2, k2, rfl, hk2, hn2, hf2, hb2⟩
          have hB2 := hb1.trans (hb2.mono hb1.size)
          have hH2 := (hH1.below hb2).more hb2.size
          have hR2 := (hR1.below hb2).more hb2.size
          have co := ownBytes_any A2 t.length k2 w2.heap.size t w2 hf2 hn2 (by omega) (Nat.le_refl _)
          clear c1 hb2 hH1 hR1 hn2
          go_wp2_with fail
          refine co.mono ?_
          rintro e w3 ⟨⟨v3, rfl, hown3⟩, hb3⟩
          obtain ⟨A3, k3, rfl, hh3, hk3⟩ := Has.of_own hown3
          have hB3 := hB2.trans (hb3.mono hB2.size)
          have hH3 := (hH2.below hb3).more hb3.size
          have hR3 := (hR2.below hb3).more hb3.size
          have hH2' := hH2
          clear co hf2 hH2 hR2 hh3
          go_wp2_with (at_builtin; refine wpList_app_has _ rfl _ _ 22 rfl w2.heap.size 5 i5 (.int .u8 0) 1 tyBs hi5 hz0 hz1 hz2 rfl _ _ _ (by exact rfl) hown3 A' r.length cap' _ (r.map bv) (by exact rfl) hrn hR3 (one_bytes r) (by unfold maxLen; omega) (by omega) hb3 (Nat.le_refl _) ?_; intro v' w4 hown4 hb4 _)
          obtain ⟨A4, k4, rfl, hh4, hk4⟩ := Has.of_own hown4
          rw [← List.map_append] at hh4
          have hB4 := hB2.trans (hb4.mono hB2.size)
          have hH4 := (hH2'.below hb4).more hb4.size
          clear hown4 hown3 hH3 hR3 hb3 hb4 hB3
          refine (c2 A4 k4 w4 hh4).mono ?_
          rintro e w5 ⟨A5, k5, rfl, hk5, _, hf5, hb5⟩
          have hB5 := hB4.trans (hb5.mono hB4.size)
          have hH5 := (hH4.below hb5).more hb5.size
          have cf := fds_same l A5 A k5 cap w5.heap.size w5 hf5 hH5 (by omega)
          clear c2 hb5 hH4 hf5 hh4
          go_wp2_with fail
          refine cf.mono ?_
          rintro e w6 ⟨rfl, hb6⟩
          have hB6 := hB5.trans (hb6.mono hB5.size)
          go_wp2_with fail
          refine (cw _).mono ?_
          rintro e w7 ⟨rfl, hb7⟩
          have hB7 := hB6.trans (hb7.mono hB6.size)
          go_wp2
          go_ret
          exact ⟨rfl, hB7⟩
      · have hx0 : (x != (0 : Int)) = true := by simpa using hx
        clear hq hsz hR hback hx
        go_enter Try.func6, Try.ntmps6
        go_wp2_with fail
        refine cs.mono ?_
        rintro e w1 ⟨rfl, hb1⟩
        have hH1 := (hH.below hb1).more hb1.size
        go_wp2_with fail
        refine (c1 w1 hH1).mono ?_
        rintro e w2 ⟨A2, k2, rfl, hk2, _, hf2, hb2⟩
        have hB2 := hb1.trans (hb2.mono hb1.size)
        clear c1 hf2 hb2
        go_wp2_with fail
        refine (cw _).mono ?_
        rintro e w3 ⟨rfl, hb3⟩
        have hB := hB2.trans (hb3.mono hB2.size)
        go_wp2
        go_ret
        exact ⟨rfl, hB⟩

end Go.Proofs.Ytmfoegpdjajicaa
