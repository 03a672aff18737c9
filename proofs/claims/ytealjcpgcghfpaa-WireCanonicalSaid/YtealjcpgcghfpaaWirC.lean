/-
  The walk of WireCanonical: it returns true.
-/
import Derived.Test.YtealjcpgcghfpaaWir7
import Derived.BigQuiet
import Derived.Deep.RegionWith
import Derived.Test.YtealjcpgcghfpaaStill
namespace Go.Proofs.Ytealjcpgcghfpaa
open Go.RowKit

attribute [local irreducible] wpAny

set_option maxHeartbeats 8000000 in
theorem wireCanon_walk (A : Option Addr) (len cap : Nat) (zs : List Int) (w : World) (h : In8 w A len cap zs) :
    Calls Try.prog 6 #[.slice A len cap] w (Yes w) := by
  obtain ⟨l, hl⟩ := arg8_of h
  have HA := Lib.hid hl
  clear hl h
  by_cases hlen : len ≤ 6000
  · have hlen' : ¬ 6000 < (len : Int) := by omega
    have HL := Lib.hid HA.out.len
    have hlc : len ≤ cap := HA.out.2.1
    have hr := HA.out.1
    have hb := Below.refl w.heap.size w
    by_cases hz : de l = 0
    · obtain ⟨hx1, hn1, hn2, _, hcan⟩ := d_zero hz
      have hx0 := dv_ge l
      rw [HL.out] at hn2
      obtain ⟨s, hs⟩ : ∃ s : Nat, dn l = (s : Int) := ⟨(dn l).toNat, by omega⟩
      rw [hs, Int.toNat_natCast] at hcan
      obtain ⟨x, hx⟩ : ∃ x, x = dv l := ⟨_, rfl⟩
      rw [← hx] at hx0 hx1 hcan
      obtain ⟨E, hE⟩ : ∃ E, E = enc x.toNat := ⟨_, rfl⟩
      rw [← hE] at hcan
      have HE := Lib.hid hE
      have HE2 := Lib.hid hcan
      have hs1 : decide (s = 0) = false := decide_eq_false (by omega)
      have hs2 : decide ((s : Int) < 1) = false := decide_eq_false (by omega)
      have hs3 : decide (len < s) = false := decide_eq_false (by omega)
      have hs4 : decide ((len : Int) < (s : Int)) = false := decide_eq_false (by omega)
      have hsc : s ≤ cap := by omega
      have hsl : s ≤ len := by omega
      clear hE hcan hn1 hn2
      go_enter Try.func6, Try.ntmps6
      go_wp2_with fail
      refine (uint_any A len cap _ l w hr HA.out.2.1 (by omega)).mono ?_
      rintro e w' ⟨rfl, rfl⟩
      rw [hs, hz, ← hx]
      have HX := Lib.hid hx
      clear hx
      go_wp2
      refine wp_region_any (by kernel_rfl) ?_
      change wpAny _ _ _ _ _ _ _ (World.drew _)
      refine any_take (i := 0) (v := ?_) rfl (by kernel_rfl) (by kernel_rfl) (by kernel_rfl) (fun _ _ _ h => h) (by exact rfl) (by intro w; go_simp; try with_reducible rfl) (fun K hK => ?_); go_simp; refine hK _ _ ?_; clear hK K
      refine any_take (i := 1) (v := ?_) rfl (by kernel_rfl) (by kernel_rfl) (by kernel_rfl) (fun _ _ _ h => h) (by exact rfl) (by intro w; go_simp; try with_reducible rfl) (fun K hK => ?_); go_simp; refine hK _ _ ?_; clear hK K
      refine any_take (i := 2) (v := ?_) rfl (by kernel_rfl) (by kernel_rfl) (by kernel_rfl) (fun _ _ _ h => h) (by exact rfl) (by intro w; go_simp; try with_reducible rfl) (fun K hK => ?_); go_simp; refine hK _ _ ?_; clear hK K
      refine any_take (i := 3) (v := ?_) rfl (by kernel_rfl) (by kernel_rfl) (by kernel_rfl) (fun _ _ _ h => h) (by exact rfl) (by intro w; go_simp; try with_reducible rfl) (fun K hK => ?_); go_simp; refine hK _ _ ?_; clear hK K
      refine any_take (i := 4) (v := ?_) rfl (by kernel_rfl) (by kernel_rfl) (by kernel_rfl) (fun _ _ _ h => h) (by exact rfl) (by intro w; go_simp; try with_reducible rfl) (fun K hK => ?_); go_simp; refine hK _ _ ?_; clear hK K
      refine any_take (i := 5) (v := ?_) rfl (by kernel_rfl) (by kernel_rfl) (by kernel_rfl) (fun _ _ _ h => h) (by exact rfl) (by intro w; go_simp; try with_reducible rfl) (fun K hK => ?_); go_simp; refine hK _ _ ?_; clear hK K
      refine any_take (i := 6) (v := ?_) rfl (by kernel_rfl) (by kernel_rfl) (by kernel_rfl) (fun _ _ _ h => h) (by exact rfl) (by intro w; go_simp; try with_reducible rfl) (fun K hK => ?_); go_simp; refine hK _ _ ?_; clear hK K
      refine any_take (i := 7) (v := ?_) rfl (by kernel_rfl) (by kernel_rfl) (by kernel_rfl) (fun _ _ _ h => h) (by exact rfl) (by intro w; go_simp; try with_reducible rfl) (fun K hK => ?_); go_simp; refine hK _ _ ?_; clear hK K
      refine any_take (i := 8) (v := ?_) rfl (by kernel_rfl) (by kernel_rfl) (by kernel_rfl) (fun _ _ _ h => h) (by exact rfl) (by intro w; go_simp; try with_reducible rfl) (fun K hK => ?_); go_simp; refine hK _ _ ?_; clear hK K
      refine any_take (i := 9) (v := ?_) rfl (by kernel_rfl) (by kernel_rfl) (by kernel_rfl) (fun _ _ _ h => h) (by exact rfl) (by intro w; go_simp; try with_reducible rfl) (fun K hK => ?_); go_simp; refine hK _ _ ?_; clear hK K
      refine any_take (i := 10) (v := ?_) rfl (by kernel_rfl) (by kernel_rfl) (by kernel_rfl) (fun _ _ _ h => h) (by exact rfl) (by intro w; go_simp; try with_reducible rfl) (fun K hK => ?_); go_simp; refine hK _ _ ?_; clear hK K
      refine any_take (i := 11) (v := ?_) rfl (by kernel_rfl) (by kernel_rfl) (by kernel_rfl) (fun _ _ _ h => h) (by exact rfl) (by intro w; go_simp; try with_reducible rfl) (fun K hK => ?_); go_simp; refine hK _ _ ?_; clear hK K
      refine any_take (i := 12) (v := ?_) rfl (by kernel_rfl) (by kernel_rfl) (by kernel_rfl) (fun _ _ _ h => h) (by exact rfl) (by intro w; go_simp; try with_reducible rfl) (fun K hK => ?_); go_simp; refine hK _ _ ?_; clear hK K
      refine any_take (i := 14) (v := ?_) rfl (by kernel_rfl) (by kernel_rfl) (by kernel_rfl) (fun _ _ _ h => h) (by exact rfl) (by intro w; go_simp; try with_reducible rfl) (fun K hK => ?_); go_simp; refine hK _ _ ?_; clear hK K
      refine any_take (i := 15) (v := ?_) rfl (by kernel_rfl) (by kernel_rfl) (by kernel_rfl) (fun _ _ _ h => h) (by exact rfl) (by intro w; go_simp; try with_reducible rfl) (fun K hK => ?_); go_simp; refine hK _ _ ?_; clear hK K
      refine any_take (i := 16) (v := ?_) rfl (by kernel_rfl) (by kernel_rfl) (by kernel_rfl) (fun _ _ _ h => h) (by exact rfl) (by intro w; go_simp; try with_reducible rfl) (fun K hK => ?_); go_simp; refine hK _ _ ?_; clear hK K
      refine wpAny_ready (rs := [13]) (by kernel_rfl) (by simp) ?_
      refine AllReady.cons rfl (fun K hK => ?_) AllReady.nil
      go_simp
      go_wp2_with (go_at_call 10; refine (appUint_any none 0 0 0 [] x _ (Has.nil _ _ _) (fun _ => rfl) (by omega) (Nat.zero_le _) hx0 hx1).mono ?_; rintro e w1u ⟨⟨v1, rfl, hown⟩, hbn⟩; rw [← HE.out, Nat.zero_add, List.nil_append] at hown; obtain ⟨A1, c1, rfl, h1, _⟩ := Has.of_own hown)
      have hq := (Has.below' (show Has (World.drew _) _ A s _ from hr.take s (by omega)) hbn (Nat.le_refl _)).more hbn.size
      rw [← List.map_take] at hq
      refine wpAny_ready (rs := [17]) (by kernel_rfl) (by simp) ?_
      refine AllReady.cons rfl (fun K hK => ?_) AllReady.nil
      go_simp
      go_wp2_with (go_at_call 13; refine (bytes_any _ _ _ _ _ _ _ _ _ _ (by exact h1) (by exact hq)).mono ?_; rintro e w' ⟨rfl, rfl⟩; rw [← HE2.out, eqL_refl])
      refine any_take (i := 18) (v := ?_) rfl (by kernel_rfl) (by kernel_rfl) (by kernel_rfl) (fun _ _ _ h => h) (by exact rfl) (by intro w; go_simp; try with_reducible rfl) (fun K hK => ?_); go_simp; refine hK _ _ ?_; clear hK K
      refine any_take (i := 19) (v := ?_) rfl (by kernel_rfl) (by kernel_rfl) (by kernel_rfl) (fun _ _ _ h => h) (by exact rfl) (by intro w; go_simp; try with_reducible rfl) (fun K hK => ?_); go_simp; refine hK _ _ ?_; clear hK K
      refine any_take (i := 20) (v := ?_) rfl (by kernel_rfl) (by kernel_rfl) (by kernel_rfl) (fun _ _ _ h => h) (by exact rfl) (by intro w; go_simp; try with_reducible rfl) (fun K hK => ?_); go_simp; refine hK _ _ ?_; clear hK K
      refine wpAny_done (by kernel_rfl) ?_ _
      replace hr := (Has.below' (show Has (World.drew _) _ A len _ from hr) hbn (Nat.le_refl _)).more hbn.size
      replace hb := (hb.drew).trans (hbn.mono hb.size)
      clear h1 hq hbn hown
      clear hx0 hx1 hs1 hs2 hs3 hs4 hsc hsl hz hs HE HE2 HX
      by_cases htz : dte l = 0
      · obtain ⟨hn1, hn2, hcan, hy0⟩ := t_zero htz
        rw [HL.out] at hn2
        obtain ⟨t, ht⟩ : ∃ t : Nat, dtn l = (t : Int) := ⟨(dtn l).toNat, by omega⟩
        rw [ht, Int.toNat_natCast] at hcan
        obtain ⟨y, hyd⟩ : ∃ y, y = dt l := ⟨_, rfl⟩
        rw [← hyd] at hy0 hcan
        have hy1 : y.size ≤ 100000000 := by omega
        obtain ⟨T, hT⟩ : ∃ T, T = encT (ls y) := ⟨_, rfl⟩
        rw [← hT] at hcan
        have HT := Lib.hid hT
        have HT2 := Lib.hid hcan
        have ht1 : decide (t = 0) = false := decide_eq_false (by omega)
        have ht2 : decide ((t : Int) < 1) = false := decide_eq_false (by omega)
        have ht3 : decide (len < t) = false := decide_eq_false (by omega)
        have ht4 : decide ((len : Int) < (t : Int)) = false := decide_eq_false (by omega)
        have htc : t ≤ cap := by omega
        have htl : t ≤ len := by omega
        clear hT hcan hn1 hn2
        go_wp2_with fail
        refine (text_any A len cap _ l w1u hr HA.out.2.1 HA.out.2.2.1 (by omega)).mono ?_
        rintro e w' ⟨rfl, rfl⟩
        rw [ht, htz, ← hyd]
        have HY := Lib.hid hyd
        clear hyd
        go_wp2
        refine wp_region_any (by kernel_rfl) ?_
        change wpAny _ _ _ _ _ _ _ (World.drew _)
        refine any_take (i := 0) (v := ?_) rfl (by kernel_rfl) (by kernel_rfl) (by kernel_rfl) (fun _ _ _ h => h) (by exact rfl) (by intro w; go_simp; try with_reducible rfl) (fun K hK => ?_); go_simp; refine hK _ _ ?_; clear hK K
        refine any_take (i := 1) (v := ?_) rfl (by kernel_rfl) (by kernel_rfl) (by kernel_rfl) (fun _ _ _ h => h) (by exact rfl) (by intro w; go_simp; try with_reducible rfl) (fun K hK => ?_); go_simp; refine hK _ _ ?_; clear hK K
        refine any_take (i := 2) (v := ?_) rfl (by kernel_rfl) (by kernel_rfl) (by kernel_rfl) (fun _ _ _ h => h) (by exact rfl) (by intro w; go_simp; try with_reducible rfl) (fun K hK => ?_); go_simp; refine hK _ _ ?_; clear hK K
        refine any_take (i := 3) (v := ?_) rfl (by kernel_rfl) (by kernel_rfl) (by kernel_rfl) (fun _ _ _ h => h) (by exact rfl) (by intro w; go_simp; try with_reducible rfl) (fun K hK => ?_); go_simp; refine hK _ _ ?_; clear hK K
        refine any_take (i := 4) (v := ?_) rfl (by kernel_rfl) (by kernel_rfl) (by kernel_rfl) (fun _ _ _ h => h) (by exact rfl) (by intro w; go_simp; try with_reducible rfl) (fun K hK => ?_); go_simp; refine hK _ _ ?_; clear hK K
        refine any_take (i := 5) (v := ?_) rfl (by kernel_rfl) (by kernel_rfl) (by kernel_rfl) (fun _ _ _ h => h) (by exact rfl) (by intro w; go_simp; try with_reducible rfl) (fun K hK => ?_); go_simp; refine hK _ _ ?_; clear hK K
        refine any_take (i := 6) (v := ?_) rfl (by kernel_rfl) (by kernel_rfl) (by kernel_rfl) (fun _ _ _ h => h) (by exact rfl) (by intro w; go_simp; try with_reducible rfl) (fun K hK => ?_); go_simp; refine hK _ _ ?_; clear hK K
        refine any_take (i := 7) (v := ?_) rfl (by kernel_rfl) (by kernel_rfl) (by kernel_rfl) (fun _ _ _ h => h) (by exact rfl) (by intro w; go_simp; try with_reducible rfl) (fun K hK => ?_); go_simp; refine hK _ _ ?_; clear hK K
        refine any_take (i := 8) (v := ?_) rfl (by kernel_rfl) (by kernel_rfl) (by kernel_rfl) (fun _ _ _ h => h) (by exact rfl) (by intro w; go_simp; try with_reducible rfl) (fun K hK => ?_); go_simp; refine hK _ _ ?_; clear hK K
        refine any_take (i := 9) (v := ?_) rfl (by kernel_rfl) (by kernel_rfl) (by kernel_rfl) (fun _ _ _ h => h) (by exact rfl) (by intro w; go_simp; try with_reducible rfl) (fun K hK => ?_); go_simp; refine hK _ _ ?_; clear hK K
        refine any_take (i := 10) (v := ?_) rfl (by kernel_rfl) (by kernel_rfl) (by kernel_rfl) (fun _ _ _ h => h) (by exact rfl) (by intro w; go_simp; try with_reducible rfl) (fun K hK => ?_); go_simp; refine hK _ _ ?_; clear hK K
        refine any_take (i := 11) (v := ?_) rfl (by kernel_rfl) (by kernel_rfl) (by kernel_rfl) (fun _ _ _ h => h) (by exact rfl) (by intro w; go_simp; try with_reducible rfl) (fun K hK => ?_); go_simp; refine hK _ _ ?_; clear hK K
        refine any_take (i := 12) (v := ?_) rfl (by kernel_rfl) (by kernel_rfl) (by kernel_rfl) (fun _ _ _ h => h) (by exact rfl) (by intro w; go_simp; try with_reducible rfl) (fun K hK => ?_); go_simp; refine hK _ _ ?_; clear hK K
        refine any_take (i := 14) (v := ?_) rfl (by kernel_rfl) (by kernel_rfl) (by kernel_rfl) (fun _ _ _ h => h) (by exact rfl) (by intro w; go_simp; try with_reducible rfl) (fun K hK => ?_); go_simp; refine hK _ _ ?_; clear hK K
        refine any_take (i := 15) (v := ?_) rfl (by kernel_rfl) (by kernel_rfl) (by kernel_rfl) (fun _ _ _ h => h) (by exact rfl) (by intro w; go_simp; try with_reducible rfl) (fun K hK => ?_); go_simp; refine hK _ _ ?_; clear hK K
        refine any_take (i := 16) (v := ?_) rfl (by kernel_rfl) (by kernel_rfl) (by kernel_rfl) (fun _ _ _ h => h) (by exact rfl) (by intro w; go_simp; try with_reducible rfl) (fun K hK => ?_); go_simp; refine hK _ _ ?_; clear hK K
        refine wpAny_ready (rs := [13]) (by kernel_rfl) (by simp) ?_
        refine AllReady.cons rfl (fun K hK => ?_) AllReady.nil
        go_simp
        go_wp2_with (go_at_call 11; refine (appText_any none 0 0 0 [] y _ (Has.nil _ _ _) (fun _ => rfl) (by omega) (Nat.zero_le _) hy1).mono ?_; rintro e w1t ⟨⟨v1, rfl, hown⟩, hbn⟩; rw [← HT.out, Nat.zero_add, List.nil_append] at hown; obtain ⟨A1, c1, rfl, h1, _⟩ := Has.of_own hown)
        have hq := (Has.below' (show Has (World.drew _) _ A t _ from hr.take t (by omega)) hbn (Nat.le_refl _)).more hbn.size
        rw [← List.map_take] at hq
        refine wpAny_ready (rs := [17]) (by kernel_rfl) (by simp) ?_
        refine AllReady.cons rfl (fun K hK => ?_) AllReady.nil
        go_simp
        go_wp2_with (go_at_call 13; refine (bytes_any _ _ _ _ _ _ _ _ _ _ (by exact h1) (by exact hq)).mono ?_; rintro e w' ⟨rfl, rfl⟩; rw [← HT2.out, eqL_refl])
        refine any_take (i := 18) (v := ?_) rfl (by kernel_rfl) (by kernel_rfl) (by kernel_rfl) (fun _ _ _ h => h) (by exact rfl) (by intro w; go_simp; try with_reducible rfl) (fun K hK => ?_); go_simp; refine hK _ _ ?_; clear hK K
        refine any_take (i := 19) (v := ?_) rfl (by kernel_rfl) (by kernel_rfl) (by kernel_rfl) (fun _ _ _ h => h) (by exact rfl) (by intro w; go_simp; try with_reducible rfl) (fun K hK => ?_); go_simp; refine hK _ _ ?_; clear hK K
        refine any_take (i := 20) (v := ?_) rfl (by kernel_rfl) (by kernel_rfl) (by kernel_rfl) (fun _ _ _ h => h) (by exact rfl) (by intro w; go_simp; try with_reducible rfl) (fun K hK => ?_); go_simp; refine hK _ _ ?_; clear hK K
        refine wpAny_done (by kernel_rfl) ?_ _
        replace hr := (Has.below' (show Has (World.drew _) _ A len _ from hr) hbn (Nat.le_refl _)).more hbn.size
        replace hb := (hb.drew).trans (hbn.mono hb.size)
        clear h1 hq hbn hown
        go_wp2_with fail
        refine (awake3_any _).mono ?_
        rintro e w3 ⟨rfl, hb3⟩
        go_wp2
        go_ret
        exact ⟨rfl, hb.trans (hb3.mono hb.size)⟩
      · have htb : (dte l == 0) = false := by simpa using htz
        clear htz
        go_wp2_with fail
        refine (text_any A len cap _ l w1u hr HA.out.2.1 HA.out.2.2.1 (by omega)).mono ?_
        rintro e w' ⟨rfl, rfl⟩
        go_wp2
        refine wp_region_any (by kernel_rfl) ?_
        change wpAny _ _ _ _ _ _ _ (World.drew _)
        refine any_take (i := 0) (v := ?_) rfl (by kernel_rfl) (by kernel_rfl) (by kernel_rfl) (fun _ _ _ h => h) (by exact rfl) (by intro w; go_simp; try with_reducible rfl) (fun K hK => ?_); go_simp; refine hK _ _ ?_; clear hK K
        refine any_take (i := 1) (v := ?_) rfl (by kernel_rfl) (by kernel_rfl) (by kernel_rfl) (fun _ _ _ h => h) (by exact rfl) (by intro w; go_simp; try with_reducible rfl) (fun K hK => ?_); go_simp; refine hK _ _ ?_; clear hK K
        refine any_take (i := 2) (v := ?_) rfl (by kernel_rfl) (by kernel_rfl) (by kernel_rfl) (fun _ _ _ h => h) (by exact rfl) (by intro w; go_simp; try with_reducible rfl) (fun K hK => ?_); go_simp; refine hK _ _ ?_; clear hK K
        refine any_skip (i := 3) rfl (by kernel_rfl) (by kernel_rfl) (by kernel_rfl) (fun _ _ _ h => h) (by exact rfl) (fun K hK => ?_); go_simp; refine hK _ _ ?_; clear hK K
        refine any_skip (i := 4) rfl (by kernel_rfl) (by kernel_rfl) (by kernel_rfl) (fun _ _ _ h => h) (by exact rfl) (fun K hK => ?_); go_simp; refine hK _ _ ?_; clear hK K
        refine any_skip (i := 5) rfl (by kernel_rfl) (by kernel_rfl) (by kernel_rfl) (fun _ _ _ h => h) (by exact rfl) (fun K hK => ?_); go_simp; refine hK _ _ ?_; clear hK K
        refine any_skip (i := 6) rfl (by kernel_rfl) (by kernel_rfl) (by kernel_rfl) (fun _ _ _ h => h) (by exact rfl) (fun K hK => ?_); go_simp; refine hK _ _ ?_; clear hK K
        refine any_skip (i := 7) rfl (by kernel_rfl) (by kernel_rfl) (by kernel_rfl) (fun _ _ _ h => h) (by exact rfl) (fun K hK => ?_); go_simp; refine hK _ _ ?_; clear hK K
        refine any_skip (i := 8) rfl (by kernel_rfl) (by kernel_rfl) (by kernel_rfl) (fun _ _ _ h => h) (by exact rfl) (fun K hK => ?_); go_simp; refine hK _ _ ?_; clear hK K
        refine any_skip (i := 9) rfl (by kernel_rfl) (by kernel_rfl) (by kernel_rfl) (fun _ _ _ h => h) (by exact rfl) (fun K hK => ?_); go_simp; refine hK _ _ ?_; clear hK K
        refine any_skip (i := 10) rfl (by kernel_rfl) (by kernel_rfl) (by kernel_rfl) (fun _ _ _ h => h) (by exact rfl) (fun K hK => ?_); go_simp; refine hK _ _ ?_; clear hK K
        refine any_skip (i := 11) rfl (by kernel_rfl) (by kernel_rfl) (by kernel_rfl) (fun _ _ _ h => h) (by exact rfl) (fun K hK => ?_); go_simp; refine hK _ _ ?_; clear hK K
        refine any_skip (i := 12) rfl (by kernel_rfl) (by kernel_rfl) (by kernel_rfl) (fun _ _ _ h => h) (by exact rfl) (fun K hK => ?_); go_simp; refine hK _ _ ?_; clear hK K
        refine any_skip (i := 13) rfl (by kernel_rfl) (by kernel_rfl) (by kernel_rfl) (fun _ _ _ h => h) (by exact rfl) (fun K hK => ?_); go_simp; refine hK _ _ ?_; clear hK K
        refine any_skip (i := 14) rfl (by kernel_rfl) (by kernel_rfl) (by kernel_rfl) (fun _ _ _ h => h) (by exact rfl) (fun K hK => ?_); go_simp; refine hK _ _ ?_; clear hK K
        refine any_skip (i := 15) rfl (by kernel_rfl) (by kernel_rfl) (by kernel_rfl) (fun _ _ _ h => h) (by exact rfl) (fun K hK => ?_); go_simp; refine hK _ _ ?_; clear hK K
        refine any_skip (i := 16) rfl (by kernel_rfl) (by kernel_rfl) (by kernel_rfl) (fun _ _ _ h => h) (by exact rfl) (fun K hK => ?_); go_simp; refine hK _ _ ?_; clear hK K
        refine any_skip (i := 17) rfl (by kernel_rfl) (by kernel_rfl) (by kernel_rfl) (fun _ _ _ h => h) (by exact rfl) (fun K hK => ?_); go_simp; refine hK _ _ ?_; clear hK K
        refine any_skip (i := 18) rfl (by kernel_rfl) (by kernel_rfl) (by kernel_rfl) (fun _ _ _ h => h) (by exact rfl) (fun K hK => ?_); go_simp; refine hK _ _ ?_; clear hK K
        refine any_skip (i := 19) rfl (by kernel_rfl) (by kernel_rfl) (by kernel_rfl) (fun _ _ _ h => h) (by exact rfl) (fun K hK => ?_); go_simp; refine hK _ _ ?_; clear hK K
        refine any_take (i := 20) (v := ?_) rfl (by kernel_rfl) (by kernel_rfl) (by kernel_rfl) (fun _ _ _ h => h) (by exact rfl) (by intro w; go_simp; try with_reducible rfl) (fun K hK => ?_); go_simp; refine hK _ _ ?_; clear hK K
        refine wpAny_done (by kernel_rfl) ?_ _
        replace hr : Has (World.drew w1u) _ A len _ := hr
        replace hb := hb.drew
        generalize World.drew w1u = w1t at *
        go_wp2_with fail
        refine (awake3_any _).mono ?_
        rintro e w3 ⟨rfl, hb3⟩
        go_wp2
        go_ret
        exact ⟨rfl, hb.trans (hb3.mono hb.size)⟩
    · have hzb : (de l == 0) = false := by simpa using hz
      clear hz
      go_enter Try.func6, Try.ntmps6
      go_wp2_with fail
      refine (uint_any A len cap _ l w hr HA.out.2.1 (by omega)).mono ?_
      rintro e w' ⟨rfl, rfl⟩
      go_wp2
      refine wp_region_any (by kernel_rfl) ?_
      change wpAny _ _ _ _ _ _ _ (World.drew _)
      refine any_take (i := 0) (v := ?_) rfl (by kernel_rfl) (by kernel_rfl) (by kernel_rfl) (fun _ _ _ h => h) (by exact rfl) (by intro w; go_simp; try with_reducible rfl) (fun K hK => ?_); go_simp; refine hK _ _ ?_; clear hK K
      refine any_take (i := 1) (v := ?_) rfl (by kernel_rfl) (by kernel_rfl) (by kernel_rfl) (fun _ _ _ h => h) (by exact rfl) (by intro w; go_simp; try with_reducible rfl) (fun K hK => ?_); go_simp; refine hK _ _ ?_; clear hK K
      refine any_take (i := 2) (v := ?_) rfl (by kernel_rfl) (by kernel_rfl) (by kernel_rfl) (fun _ _ _ h => h) (by exact rfl) (by intro w; go_simp; try with_reducible rfl) (fun K hK => ?_); go_simp; refine hK _ _ ?_; clear hK K
      refine any_skip (i := 3) rfl (by kernel_rfl) (by kernel_rfl) (by kernel_rfl) (fun _ _ _ h => h) (by exact rfl) (fun K hK => ?_); go_simp; refine hK _ _ ?_; clear hK K
      refine any_skip (i := 4) rfl (by kernel_rfl) (by kernel_rfl) (by kernel_rfl) (fun _ _ _ h => h) (by exact rfl) (fun K hK => ?_); go_simp; refine hK _ _ ?_; clear hK K
      refine any_skip (i := 5) rfl (by kernel_rfl) (by kernel_rfl) (by kernel_rfl) (fun _ _ _ h => h) (by exact rfl) (fun K hK => ?_); go_simp; refine hK _ _ ?_; clear hK K
      refine any_skip (i := 6) rfl (by kernel_rfl) (by kernel_rfl) (by kernel_rfl) (fun _ _ _ h => h) (by exact rfl) (fun K hK => ?_); go_simp; refine hK _ _ ?_; clear hK K
      refine any_skip (i := 7) rfl (by kernel_rfl) (by kernel_rfl) (by kernel_rfl) (fun _ _ _ h => h) (by exact rfl) (fun K hK => ?_); go_simp; refine hK _ _ ?_; clear hK K
      refine any_skip (i := 8) rfl (by kernel_rfl) (by kernel_rfl) (by kernel_rfl) (fun _ _ _ h => h) (by exact rfl) (fun K hK => ?_); go_simp; refine hK _ _ ?_; clear hK K
      refine any_skip (i := 9) rfl (by kernel_rfl) (by kernel_rfl) (by kernel_rfl) (fun _ _ _ h => h) (by exact rfl) (fun K hK => ?_); go_simp; refine hK _ _ ?_; clear hK K
      refine any_skip (i := 10) rfl (by kernel_rfl) (by kernel_rfl) (by kernel_rfl) (fun _ _ _ h => h) (by exact rfl) (fun K hK => ?_); go_simp; refine hK _ _ ?_; clear hK K
      refine any_skip (i := 11) rfl (by kernel_rfl) (by kernel_rfl) (by kernel_rfl) (fun _ _ _ h => h) (by exact rfl) (fun K hK => ?_); go_simp; refine hK _ _ ?_; clear hK K
      refine any_skip (i := 12) rfl (by kernel_rfl) (by kernel_rfl) (by kernel_rfl) (fun _ _ _ h => h) (by exact rfl) (fun K hK => ?_); go_simp; refine hK _ _ ?_; clear hK K
      refine any_skip (i := 13) rfl (by kernel_rfl) (by kernel_rfl) (by kernel_rfl) (fun _ _ _ h => h) (by exact rfl) (fun K hK => ?_); go_simp; refine hK _ _ ?_; clear hK K
      refine any_skip (i := 14) rfl (by kernel_rfl) (by kernel_rfl) (by kernel_rfl) (fun _ _ _ h => h) (by exact rfl) (fun K hK => ?_); go_simp; refine hK _ _ ?_; clear hK K
      refine any_skip (i := 15) rfl (by kernel_rfl) (by kernel_rfl) (by kernel_rfl) (fun _ _ _ h => h) (by exact rfl) (fun K hK => ?_); go_simp; refine hK _ _ ?_; clear hK K
      refine any_skip (i := 16) rfl (by kernel_rfl) (by kernel_rfl) (by kernel_rfl) (fun _ _ _ h => h) (by exact rfl) (fun K hK => ?_); go_simp; refine hK _ _ ?_; clear hK K
      refine any_skip (i := 17) rfl (by kernel_rfl) (by kernel_rfl) (by kernel_rfl) (fun _ _ _ h => h) (by exact rfl) (fun K hK => ?_); go_simp; refine hK _ _ ?_; clear hK K
      refine any_skip (i := 18) rfl (by kernel_rfl) (by kernel_rfl) (by kernel_rfl) (fun _ _ _ h => h) (by exact rfl) (fun K hK => ?_); go_simp; refine hK _ _ ?_; clear hK K
      refine any_skip (i := 19) rfl (by kernel_rfl) (by kernel_rfl) (by kernel_rfl) (fun _ _ _ h => h) (by exact rfl) (fun K hK => ?_); go_simp; refine hK _ _ ?_; clear hK K
      refine any_take (i := 20) (v := ?_) rfl (by kernel_rfl) (by kernel_rfl) (by kernel_rfl) (fun _ _ _ h => h) (by exact rfl) (by intro w; go_simp; try with_reducible rfl) (fun K hK => ?_); go_simp; refine hK _ _ ?_; clear hK K
      refine wpAny_done (by kernel_rfl) ?_ _
      replace hr : Has (World.drew w) _ A len _ := hr
      replace hb := hb.drew
      generalize World.drew w = w1u at *
      replace hr := hr.more (show _ ≤ w1u.heap.size by first | exact hb.size | exact Nat.le_refl _)
      by_cases htz : dte l = 0
      · obtain ⟨hn1, hn2, hcan, hy0⟩ := t_zero htz
        rw [HL.out] at hn2
        obtain ⟨t, ht⟩ : ∃ t : Nat, dtn l = (t : Int) := ⟨(dtn l).toNat, by omega⟩
        rw [ht, Int.toNat_natCast] at hcan
        obtain ⟨y, hyd⟩ : ∃ y, y = dt l := ⟨_, rfl⟩
        rw [← hyd] at hy0 hcan
        have hy1 : y.size ≤ 100000000 := by omega
        obtain ⟨T, hT⟩ : ∃ T, T = encT (ls y) := ⟨_, rfl⟩
        rw [← hT] at hcan
        have HT := Lib.hid hT
        have HT2 := Lib.hid hcan
        have ht1 : decide (t = 0) = false := decide_eq_false (by omega)
        have ht2 : decide ((t : Int) < 1) = false := decide_eq_false (by omega)
        have ht3 : decide (len < t) = false := decide_eq_false (by omega)
        have ht4 : decide ((len : Int) < (t : Int)) = false := decide_eq_false (by omega)
        have htc : t ≤ cap := by omega
        have htl : t ≤ len := by omega
        clear hT hcan hn1 hn2
        go_wp2_with fail
        refine (text_any A len cap _ l w1u hr HA.out.2.1 HA.out.2.2.1 (by omega)).mono ?_
        rintro e w' ⟨rfl, rfl⟩
        rw [ht, htz, ← hyd]
        have HY := Lib.hid hyd
        clear hyd
        go_wp2
        refine wp_region_any (by kernel_rfl) ?_
        change wpAny _ _ _ _ _ _ _ (World.drew _)
        refine any_take (i := 0) (v := ?_) rfl (by kernel_rfl) (by kernel_rfl) (by kernel_rfl) (fun _ _ _ h => h) (by exact rfl) (by intro w; go_simp; try with_reducible rfl) (fun K hK => ?_); go_simp; refine hK _ _ ?_; clear hK K
        refine any_take (i := 1) (v := ?_) rfl (by kernel_rfl) (by kernel_rfl) (by kernel_rfl) (fun _ _ _ h => h) (by exact rfl) (by intro w; go_simp; try with_reducible rfl) (fun K hK => ?_); go_simp; refine hK _ _ ?_; clear hK K
        refine any_take (i := 2) (v := ?_) rfl (by kernel_rfl) (by kernel_rfl) (by kernel_rfl) (fun _ _ _ h => h) (by exact rfl) (by intro w; go_simp; try with_reducible rfl) (fun K hK => ?_); go_simp; refine hK _ _ ?_; clear hK K
        refine any_take (i := 3) (v := ?_) rfl (by kernel_rfl) (by kernel_rfl) (by kernel_rfl) (fun _ _ _ h => h) (by exact rfl) (by intro w; go_simp; try with_reducible rfl) (fun K hK => ?_); go_simp; refine hK _ _ ?_; clear hK K
        refine any_take (i := 4) (v := ?_) rfl (by kernel_rfl) (by kernel_rfl) (by kernel_rfl) (fun _ _ _ h => h) (by exact rfl) (by intro w; go_simp; try with_reducible rfl) (fun K hK => ?_); go_simp; refine hK _ _ ?_; clear hK K
        refine any_take (i := 5) (v := ?_) rfl (by kernel_rfl) (by kernel_rfl) (by kernel_rfl) (fun _ _ _ h => h) (by exact rfl) (by intro w; go_simp; try with_reducible rfl) (fun K hK => ?_); go_simp; refine hK _ _ ?_; clear hK K
        refine any_take (i := 6) (v := ?_) rfl (by kernel_rfl) (by kernel_rfl) (by kernel_rfl) (fun _ _ _ h => h) (by exact rfl) (by intro w; go_simp; try with_reducible rfl) (fun K hK => ?_); go_simp; refine hK _ _ ?_; clear hK K
        refine any_take (i := 7) (v := ?_) rfl (by kernel_rfl) (by kernel_rfl) (by kernel_rfl) (fun _ _ _ h => h) (by exact rfl) (by intro w; go_simp; try with_reducible rfl) (fun K hK => ?_); go_simp; refine hK _ _ ?_; clear hK K
        refine any_take (i := 8) (v := ?_) rfl (by kernel_rfl) (by kernel_rfl) (by kernel_rfl) (fun _ _ _ h => h) (by exact rfl) (by intro w; go_simp; try with_reducible rfl) (fun K hK => ?_); go_simp; refine hK _ _ ?_; clear hK K
        refine any_take (i := 9) (v := ?_) rfl (by kernel_rfl) (by kernel_rfl) (by kernel_rfl) (fun _ _ _ h => h) (by exact rfl) (by intro w; go_simp; try with_reducible rfl) (fun K hK => ?_); go_simp; refine hK _ _ ?_; clear hK K
        refine any_take (i := 10) (v := ?_) rfl (by kernel_rfl) (by kernel_rfl) (by kernel_rfl) (fun _ _ _ h => h) (by exact rfl) (by intro w; go_simp; try with_reducible rfl) (fun K hK => ?_); go_simp; refine hK _ _ ?_; clear hK K
        refine any_take (i := 11) (v := ?_) rfl (by kernel_rfl) (by kernel_rfl) (by kernel_rfl) (fun _ _ _ h => h) (by exact rfl) (by intro w; go_simp; try with_reducible rfl) (fun K hK => ?_); go_simp; refine hK _ _ ?_; clear hK K
        refine any_take (i := 12) (v := ?_) rfl (by kernel_rfl) (by kernel_rfl) (by kernel_rfl) (fun _ _ _ h => h) (by exact rfl) (by intro w; go_simp; try with_reducible rfl) (fun K hK => ?_); go_simp; refine hK _ _ ?_; clear hK K
        refine any_take (i := 14) (v := ?_) rfl (by kernel_rfl) (by kernel_rfl) (by kernel_rfl) (fun _ _ _ h => h) (by exact rfl) (by intro w; go_simp; try with_reducible rfl) (fun K hK => ?_); go_simp; refine hK _ _ ?_; clear hK K
        refine any_take (i := 15) (v := ?_) rfl (by kernel_rfl) (by kernel_rfl) (by kernel_rfl) (fun _ _ _ h => h) (by exact rfl) (by intro w; go_simp; try with_reducible rfl) (fun K hK => ?_); go_simp; refine hK _ _ ?_; clear hK K
        refine any_take (i := 16) (v := ?_) rfl (by kernel_rfl) (by kernel_rfl) (by kernel_rfl) (fun _ _ _ h => h) (by exact rfl) (by intro w; go_simp; try with_reducible rfl) (fun K hK => ?_); go_simp; refine hK _ _ ?_; clear hK K
        refine wpAny_ready (rs := [13]) (by kernel_rfl) (by simp) ?_
        refine AllReady.cons rfl (fun K hK => ?_) AllReady.nil
        go_simp
        go_wp2_with (go_at_call 11; refine (appText_any none 0 0 0 [] y _ (Has.nil _ _ _) (fun _ => rfl) (by omega) (Nat.zero_le _) hy1).mono ?_; rintro e w1t ⟨⟨v1, rfl, hown⟩, hbn⟩; rw [← HT.out, Nat.zero_add, List.nil_append] at hown; obtain ⟨A1, c1, rfl, h1, _⟩ := Has.of_own hown)
        have hq := (Has.below' (show Has (World.drew _) _ A t _ from hr.take t (by omega)) hbn (Nat.le_refl _)).more hbn.size
        rw [← List.map_take] at hq
        refine wpAny_ready (rs := [17]) (by kernel_rfl) (by simp) ?_
        refine AllReady.cons rfl (fun K hK => ?_) AllReady.nil
        go_simp
        go_wp2_with (go_at_call 13; refine (bytes_any _ _ _ _ _ _ _ _ _ _ (by exact h1) (by exact hq)).mono ?_; rintro e w' ⟨rfl, rfl⟩; rw [← HT2.out, eqL_refl])
        refine any_take (i := 18) (v := ?_) rfl (by kernel_rfl) (by kernel_rfl) (by kernel_rfl) (fun _ _ _ h => h) (by exact rfl) (by intro w; go_simp; try with_reducible rfl) (fun K hK => ?_); go_simp; refine hK _ _ ?_; clear hK K
        refine any_take (i := 19) (v := ?_) rfl (by kernel_rfl) (by kernel_rfl) (by kernel_rfl) (fun _ _ _ h => h) (by exact rfl) (by intro w; go_simp; try with_reducible rfl) (fun K hK => ?_); go_simp; refine hK _ _ ?_; clear hK K
        refine any_take (i := 20) (v := ?_) rfl (by kernel_rfl) (by kernel_rfl) (by kernel_rfl) (fun _ _ _ h => h) (by exact rfl) (by intro w; go_simp; try with_reducible rfl) (fun K hK => ?_); go_simp; refine hK _ _ ?_; clear hK K
        refine wpAny_done (by kernel_rfl) ?_ _
        replace hr := (Has.below' (show Has (World.drew _) _ A len _ from hr) hbn (Nat.le_refl _)).more hbn.size
        replace hb := (hb.drew).trans (hbn.mono hb.size)
        clear h1 hq hbn hown
        go_wp2_with fail
        refine (awake3_any _).mono ?_
        rintro e w3 ⟨rfl, hb3⟩
        go_wp2
        go_ret
        exact ⟨rfl, hb.trans (hb3.mono hb.size)⟩
      · have htb : (dte l == 0) = false := by simpa using htz
        clear htz
        go_wp2_with fail
        refine (text_any A len cap _ l w1u hr HA.out.2.1 HA.out.2.2.1 (by omega)).mono ?_
        rintro e w' ⟨rfl, rfl⟩
        go_wp2
        refine wp_region_any (by kernel_rfl) ?_
        change wpAny _ _ _ _ _ _ _ (World.drew _)
        refine any_take (i := 0) (v := ?_) rfl (by kernel_rfl) (by kernel_rfl) (by kernel_rfl) (fun _ _ _ h => h) (by exact rfl) (by intro w; go_simp; try with_reducible rfl) (fun K hK => ?_); go_simp; refine hK _ _ ?_; clear hK K
        refine any_take (i := 1) (v := ?_) rfl (by kernel_rfl) (by kernel_rfl) (by kernel_rfl) (fun _ _ _ h => h) (by exact rfl) (by intro w; go_simp; try with_reducible rfl) (fun K hK => ?_); go_simp; refine hK _ _ ?_; clear hK K
        refine any_take (i := 2) (v := ?_) rfl (by kernel_rfl) (by kernel_rfl) (by kernel_rfl) (fun _ _ _ h => h) (by exact rfl) (by intro w; go_simp; try with_reducible rfl) (fun K hK => ?_); go_simp; refine hK _ _ ?_; clear hK K
        refine any_skip (i := 3) rfl (by kernel_rfl) (by kernel_rfl) (by kernel_rfl) (fun _ _ _ h => h) (by exact rfl) (fun K hK => ?_); go_simp; refine hK _ _ ?_; clear hK K
        refine any_skip (i := 4) rfl (by kernel_rfl) (by kernel_rfl) (by kernel_rfl) (fun _ _ _ h => h) (by exact rfl) (fun K hK => ?_); go_simp; refine hK _ _ ?_; clear hK K
        refine any_skip (i := 5) rfl (by kernel_rfl) (by kernel_rfl) (by kernel_rfl) (fun _ _ _ h => h) (by exact rfl) (fun K hK => ?_); go_simp; refine hK _ _ ?_; clear hK K
        refine any_skip (i := 6) rfl (by kernel_rfl) (by kernel_rfl) (by kernel_rfl) (fun _ _ _ h => h) (by exact rfl) (fun K hK => ?_); go_simp; refine hK _ _ ?_; clear hK K
        refine any_skip (i := 7) rfl (by kernel_rfl) (by kernel_rfl) (by kernel_rfl) (fun _ _ _ h => h) (by exact rfl) (fun K hK => ?_); go_simp; refine hK _ _ ?_; clear hK K
        refine any_skip (i := 8) rfl (by kernel_rfl) (by kernel_rfl) (by kernel_rfl) (fun _ _ _ h => h) (by exact rfl) (fun K hK => ?_); go_simp; refine hK _ _ ?_; clear hK K
        refine any_skip (i := 9) rfl (by kernel_rfl) (by kernel_rfl) (by kernel_rfl) (fun _ _ _ h => h) (by exact rfl) (fun K hK => ?_); go_simp; refine hK _ _ ?_; clear hK K
        refine any_skip (i := 10) rfl (by kernel_rfl) (by kernel_rfl) (by kernel_rfl) (fun _ _ _ h => h) (by exact rfl) (fun K hK => ?_); go_simp; refine hK _ _ ?_; clear hK K
        refine any_skip (i := 11) rfl (by kernel_rfl) (by kernel_rfl) (by kernel_rfl) (fun _ _ _ h => h) (by exact rfl) (fun K hK => ?_); go_simp; refine hK _ _ ?_; clear hK K
        refine any_skip (i := 12) rfl (by kernel_rfl) (by kernel_rfl) (by kernel_rfl) (fun _ _ _ h => h) (by exact rfl) (fun K hK => ?_); go_simp; refine hK _ _ ?_; clear hK K
        refine any_skip (i := 13) rfl (by kernel_rfl) (by kernel_rfl) (by kernel_rfl) (fun _ _ _ h => h) (by exact rfl) (fun K hK => ?_); go_simp; refine hK _ _ ?_; clear hK K
        refine any_skip (i := 14) rfl (by kernel_rfl) (by kernel_rfl) (by kernel_rfl) (fun _ _ _ h => h) (by exact rfl) (fun K hK => ?_); go_simp; refine hK _ _ ?_; clear hK K
        refine any_skip (i := 15) rfl (by kernel_rfl) (by kernel_rfl) (by kernel_rfl) (fun _ _ _ h => h) (by exact rfl) (fun K hK => ?_); go_simp; refine hK _ _ ?_; clear hK K
        refine any_skip (i := 16) rfl (by kernel_rfl) (by kernel_rfl) (by kernel_rfl) (fun _ _ _ h => h) (by exact rfl) (fun K hK => ?_); go_simp; refine hK _ _ ?_; clear hK K
        refine any_skip (i := 17) rfl (by kernel_rfl) (by kernel_rfl) (by kernel_rfl) (fun _ _ _ h => h) (by exact rfl) (fun K hK => ?_); go_simp; refine hK _ _ ?_; clear hK K
        refine any_skip (i := 18) rfl (by kernel_rfl) (by kernel_rfl) (by kernel_rfl) (fun _ _ _ h => h) (by exact rfl) (fun K hK => ?_); go_simp; refine hK _ _ ?_; clear hK K
        refine any_skip (i := 19) rfl (by kernel_rfl) (by kernel_rfl) (by kernel_rfl) (fun _ _ _ h => h) (by exact rfl) (fun K hK => ?_); go_simp; refine hK _ _ ?_; clear hK K
        refine any_take (i := 20) (v := ?_) rfl (by kernel_rfl) (by kernel_rfl) (by kernel_rfl) (fun _ _ _ h => h) (by exact rfl) (by intro w; go_simp; try with_reducible rfl) (fun K hK => ?_); go_simp; refine hK _ _ ?_; clear hK K
        refine wpAny_done (by kernel_rfl) ?_ _
        replace hr : Has (World.drew w1u) _ A len _ := hr
        replace hb := hb.drew
        generalize World.drew w1u = w1t at *
        go_wp2_with fail
        refine (awake3_any _).mono ?_
        rintro e w3 ⟨rfl, hb3⟩
        go_wp2
        go_ret
        exact ⟨rfl, hb.trans (hb3.mono hb.size)⟩
  · have hlen' : 6000 < (len : Int) := by omega
    go_enter Try.func6, Try.ntmps6
    go_wp2_with fail
    refine (awake3_any _).mono ?_
    rintro e w2 ⟨rfl, hb2⟩
    go_wp2
    go_ret
    exact ⟨rfl, hb2⟩

end Go.Proofs.Ytealjcpgcghfpaa
