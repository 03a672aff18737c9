/-
  The walk of CspMore: it returns true.
-/
import Derived.Test.YtgilpheclmmolaaCsY
import Derived.Test.YtgilpheclmmolaaKeepQ
namespace Go.Proofs.Ytgilpheclmmolaa
open Go.RowKit

theorem own_made (w : World) (base : Nat) (hb : base ≤ w.heap.size) : (w.alloc (.cells #[] 9)).ownsRow base 9 1 (.slice (some ⟨w.heap.size, 0, none⟩) 0 0) 0 (wv []) :=
  ⟨rfl, .inr ⟨_, 0, #[], rfl, hb, World.alloc_heap_new w _, Nat.le_refl _, Nat.zero_le _, rfl, rfl⟩⟩
theorem slice_to (A : Option Addr) (n2 k2 n1 : Nat) (h : n1 ≤ k2) (hA : A = none → k2 = 0) (W : World) : (Instr.slice 22 (.slice A n2 k2) none (some (.int .i64 (n1 : Int))) none).run Try.prog W = .ok (.slice A n1 k2) W := by
  obtain ⟨i9, hi9, _, _, _⟩ := info_parts infoStr
  cases A with
  | none =>
    obtain rfl := hA rfl
    obtain rfl : n1 = 0 := by omega
    simp [Instr.slice, run_underlying tyStrs, Instr.sliceBounds, Instr.sliceBound, asIntOf, sizeOf, typeInfo, go_sem, Result.andThen, hi9]
  | some a =>
    simp [Instr.slice, run_underlying tyStrs, Instr.sliceBounds, Instr.sliceBound, asIntOf, sizeOf, typeInfo, go_sem, Result.andThen, h, hi9]

set_option maxRecDepth 20000 in
set_option maxHeartbeats 8000000 in
theorem walkCW (A : Option Addr) (n cap : Nat) (s : ByteArray) (w : World) (hI : ∃ PS, InStr w A n cap PS) (_ : s.size ≤ maxLen) :
    Calls Try.prog 6 #[.slice A n cap, .string s] w (Yes w) := by
  obtain ⟨PS, hI⟩ := hI
  obtain ⟨vs, rfl, hH, hlm, hA⟩ := in_wv hI
  clear hI
  have cw := awake20_any
  have csm := small20_any A cap vs w hlm hH
  cases hq : smB vs with
  | false =>
    rw [hq] at csm
    clear hH hq
    go_enter Try.func6, Try.ntmps6
    go_wp2_with fail
    refine csm.mono ?_
    rintro e w1 ⟨rfl, rfl⟩
    go_wp2_with fail
    refine (cw _).mono ?_
    rintro e w1 ⟨rfl, hb⟩
    go_wp2
    go_ret
    exact ⟨rfl, hb⟩
  | true =>
    obtain ⟨h12, hsz⟩ := small_sizes hq
    rw [hq] at csm
    clear hq
    by_cases hbig : 4096 < s.size
    · have hd : decide ((4096 : Int) < (s.size : Int)) = true := decide_eq_true (by omega)
      clear hH
      go_enter Try.func6, Try.ntmps6
      go_wp2_with fail
      refine csm.mono ?_
      rintro e w1 ⟨rfl, rfl⟩
      go_wp2_with fail
      refine (cw _).mono ?_
      rintro e w1 ⟨rfl, hb⟩
      go_wp2
      go_ret
      exact ⟨rfl, hb⟩
    · have hd : decide ((4096 : Int) < (s.size : Int)) = false := decide_eq_false (by omega)
      have hmsz : (ls s).length ≤ 4096 := by rw [ls_length]; omega
      obtain ⟨i9, hi, hz0, hz1, hz2⟩ := info_parts infoStr
      have c3 := fun W hh => pMer A cap vs W (by omega) (fun v hv => by have := hsz v hv; unfold maxLen; omega) hh
      have hl2 : (vs ++ [ls s]).length = vs.length + 1 := by simp
      have c4 : ∀ (A' : Option Addr) (cap' : Nat) (W : World), Has W W.heap.size A' (vs.length + 1) (wv (vs ++ [ls s])) → Calls Try.prog 11 #[.slice A' (vs.length + 1) cap'] W (CspPost (mergeC (vs ++ [ls s])) W) := fun A' cap' W hh => by
        have := pMer A' cap' (vs ++ [ls s]) W (by omega) (fun v hv => by
          rcases List.mem_append.1 hv with h | h
          · have := hsz v h
            unfold maxLen
            omega
          · simp at h
            subst h
            unfold maxLen
            omega)
        rw [hl2] at this
        exact this hh
      have hwv : wv (vs ++ [ls s]) = wv vs ++ [.string s] := by rw [← wv_snoc, bs_ls]
      have hlm1 := mer_len (vs := vs) (by omega)
      have hlm2 := mer_len (vs := vs ++ [ls s]) (by omega)
      have hone : ∀ u ∈ wv vs, u.oneCell' = true := fun u hu => by
        unfold wv at hu
        obtain ⟨x, _, rfl⟩ := List.mem_map.1 hu
        rfl
      by_cases hok : (mergeC vs).2 = 0
      · obtain ⟨hok2, hle⟩ := merge_more hmsz hok
        generalize mergeC vs = R1 at *
        generalize mergeC (vs ++ [ls s]) = R2 at *
        obtain ⟨⟨L1, u1, s1⟩, e1⟩ := R1
        obtain ⟨⟨L2, u2, s2⟩, e2⟩ := R2
        dsimp only at hok hok2 hlm1 hlm2
        subst hok hok2
        obtain ⟨hp, hu, hs⟩ := hle
        dsimp only at hp hu hs
        have hpl := hp.length_le
        have HP := Lib.hid hp
        have HU := Lib.hid hu
        have HS := Lib.hid hs
        clear hp hu hs hsz hbig hmsz
        go_enter Try.func6, Try.ntmps6
        go_wp2_with fail
        refine csm.mono ?_
        rintro e w0 ⟨rfl, rfl⟩
        go_wp2_with fail
        refine (c3 _ hH).mono ?_
        rintro e w1 ⟨A1, k1, rfl, hk1, hh1, hb1⟩
        dsimp only at hh1 hk1
        go_wp2_with (first
          | (refine wpList_alloc_arr _ rfl 5 rfl _ rfl #[.bool false, .bool false, .slice none 0 0] zeroCv ?_; intro W2 p1 hp1 hq1 hR1 hG1)
          | (refine wpList_store_cv rfl rfl _ _ rfl p1 (by exact rfl) _ _ _ _ _ (by exact rfl) _ _ _ _ _ hR1 ?_; intro W3 hr1 hG3
             have hE := VarC.boxed (c := ⟨L1, u1, s1⟩) hh1 hb1 hp1 hG1 hR1 hr1 hG3
             clear hh1 hb1 hp1 hq1 hR1 hG1 hr1 hG3
             have hH3 := (hH.below hE.bel)
             have hown0 := own_made W3 W3.heap.size (Nat.le_refl _)
             have hb0 := (Below.refl W3.heap.size W3).alloc (Nat.le_refl _) (.cells #[] 9)
             have hH4 := hH3.alloc hE.bel.size (.cells #[] 9))
          | (at_builtin; refine wpList_app_has _ rfl _ _ 22 rfl W3.heap.size 9 i9 (.string ByteArray.empty) 16 tyStrs hi hz0 hz1 hz2 rfl _ 0 (wv []) (by exact rfl) hown0 A vs.length cap w.heap.size (wv vs) (by exact rfl) hA hH4 hone (by unfold maxLen; omega) (by omega) hb0 (Nat.le_refl _) ?_; intro v1 W5 hown1 hb5 _; rw [Nat.zero_add] at hown1)
          | (at_builtin; refine wpList_app_one _ rfl _ _ 22 rfl W3.heap.size 9 i9 (.string ByteArray.empty) 16 tyStrs hi hz0 hz1 hz2 rfl _ (by exact rfl) _ _ _ (by exact rfl) hown1 (by exact rfl) (by unfold maxLen; omega) (by omega) hb5 (Nat.le_refl _) ?_; intro v2 W6 hown2 hb6 _; obtain ⟨g2, kk2, rfl⟩ := ownsRow_succ hown2))
        have hE6 := hE.call hb6
        obtain ⟨A9, k9, e9, hh9, _⟩ := Has.of_own hown2
        cases e9
        rw [show wv [] ++ wv vs ++ [Value.string s] = wv (vs ++ [ls s]) from by rw [hwv]; rfl] at hh9
        clear hown0 hown1 hown2 hb0 hb5 hb6 hH3 hH4 hE
        refine (c4 _ _ _ hh9).mono ?_
        rintro e w7 ⟨A2, k2, rfl, ⟨hk2, hA2⟩, hh2, hb7⟩
        have hE7 := hE6.call hb7
        dsimp only at hh2 hk2
        clear hh9 hb7 hE6 c3 c4
        have hsl := fun W => slice_to A2 L2.length k2 L1.length (by omega) hA2 W
        have hd2 : decide ((L2.length : Int) < (L1.length : Int)) = false := decide_eq_false (by omega)
        go_wp2_with (first
          | (refine wpList_alloc_arr _ rfl 7 rfl _ rfl #[.bool false, .bool false, .slice none 0 0] zeroCv ?_; intro W8 p2 hp2 hq2 hR2 hG2)
          | (refine wpList_store_cv rfl rfl _ _ rfl p2 (by exact rfl) _ _ _ _ _ (by exact rfl) _ _ _ _ _ hR2 ?_; intro W9 hr2 hG9
             have hF := VarC.boxed (c := ⟨L2, u2, s2⟩) hh2 hE7.bel hp2 hG2 hR2 hr2 hG9
             have hE9 := hE7.pass hp2 hG2 hG9
             clear hh2 hE7 hp2 hq2 hR2 hG2 hr2 hG9))
        obtain ⟨x0, x1, x2⟩ := RowCv.cells hE9.row
        obtain ⟨y0, y1, y2⟩ := RowCv.cells hF.row
        have ct : ∀ m, Calls Try.prog 15 #[.slice A2 L1.length k2, .slice A1 L1.length k1] (W9.drewN m) fun e w' => e = .returned (.bool true) ∧ ∃ q, w' = (W9.drewN m).drewN q := fun m => by
          have hm : ∀ l : List (List UInt8), wv l = (l.map bs).map Value.string := fun l => by unfold wv; rw [List.map_map]; rfl
          have g1 := hE9.has.drewN m
          have g2 := (hF.has.take L1.length hpl).drewN m
          have ht : (wv L2).take L1.length = wv L1 := by
            obtain ⟨T, hT⟩ := HP.out
            unfold wv
            rw [← List.map_take, ← hT, List.take_left]
          dsimp only at g1 g2
          rw [ht] at g2
          rw [hm] at g1 g2
          have := texts_q A2 A1 L1.length L1.length k2 k1 _ _ W9.heap.size (W9.drewN m) g2 g1 hlm1 hlm1
          rw [show textsB (L1.map bs) (L1.map bs) = true from by unfold textsB; simp] at this
          exact this
        have hbel := hE9.bel
        dsimp only at x0 x1 x2 y0 y1 y2
        clear hE9 hF
        go_wp2
        go_quiet ((go_at_call 15; exact quiet_q (ct _)))
        have hbel2 : Below w.heap.size w (W9.drewN nq) := ⟨hbel.os, hbel.tape, hbel.output, hbel.size, hbel.block⟩
        cases u1 with
        | false =>
          cases s1 with
          | false =>
            go_wp2_with fail
            refine (cw _).mono ?_
            rintro e w7 ⟨rfl, hb7⟩
            go_wp2
            go_ret
            exact ⟨rfl, hbel2.trans (hb7.mono hbel2.size)⟩
          | true =>
            obtain rfl : s2 = true := HS.out rfl
            go_wp2_with fail
            refine (cw _).mono ?_
            rintro e w7 ⟨rfl, hb7⟩
            go_wp2
            go_ret
            exact ⟨rfl, hbel2.trans (hb7.mono hbel2.size)⟩
        | true =>
          obtain rfl : u2 = true := HU.out rfl
          cases s1 with
          | false =>
            go_wp2_with fail
            refine (cw _).mono ?_
            rintro e w7 ⟨rfl, hb7⟩
            go_wp2
            go_ret
            exact ⟨rfl, hbel2.trans (hb7.mono hbel2.size)⟩
          | true =>
            obtain rfl : s2 = true := HS.out rfl
            go_wp2_with fail
            refine (cw _).mono ?_
            rintro e w7 ⟨rfl, hb7⟩
            go_wp2
            go_ret
            exact ⟨rfl, hbel2.trans (hb7.mono hbel2.size)⟩
      · obtain ⟨hm1, hm2⟩ := merge_bad (m := ls s) hok
        rw [hm1] at c3
        rw [hm2] at c4
        clear hm1 hm2 hok hsz hbig hmsz hlm1 hlm2
        go_enter Try.func6, Try.ntmps6
        go_wp2_with fail
        refine csm.mono ?_
        rintro e w0 ⟨rfl, rfl⟩
        go_wp2_with fail
        refine (c3 _ hH).mono ?_
        rintro e w1 ⟨A1, k1, rfl, hk1, hh1, hb1⟩
        dsimp only [cv0] at hh1 hk1
        go_wp2_with (first
          | (refine wpList_alloc_arr _ rfl 5 rfl _ rfl #[.bool false, .bool false, .slice none 0 0] zeroCv ?_; intro W2 p1 hp1 hq1 hR1 hG1)
          | (refine wpList_store_cv rfl rfl _ _ rfl p1 (by exact rfl) _ _ _ _ _ (by exact rfl) _ _ _ _ _ hR1 ?_; intro W3 hr1 hG3
             have hE := VarC.boxed (c := cv0) hh1 hb1 hp1 hG1 hR1 hr1 hG3
             clear hh1 hb1 hp1 hq1 hR1 hG1 hr1 hG3
             have hH3 := (hH.below hE.bel)
             have hown0 := own_made W3 W3.heap.size (Nat.le_refl _)
             have hb0 := (Below.refl W3.heap.size W3).alloc (Nat.le_refl _) (.cells #[] 9)
             have hH4 := hH3.alloc hE.bel.size (.cells #[] 9))
          | (at_builtin; refine wpList_app_has _ rfl _ _ 22 rfl W3.heap.size 9 i9 (.string ByteArray.empty) 16 tyStrs hi hz0 hz1 hz2 rfl _ 0 (wv []) (by exact rfl) hown0 A vs.length cap w.heap.size (wv vs) (by exact rfl) hA hH4 hone (by unfold maxLen; omega) (by omega) hb0 (Nat.le_refl _) ?_; intro v1 W5 hown1 hb5 _; rw [Nat.zero_add] at hown1)
          | (at_builtin; refine wpList_app_one _ rfl _ _ 22 rfl W3.heap.size 9 i9 (.string ByteArray.empty) 16 tyStrs hi hz0 hz1 hz2 rfl _ (by exact rfl) _ _ _ (by exact rfl) hown1 (by exact rfl) (by unfold maxLen; omega) (by omega) hb5 (Nat.le_refl _) ?_; intro v2 W6 hown2 hb6 _; obtain ⟨g2, kk2, rfl⟩ := ownsRow_succ hown2))
        have hE6 := hE.call hb6
        obtain ⟨A9, k9, e9, hh9, _⟩ := Has.of_own hown2
        cases e9
        rw [show wv [] ++ wv vs ++ [Value.string s] = wv (vs ++ [ls s]) from by rw [hwv]; rfl] at hh9
        clear hown0 hown1 hown2 hb0 hb5 hb6 hH3 hH4 hE
        refine (c4 _ _ _ hh9).mono ?_
        rintro e w7 ⟨A2, k2, rfl, hk2, hh2, hb7⟩
        have hE7 := hE6.call hb7
        clear hh9 hb7 hE6 c3 c4
        dsimp only [cv0] at hh2 hk2
        go_wp2_with (first
          | (refine wpList_alloc_arr _ rfl 7 rfl _ rfl #[.bool false, .bool false, .slice none 0 0] zeroCv ?_; intro W8 p2 hp2 hq2 hR2 hG2)
          | (refine wpList_store_cv rfl rfl _ _ rfl p2 (by exact rfl) false false A2 0 k2 (by exact rfl) _ _ _ _ _ hR2 ?_; intro W9 hr2 hG9
             have hbel := (hE7.pass hp2 hG2 hG9).bel
             clear hh2 hE7 hp2 hq2 hR2 hG2 hr2 hG9))
        refine (cw _).mono ?_
        rintro e w9 ⟨rfl, hb9⟩
        go_wp2
        go_ret
        exact ⟨rfl, hbel.trans (hb9.mono hbel.size)⟩

end Go.Proofs.Ytgilpheclmmolaa
