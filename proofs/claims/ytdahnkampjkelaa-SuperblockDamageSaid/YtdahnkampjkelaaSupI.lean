/-
  Contract of the program's Decode of superblocks.
-/
import Derived.Test.YtdahnkampjkelaaSupH
namespace Go.Proofs.Ytdahnkampjkelaa
open Go.RowKit

theorem sup_agg (Z : Sup) : ∃ g a e n s, Z.val = .agg #[.int .u64 g, .int .i64 a, .int .u32 e, .int .i64 n, .int .u32 s] := ⟨_, _, _, _, _, rfl⟩

set_option maxHeartbeats 2000000 in
theorem pD : DecOk 11 := by
  intro A len cap B l w hA hlc hlen hB
  have hL : l.length = len := by simpa using hA.1
  by_cases h1 : len = 64
  · subst h1
    obtain ⟨b, off, rfl, _, _⟩ := hA.2 (by omega)
    obtain ⟨W0, hW0⟩ : ∃ x, x = w.alloc (.cells #[.int .u64 0, .int .i64 0, .int .u32 0, .int .i64 0, .int .u32 0] 25) := ⟨_, rfl⟩
    have hb0 : Below w.heap.size w W0 := by rw [hW0]; exact (Below.refl _ _).alloc (Nat.le_refl _) _
    have hr0 : Row W0 w.heap.size 25 #[.int .u64 0, .int .i64 0, .int .u32 0, .int .i64 0, .int .u32 0] := by rw [hW0]; exact row_new w _ _
    have hlt0 := hr0.lt
    have HA := Lib.hid (hA.below' hb0 hB)
    have hB0 : B ≤ W0.heap.size := Nat.le_trans hB hb0.size
    have HB0 := Lib.hid hb0
    have HR0 := Lib.hid hr0
    have f60 := num_four (show Has (World.drew W0) _ _ _ _ from HA.out) 60 (cap - 60) (by omega)
    have hsum := sum_any (some ⟨b, off, none⟩) 60 cap B (l.take 60) (World.drew W0) ((show Has (World.drew W0) _ _ _ _ from HA.out).head8 60 (by omega)) (by omega)
    have hc60 : (60 : Int) ≤ (cap : Int) := by omega
    have hcn : ¬ cap = 60 := by omega
    obtain ⟨x, hx⟩ : ∃ x, x = nv (wordB (l.drop 60)) := ⟨_, rfl⟩
    obtain ⟨y, hy⟩ : ∃ y, y = nv (crcSum (l.take 60)) := ⟨_, rfl⟩
    have hwy : IntKind.u64.wrap y = y := by rw [hy, IntKind.wrap_u64]; have := nv_ge (crcSum (l.take 60)); have := nv_lt (crcSum (l.take 60)); omega
    rw [← hx] at f60
    rw [← hy] at hsum
    by_cases h7 : wordB (l.drop 60) = crcSum (l.take 60)
    · have hne : (x != y) = false := by rw [hx, hy, h7]; simp
      have HOK1 := Lib.hid h7
      have HLEN := Lib.hid hL
      obtain ⟨tg, ta, te, tn, ts, hval⟩ := sup_agg (supOf l)
      have hf := fun W (h : Has W W0.heap.size (some ⟨b, off, none⟩) 64 (l.map bv)) (hs : W0.heap.size ≤ W.heap.size) => fields_any b off cap W0.heap.size l W h hlc hs
      have henc : ((supOf l).ok ∧ ∀ W, Calls Try.prog 9 #[(supOf l).val] W fun r w' => (∃ v, r = .returned (.tuple #[v, .int .i64 0]) ∧ OwnV w' W.heap.size v 64 (supOf l).enc) ∧ Below W.heap.size W w') ∨
          (¬ (supOf l).ok ∧ ∀ W, Calls Try.prog 9 #[(supOf l).val] W fun r w' => r = .returned (.tuple #[.slice none 0 0, .int .i64 1]) ∧ Below W.heap.size W w') := by
        by_cases h : (supOf l).ok
        · exact .inl ⟨h, pE _ h (sup_lt l)⟩
        · exact .inr ⟨h, pN _ h⟩
      have HVAL := Lib.hid hval
      rw [hval] at henc hf
      clear hx hy h7 hA hb0 hr0 hL hlc hval
      go_enter Try.func11, Try.ntmps11
      go_wp2_with fail
      rw [← hW0]
      clear hW0
      refine wp_region_still_lit (by kernel_rfl) (by kernel_rfl) ?_
      repeat still_step
      still_call (f60.mono fun e w' h => ⟨h.1, h.2.symm⟩)
      repeat still_step
      still_call (hsum.mono fun e w' h => ⟨h.1, h.2.symm⟩)
      repeat still_step
      refine wpStill_nil ?_
      change Exit.then _ _ _ _ (World.drew W0)
      have hb1 : Below W0.heap.size W0 (World.drew W0) := (Below.refl _ _).drew
      generalize World.drew W0 = w1 at *
      clear f60 hsum
      go_wp2_with fail
      refine (hf w1 ((HA.out.below' hb1 hB0).more hB0) hb1.size).mono ?_
      rintro r w2 ⟨rfl, hb2⟩
      replace hb2 := hb1.trans (hb2.mono hb1.size)
      clear hb1 hf
      go_wp2_with fail
      obtain ⟨W6, hW6⟩ : ∃ W, W = w2.alloc (.cells #[.int .u64 tg, .int .i64 ta, .int .u32 te, .int .i64 tn, .int .u32 ts] 25) := ⟨_, rfl⟩
      have hb7 : Below W0.heap.size W0 W6 := by rw [hW6]; exact hb2.alloc hb2.size _
      have hr6 : Row W6 w2.heap.size 25 #[.int .u64 tg, .int .i64 ta, .int .u32 te, .int .i64 tn, .int .u32 ts] := by rw [hW6]; exact row_new w2 _ _
      rw [← hW6]
      have hlt6 := hr6.lt
      clear hW6 hb2
      rcases henc with ⟨hok, he⟩ | ⟨hok, he⟩
      · refine (he _).mono ?_
        rintro r w7 ⟨⟨v, rfl, hown⟩, hb8⟩
        obtain ⟨A', c', rfl, hh, _⟩ := hown.has
        have hr7 := hr6.below hb8 hlt6
        replace hb8 := hb7.trans (hb8.mono hb7.size)
        have hr8 := HR0.out.below hb8 hlt0
        have hbe := fun W n1 c1 (h1 : Has W W.heap.size A' n1 ((supOf l).enc.map bv)) n2 c2 (h2 : Has W W.heap.size (some ⟨b, off, none⟩) n2 (l.map bv)) => bequal_any A' (some ⟨b, off, none⟩) n1 c1 n2 c2 W.heap.size _ _ W h1 h2
        have hh2 := (HA.out.below' hb8 hB0).more (Nat.le_trans hB0 hb8.size)
        clear hb7 hr6 he
        by_cases h6 : (supOf l).enc = l
        · have HD : Hid (serr l = 0) := Lib.hid (serr_0 HLEN.out HOK1.out ⟨hok, h6⟩)
          have heq : eqL (supOf l).enc l = true := by unfold eqL; exact decide_eq_true h6
          rw [heq] at hbe
          clear h6 hok heq
          go_wp2_with (first
            | (go_at_call 24; refine (hbe w7 _ _ hh _ _ hh2).mono ?_; rintro e w' ⟨rfl, rfl⟩)
            | (refine wpList_load_sup rfl _ rfl w2.heap.size (by exact rfl) _ hr7 rfl ?_)
            | (refine wpList_store_arr _ rfl rfl _ _ _ rfl w.heap.size (by exact rfl) #[.int .u64 tg, .int .i64 ta, .int .u32 te, .int .i64 tn, .int .u32 ts] (by exact rfl) _ _ hr8 supSize rfl (sup_one _ _ _ _ _) ?_; intro w9 hr9 hg9))
          refine ret_sup _ _ rfl _ rfl _ hr9 rfl _ rfl rfl ?_
          refine ⟨?_, below_row (HB0.out.trans (hb8.mono HB0.out.size)) hg9 (Nat.le_refl _) (Nat.le_refl _)⟩
          rw [sgot_yes HD.out, HVAL.out, HD.out]
          rfl
        · have HD : Hid (serr l = 6) := Lib.hid (serr_6 HLEN.out HOK1.out (fun h => h6 h.2))
          have heq : eqL (supOf l).enc l = false := by unfold eqL; exact decide_eq_false h6
          rw [heq] at hbe
          clear h6 hok heq
          go_wp2_with (first
            | (go_at_call 24; refine (hbe w7 _ _ hh _ _ hh2).mono ?_; rintro e w' ⟨rfl, rfl⟩)
            | (refine wpList_store_arr _ rfl rfl _ _ _ rfl w.heap.size (by exact rfl) #[.int .u64 0, .int .i64 0, .int .u32 0, .int .i64 0, .int .u32 0] (by exact rfl) _ _ hr8 supSize rfl (sup_one _ _ _ _ _) ?_; intro w9 hr9 hg9))
          refine ret_sup _ _ rfl _ rfl _ hr9 rfl _ rfl rfl ?_
          exact SDecP.no 6 HD (by decide) (below_row (HB0.out.trans (hb8.mono HB0.out.size)) hg9 (Nat.le_refl _) (Nat.le_refl _))
      · have HD : Hid (serr l = 6) := Lib.hid (serr_6 HLEN.out HOK1.out (fun h => hok h.1))
        refine (he _).mono ?_
        rintro r w7 ⟨rfl, hb8⟩
        replace hb8 := hb7.trans (hb8.mono hb7.size)
        have hr8 := HR0.out.below hb8 hlt0
        clear hb7 hr6 he hok
        go_wp2_with (refine wpList_store_arr _ rfl rfl _ _ _ rfl w.heap.size (by exact rfl) #[.int .u64 0, .int .i64 0, .int .u32 0, .int .i64 0, .int .u32 0] (by exact rfl) _ _ hr8 supSize rfl (sup_one _ _ _ _ _) ?_; intro w9 hr9 hg9)
        refine ret_sup _ _ rfl _ rfl _ hr9 rfl _ rfl rfl ?_
        exact SDecP.no 6 HD (by decide) (below_row (HB0.out.trans (hb8.mono HB0.out.size)) hg9 (Nat.le_refl _) (Nat.le_refl _))
    · have hne : (x != y) = true := by rw [hx, hy]; simp only [bne_iff_ne, ne_eq]; exact fun e => h7 (nv_inj e)
      have HD : Hid (serr l = 7) := Lib.hid (serr_7 hL h7)
      clear hx hy h7 hA hb0 hr0 hL hlc
      go_enter Try.func11, Try.ntmps11
      go_wp2_with fail
      rw [← hW0]
      clear hW0
      refine wp_region_still_lit (by kernel_rfl) (by kernel_rfl) ?_
      repeat still_step
      still_call (f60.mono fun e w' h => ⟨h.1, h.2.symm⟩)
      repeat still_step
      still_call (hsum.mono fun e w' h => ⟨h.1, h.2.symm⟩)
      repeat still_step
      refine wpStill_nil ?_
      change Exit.then _ _ _ _ (World.drew W0)
      have hr8 : Row (World.drew W0) _ _ _ := HR0.out
      go_wp2_with (refine wpList_store_arr _ rfl rfl _ _ _ rfl w.heap.size (by exact rfl) #[.int .u64 0, .int .i64 0, .int .u32 0, .int .i64 0, .int .u32 0] (by exact rfl) _ _ hr8 supSize rfl (sup_one _ _ _ _ _) ?_; intro w9 hr9 hg9)
      refine ret_sup _ _ rfl _ rfl _ hr9 rfl _ rfl rfl ?_
      exact SDecP.no 7 HD (by decide) (below_row HB0.out.drew hg9 (Nat.le_refl _) (Nat.le_refl _))
  · have HD : Hid (serr l = 5) := Lib.hid (serr_5 (by omega))
    have h1' : ((len : Int) != 64) = true := by simp; omega
    clear hL hA
    go_enter Try.func11, Try.ntmps11
    go_wp2
    refine ret_sup _ _ rfl _ rfl _ (row_new w _ _) rfl _ rfl rfl ?_
    exact SDecP.no 5 HD (by decide) ((Below.refl _ _).alloc (Nat.le_refl _) _)

end Go.Proofs.Ytdahnkampjkelaa
