/-
  Contract of the program's Choose of superblocks.
-/
import Derived.Test.YtdahnkampjkelaaSupI
namespace Go.Proofs.Ytdahnkampjkelaa
open Go.RowKit

set_option maxHeartbeats 2000000 in
theorem pC : ChoOk 18 := by
  intro A1 A2 n1 c1 n2 c2 B l m w h1 h2 hlc1 hlc2 hn1 hn2 hB
  obtain ⟨W0, hW0⟩ : ∃ x, x = w.alloc (.cells #[.int .u64 0, .int .i64 0, .int .u32 0, .int .i64 0, .int .u32 0] 25) := ⟨_, rfl⟩
  have hb0 : Below w.heap.size w W0 := by rw [hW0]; exact (Below.refl _ _).alloc (Nat.le_refl _) _
  have hr0 : Row W0 w.heap.size 25 #[.int .u64 0, .int .i64 0, .int .u32 0, .int .i64 0, .int .u32 0] := by rw [hW0]; exact row_new w _ _
  have hlt0 := hr0.lt
  have hB0 : B ≤ W0.heap.size := Nat.le_trans hB hb0.size
  have d1 := fun w' (h : Below W0.heap.size W0 w') => pD A1 n1 c1 B l w' ((h1.below' hb0 hB).below' h hB0) hlc1 hn1 (Nat.le_trans hB0 h.size)
  have d2 := fun w' (h : Below W0.heap.size W0 w') => pD A2 n2 c2 B m w' ((h2.below' hb0 hB).below' h hB0) hlc2 hn2 (Nat.le_trans hB0 h.size)
  have HB0 := Lib.hid hb0
  have HR0 := Lib.hid hr0
  clear h1 h2 hlc1 hlc2 hn1 hn2 hB hB0 hb0 hr0
  obtain ⟨e1, he1⟩ : ∃ e, serr l = e := ⟨_, rfl⟩
  obtain ⟨e2, he2⟩ : ∃ e, serr m = e := ⟨_, rfl⟩
  have hv1 : (sgot l).val = .agg #[.int .u64 ((sgot l).g : Int), .int .i64 (sgot l).a, .int .u32 (nv (sgot l).e), .int .i64 (sgot l).n, .int .u32 (nv (sgot l).s)] := rfl
  have hv2 : (sgot m).val = .agg #[.int .u64 ((sgot m).g : Int), .int .i64 (sgot m).a, .int .u32 (nv (sgot m).e), .int .i64 (sgot m).n, .int .u32 (nv (sgot m).s)] := rfl
  have HV1 := Lib.hid hv1
  have HV2 := Lib.hid hv2
  have HE1 := Lib.hid he1
  have HE2 := Lib.hid he2
  have hg1 : Hid (((sgot l).g : Int) = ((sgot l).g : Int)) := Lib.hid rfl
  unfold SDecP at d1 d2
  rw [hv1, he1] at d1
  rw [hv2, he2] at d2
  obtain ⟨g1, hg1⟩ : ∃ x, x = ((sgot l).g : Int) := ⟨_, rfl⟩
  obtain ⟨a1, ha1⟩ : ∃ x, x = (sgot l).a := ⟨_, rfl⟩
  obtain ⟨x1, hx1⟩ : ∃ x, x = nv (sgot l).e := ⟨_, rfl⟩
  obtain ⟨n1, hn1⟩ : ∃ x, x = (sgot l).n := ⟨_, rfl⟩
  obtain ⟨s1, hs1⟩ : ∃ x, x = nv (sgot l).s := ⟨_, rfl⟩
  obtain ⟨g2, hg2⟩ : ∃ x, x = ((sgot m).g : Int) := ⟨_, rfl⟩
  obtain ⟨a2, ha2⟩ : ∃ x, x = (sgot m).a := ⟨_, rfl⟩
  obtain ⟨x2, hx2⟩ : ∃ x, x = nv (sgot m).e := ⟨_, rfl⟩
  obtain ⟨n2, hn2⟩ : ∃ x, x = (sgot m).n := ⟨_, rfl⟩
  obtain ⟨s2, hs2⟩ : ∃ x, x = nv (sgot m).s := ⟨_, rfl⟩
  have hHV1 := HV1.out
  have hHV2 := HV2.out
  rw [← hg1, ← ha1, ← hx1, ← hn1, ← hs1] at d1 hHV1
  rw [← hg2, ← ha2, ← hx2, ← hn2, ← hs2] at d2 hHV2
  have K1 := Lib.hid hHV1
  have K2 := Lib.hid hHV2
  have HG1 := Lib.hid hg1
  have HG2 := Lib.hid hg2
  clear hHV1 hHV2 HV1 HV2 hv1 hv2 hg1 ha1 hx1 hn1 hs1 hg2 ha2 hx2 hn2 hs2 he1 he2
  go_enter Try.func18, Try.ntmps18
  go_wp2_with fail
  rw [← hW0]
  refine (d1 W0 (Below.refl _ _)).mono ?_
  rintro r w1 ⟨rfl, hb1⟩
  clear hW0 d1
  go_wp2_with fail
  obtain ⟨W1, hW1⟩ : ∃ x, x = w1.alloc (.cells #[.int .u64 g1, .int .i64 a1, .int .u32 x1, .int .i64 n1, .int .u32 s1] 25) := ⟨_, rfl⟩
  have hb1' : Below W0.heap.size W0 W1 := by rw [hW1]; exact hb1.alloc hb1.size _
  have hr1 : Row W1 w1.heap.size 25 #[.int .u64 g1, .int .i64 a1, .int .u32 x1, .int .i64 n1, .int .u32 s1] := by rw [hW1]; exact row_new w1 _ _
  have hlt1 := hr1.lt
  have hs01 := hb1.size
  rw [← hW1]
  refine (d2 W1 hb1').mono ?_
  clear hW1 hb1 d2
  rintro r w2 ⟨rfl, hb2⟩
  have hr1' := hr1.below hb2 hlt1
  have hs12 := hb2.size
  replace hb2 := hb1'.trans (hb2.mono hb1'.size)
  clear hb1' hr1
  go_upto_region 4 with fail
  obtain ⟨W2, hW2⟩ : ∃ x, x = w2.alloc (.cells #[.int .u64 g2, .int .i64 a2, .int .u32 x2, .int .i64 n2, .int .u32 s2] 25) := ⟨_, rfl⟩
  have hb3 : Below W0.heap.size W0 W2 := by rw [hW2]; exact hb2.alloc hb2.size _
  have hr2 : Row W2 w2.heap.size 25 #[.int .u64 g2, .int .i64 a2, .int .u32 x2, .int .i64 n2, .int .u32 s2] := by rw [hW2]; exact row_new w2 _ _
  have hr1 : Row W2 w1.heap.size 25 #[.int .u64 g1, .int .i64 a1, .int .u32 x1, .int .i64 n1, .int .u32 s1] := by
    rw [hW2]; exact hr1'.grown0 (World.grownBy_alloc w2 _ _)
  have hr0 := HR0.out.below hb3 hlt0
  rw [← hW2]
  clear hW2 hr1'
  have k1 : W2.cell? ⟨w1.heap.size, 0, none⟩ = some (.int .u64 g1) := hr1.cell (k := 0) (by simp)
  have k2 : W2.cell? ⟨w2.heap.size, 0, none⟩ = some (.int .u64 g2) := hr2.cell (k := 0) (by simp)
  have hcm : Hid ((g1 < g2) ↔ (sgot l).g < (sgot m).g) := by show _ ↔ _; rw [HG1.out, HG2.out]; omega
  by_cases hz1 : e1 = 0
  · subst hz1
    have hq1 : (((0 : Nat) : Int) != 0) = false := rfl
    have hq1' : (((0 : Nat) : Int) == 0) = true := rfl
    by_cases hz2 : e2 = 0
    · subst hz2
      have hq2 : (((0 : Nat) : Int) == 0) = true := rfl
      by_cases hgt : g1 < g2
      · have hd : decide (g1 < g2) = true := decide_eq_true hgt
        go_upto_region 5 with fail
        refine wp_region_any (by kernel_rfl) ?_
        change wpAny _ _ _ _ _ _ _ (World.drew _)
        refine wpAny_take (i := 1) (v := ?_) rfl (by kernel_rfl) (by kernel_rfl) (by kernel_rfl) (fun _ _ _ h => h) (Or.inl ⟨by rfl, by intro w; go_simp; try with_reducible rfl⟩) ?_
        refine wpAny_ready (rs := [0]) (by kernel_rfl) (by simp) ?_
        refine AllReady.cons rfl (fun K hK => ?_) AllReady.nil
        refine step_load_sup rfl _ rfl w2.heap.size (by exact rfl) #[.int .u64 g2, .int .i64 a2, .int .u32 x2, .int .i64 n2, .int .u32 s2] (show Row (World.drew _) _ _ _ from hr2) rfl ?_
        refine hK _ _ ?_
        clear hK K
        refine wpAny_ready (rs := [2]) (by kernel_rfl) (by simp) ?_
        refine AllReady.cons rfl (fun K hK => ?_) AllReady.nil
        refine step_store_sup rfl rfl _ _ rfl w.heap.size (by exact rfl) #[.int .u64 g2, .int .i64 a2, .int .u32 x2, .int .i64 n2, .int .u32 s2] (by exact rfl) _ (show Row (World.drew _) _ _ _ from hr0) rfl rfl (sup_one _ _ _ _ _) ?_
        intro w9 hr9 hg9
        refine hK _ _ ?_
        clear hK K
        refine wpAny_take (i := 3) (v := ?_) rfl (by kernel_rfl) (by kernel_rfl) (by kernel_rfl) (fun _ _ _ h => h) (Or.inl ⟨by rfl, by intro w; go_simp; try with_reducible rfl⟩) ?_
        refine wpAny_done (by kernel_rfl) ?_ _
        go_wp2
        refine ret_sup3 _ _ _ rfl _ rfl _ hr9 rfl _ rfl _ rfl rfl ?_
        obtain ⟨q1, q2, q3⟩ := ch_gt HE1.out HE2.out (hcm.out.1 hgt)
        refine ⟨?_, below_row (HB0.out.trans (hb3.drew.mono HB0.out.size)) hg9 (Nat.le_refl _) (Nat.le_refl _)⟩
        rw [q1, q2, q3, K2.out]
        rfl
      · have hd : decide (g1 < g2) = false := decide_eq_false hgt
        go_upto_region 7 with fail
        refine wp_region_any (by kernel_rfl) ?_
        change wpAny _ _ _ _ _ _ _ (World.drew _)
        refine wpAny_take (i := 1) (v := ?_) rfl (by kernel_rfl) (by kernel_rfl) (by kernel_rfl) (fun _ _ _ h => h) (Or.inl ⟨by rfl, by intro w; go_simp; try with_reducible rfl⟩) ?_
        refine wpAny_ready (rs := [0]) (by kernel_rfl) (by simp) ?_
        refine AllReady.cons rfl (fun K hK => ?_) AllReady.nil
        refine step_load_sup rfl _ rfl w1.heap.size (by exact rfl) #[.int .u64 g1, .int .i64 a1, .int .u32 x1, .int .i64 n1, .int .u32 s1] (show Row (World.drew _) _ _ _ from hr1) rfl ?_
        refine hK _ _ ?_
        clear hK K
        refine wpAny_ready (rs := [2]) (by kernel_rfl) (by simp) ?_
        refine AllReady.cons rfl (fun K hK => ?_) AllReady.nil
        refine step_store_sup rfl rfl _ _ rfl w.heap.size (by exact rfl) #[.int .u64 g1, .int .i64 a1, .int .u32 x1, .int .i64 n1, .int .u32 s1] (by exact rfl) _ (show Row (World.drew _) _ _ _ from hr0) rfl rfl (sup_one _ _ _ _ _) ?_
        intro w9 hr9 hg9
        refine hK _ _ ?_
        clear hK K
        refine wpAny_take (i := 3) (v := ?_) rfl (by kernel_rfl) (by kernel_rfl) (by kernel_rfl) (fun _ _ _ h => h) (Or.inl ⟨by rfl, by intro w; go_simp; try with_reducible rfl⟩) ?_
        refine wpAny_done (by kernel_rfl) ?_ _
        go_wp2
        refine ret_sup3 _ _ _ rfl _ rfl _ hr9 rfl _ rfl _ rfl rfl ?_
        obtain ⟨q1, q2, q3⟩ := ch_le HE1.out HE2.out (fun h => by have := hcm.out.2 h; omega)
        refine ⟨?_, below_row (HB0.out.trans (hb3.drew.mono HB0.out.size)) hg9 (Nat.le_refl _) (Nat.le_refl _)⟩
        rw [q1, q2, q3, K1.out]
        rfl
    · have hq2 : ((e2 : Int) == 0) = false := by simp; omega
      go_upto_region 7 with fail
      refine wp_region_any (by kernel_rfl) ?_
      change wpAny _ _ _ _ _ _ _ (World.drew _)
      refine wpAny_take (i := 1) (v := ?_) rfl (by kernel_rfl) (by kernel_rfl) (by kernel_rfl) (fun _ _ _ h => h) (Or.inl ⟨by rfl, by intro w; go_simp; try with_reducible rfl⟩) ?_
      refine wpAny_ready (rs := [0]) (by kernel_rfl) (by simp) ?_
      refine AllReady.cons rfl (fun K hK => ?_) AllReady.nil
      refine step_load_sup rfl _ rfl w1.heap.size (by exact rfl) #[.int .u64 g1, .int .i64 a1, .int .u32 x1, .int .i64 n1, .int .u32 s1] (show Row (World.drew _) _ _ _ from hr1) rfl ?_
      refine hK _ _ ?_
      clear hK K
      refine wpAny_ready (rs := [2]) (by kernel_rfl) (by simp) ?_
      refine AllReady.cons rfl (fun K hK => ?_) AllReady.nil
      refine step_store_sup rfl rfl _ _ rfl w.heap.size (by exact rfl) #[.int .u64 g1, .int .i64 a1, .int .u32 x1, .int .i64 n1, .int .u32 s1] (by exact rfl) _ (show Row (World.drew _) _ _ _ from hr0) rfl rfl (sup_one _ _ _ _ _) ?_
      intro w9 hr9 hg9
      refine hK _ _ ?_
      clear hK K
      refine wpAny_take (i := 3) (v := ?_) rfl (by kernel_rfl) (by kernel_rfl) (by kernel_rfl) (fun _ _ _ h => h) (Or.inl ⟨by rfl, by intro w; go_simp; try with_reducible rfl⟩) ?_
      refine wpAny_done (by kernel_rfl) ?_ _
      go_wp2
      refine ret_sup3 _ _ _ rfl _ rfl _ hr9 rfl _ rfl _ rfl rfl ?_
      obtain ⟨q1, q2, q3⟩ := ch_a HE1.out (by rw [HE2.out]; exact hz2)
      refine ⟨?_, below_row (HB0.out.trans (hb3.drew.mono HB0.out.size)) hg9 (Nat.le_refl _) (Nat.le_refl _)⟩
      rw [q1, q2, q3, K1.out]
      rfl
  · have hq1 : ((e1 : Int) != 0) = true := by simp; omega
    have hq1' : ((e1 : Int) == 0) = false := by simp; omega
    by_cases hz2 : e2 = 0
    · subst hz2
      have hq2 : (((0 : Nat) : Int) == 0) = true := rfl
      go_upto_region 5 with fail
      refine wp_region_any (by kernel_rfl) ?_
      change wpAny _ _ _ _ _ _ _ (World.drew _)
      refine wpAny_take (i := 1) (v := ?_) rfl (by kernel_rfl) (by kernel_rfl) (by kernel_rfl) (fun _ _ _ h => h) (Or.inl ⟨by rfl, by intro w; go_simp; try with_reducible rfl⟩) ?_
      refine wpAny_ready (rs := [0]) (by kernel_rfl) (by simp) ?_
      refine AllReady.cons rfl (fun K hK => ?_) AllReady.nil
      refine step_load_sup rfl _ rfl w2.heap.size (by exact rfl) #[.int .u64 g2, .int .i64 a2, .int .u32 x2, .int .i64 n2, .int .u32 s2] (show Row (World.drew _) _ _ _ from hr2) rfl ?_
      refine hK _ _ ?_
      clear hK K
      refine wpAny_ready (rs := [2]) (by kernel_rfl) (by simp) ?_
      refine AllReady.cons rfl (fun K hK => ?_) AllReady.nil
      refine step_store_sup rfl rfl _ _ rfl w.heap.size (by exact rfl) #[.int .u64 g2, .int .i64 a2, .int .u32 x2, .int .i64 n2, .int .u32 s2] (by exact rfl) _ (show Row (World.drew _) _ _ _ from hr0) rfl rfl (sup_one _ _ _ _ _) ?_
      intro w9 hr9 hg9
      refine hK _ _ ?_
      clear hK K
      refine wpAny_take (i := 3) (v := ?_) rfl (by kernel_rfl) (by kernel_rfl) (by kernel_rfl) (fun _ _ _ h => h) (Or.inl ⟨by rfl, by intro w; go_simp; try with_reducible rfl⟩) ?_
      refine wpAny_done (by kernel_rfl) ?_ _
      go_wp2
      refine ret_sup3 _ _ _ rfl _ rfl _ hr9 rfl _ rfl _ rfl rfl ?_
      obtain ⟨q1, q2, q3⟩ := ch_b (by rw [HE1.out]; exact hz1) HE2.out
      refine ⟨?_, below_row (HB0.out.trans (hb3.drew.mono HB0.out.size)) hg9 (Nat.le_refl _) (Nat.le_refl _)⟩
      rw [q1, q2, q3, K2.out]
      rfl
    · have hq2 : ((e2 : Int) == 0) = false := by simp; omega
      go_wp2_with (refine wpList_store_arr _ rfl rfl _ _ _ rfl w.heap.size (by exact rfl) #[.int .u64 0, .int .i64 0, .int .u32 0, .int .i64 0, .int .u32 0] (by exact rfl) _ _ hr0 supSize rfl (sup_one _ _ _ _ _) ?_; intro w9 hr9 hg9)
      refine ret_sup3 _ _ _ rfl _ rfl _ hr9 rfl _ rfl _ rfl rfl ?_
      obtain ⟨q1, q2, q3⟩ := ch_none (a := l) (b := m) (by rw [HE1.out]; exact hz1) (by rw [HE2.out]; exact hz2)
      refine ⟨?_, below_row (HB0.out.trans (hb3.mono HB0.out.size)) hg9 (Nat.le_refl _) (Nat.le_refl _)⟩
      rw [q1, q2, q3, Sup.no_val]
      rfl

end Go.Proofs.Ytdahnkampjkelaa
