/-
  The contract of the reference's Combine.
-/
import Derived.Test.YtpbdcljpcchihaaCrc5
import Derived.Deep.RegionWith
namespace Go.Proofs.Ytpbdcljpcchihaa
open Go.RowKit

set_option maxRecDepth 4000 in
set_option maxHeartbeats 2000000 in
theorem refCombine_any (a b : W32) (n : Int) (h0 : -9223372036854775808 ≤ n) (h1 : n ≤ 9223372036854775807) (w : World) :
    Calls Try.prog 17 #[.int .u32 (nv a), .int .u32 (nv b), .int .i64 n] w fun e w' => e = .returned (.int .u32 (nv (crcComb a b n.toNat))) ∧ Below w.heap.size w w' := by
  go_enter Try.func17, Try.ntmps17
  go_wp2_with (refine wpList_alloc_arr _ rfl 7 rfl _ rfl _ zero41 ?_; intro w1 g hgw hl hr1 hgr1)
  have HB1 := Lib.hid (show Below w.heap.size w w1 ∧ Row w1 g 41 (Array.replicate 32 (.int .u32 0)) from ⟨below_row0 (Below.refl w.heap.size w) hgr1 (Nat.le_refl _), hr1⟩)
  clear hr1 hgr1 hl
  go_loopw [8, 9, 10] (fun i _ _ wr => ∃ (k : Nat) (c : Array Value), k ≤ 32 ∧ i = .int .i64 k ∧ Hid (PartMat (stepN 8) c k ∧ Below w.heap.size w wr ∧ Row wr g 41 c)) (fun i _ _ _ => 32 - (intOf i).toNat)
  case atStart => exact ⟨0, _, Nat.zero_le _, rfl, ⟨PartMat.start _, HB1.out⟩⟩
  case round =>
    obtain ⟨k, c, hk, rfl, HR⟩ := hrel
    by_cases hlt : k < 32
    · have hsh := Lib.hid (one_shl k hlt)
      have hr1 := HR.out.2.2
      have hkc : k < c.size := by rw [HR.out.1.1]; exact hlt
      go_wp2_with (refine wpList_shl _ rfl _ _ _ _ rfl .u32 1 k hk (by exact rfl) (by exact rfl) _ hsh.out ?_)
      go_loop [9, 10] (fun v i => ∃ (j : Nat) (y : W32), j ≤ 8 ∧ i = .int .i64 j ∧ v = .int .u32 (nv y) ∧ y = stepN j (1#32 <<< k)) (fun _ i => 8 - (intOf i).toNat)
      case atStart => exact ⟨0, _, Nat.zero_le _, rfl, rfl, rfl⟩
      case round =>
        obtain ⟨j, y, hj, rfl, rfl, hy⟩ := hrel
        have HY := Lib.hid hy
        clear hy
        by_cases hjlt : j < 8
        · have HJ := Lib.hid (stepN_succ j (1#32 <<< k))
          go_wp2_with (go_at_call 23; refine (refStep_any _ _).mono ?_; rintro e w' ⟨rfl, rfl⟩)
          go_round
          case rel => exact ⟨j + 1, _, by omega, by go_num, rfl, by rw [HJ.out, HY.out]⟩
          case measure => simp [intOf]; omega
        · obtain rfl : j = 8 := by omega
          go_wp2_with (refine wpList_store_cell _ rfl rfl _ _ _ rfl g k (by exact rfl) _ (by exact rfl) (by exact rfl) _ c hr1 hkc info23 ?_; intro w2 hr2 hgr2)
          go_roundw
          case rel => exact ⟨k + 1, _, by omega, by go_num, ⟨HR.out.1.next hlt, below_row HR.out.2.1 hgr2 (Nat.le_refl _) hgw, by rw [← HY.out]; exact hr2⟩⟩
          case measure => simp [intOf]; omega
    · obtain rfl : k = 32 := by omega
      go_wp2
      rename_i wz
      go_loopw [0, 2, 11, 12] (fun v i _ _ wr => ∃ (m d : Nat) (r : Int) (x : W32) (c : Array Value), i = .int .i64 r ∧ v = .int .u32 (nv x) ∧ -9223372036854775808 ≤ r ∧ r ≤ 9223372036854775807 ∧ Hid (d + m * r.toNat = n.toNat ∧ x = stepN (8 * d) a ∧ IsMat (stepN (8 * m)) c ∧ Below w.heap.size w wr ∧ Row wr g 41 c)) (fun _ i _ _ _ => (intOf i).toNat)
      case atStart => exact ⟨1, 0, n, a, c, rfl, rfl, h0, h1, ⟨by omega, rfl, HR.out.1.all, HR.out.2⟩⟩
      case round =>
        obtain ⟨m, d, r, x, c2, rfl, rfl, hr0, hr1, HR2⟩ := hrel
        have hrow := HR2.out.2.2.2.2
        by_cases hpos : 0 < r
        · by_cases hodd : r % 2 = 1
          · have HD := Lib.hid (done_odd HR2.out.1 hpos hodd)
            have hodd' : Int.tmod r 2 = 1 := by rw [Int.tmod_eq_emod_of_nonneg (by omega)]; exact hodd
            clear hodd
            go_wp2_with (refine wpList_load_arr _ rfl _ _ rfl _ (by exact rfl) _ c2 hrow 32 _ ty41 (size41' HR2.out.2.2.1.1) ?_)
            refine (refApply_any _ (Lin.step (8 * m)) c2 HR2.out.2.2.1 x _).mono ?_
            rintro e w4 ⟨rfl, hb4⟩
            have hrow4 := hrow.below hb4 hrow.lt
            go_wp2_with (refine wpList_alloc_arr _ rfl 11 rfl _ rfl _ zero41 ?_; intro w5 g5 hg5 hl5 hr5 hgr5)
            have HB5 := Lib.hid (show Below w.heap.size w w5 ∧ Row w5 g 41 c2 ∧ Row w5 g5 41 (Array.replicate 32 (.int .u32 0)) from ⟨below_row0 (HR2.out.2.2.2.1.trans (hb4.mono HR2.out.2.2.2.1.size)) hgr5 (Nat.le_refl _), hrow4.grown0 hgr5, hr5⟩)
            have HN := Lib.hid (show w.heap.size ≤ g5 ∧ g ≠ g5 by have := hrow4.lt; omega)
            clear hg5 hl5 hr5 hgr5
            go_loopw [12] (fun i wr => ∃ (k : Nat) (c3 : Array Value), k ≤ 32 ∧ i = .int .i64 k ∧ Hid (PartMat (fun z => stepN (8 * m) (stepN (8 * m) z)) c3 k ∧ Below w.heap.size w wr ∧ Row wr g 41 c2 ∧ Row wr g5 41 c3)) (fun i _ => 32 - (intOf i).toNat)
            case atStart => exact ⟨0, _, Nat.zero_le _, rfl, ⟨PartMat.start _, HB5.out⟩⟩
            case round =>
              obtain ⟨k, c3, hk3, rfl, HR3⟩ := hrel
              have hrg := HR3.out.2.2.1
              have hrg5 := HR3.out.2.2.2
              by_cases hlt3 : k < 32
              · have hkc3 : k < c3.size := by rw [HR3.out.1.1]; exact hlt3
                have hcell : ∀ wq, Row wq g 41 c2 → wq.cell? ⟨g, k, none⟩ = some (.int .u32 (nv (stepN (8 * m) (1#32 <<< k)))) := by
                  intro wq hq
                  rw [cell_of_row wq g k c2 _ (0, 0) hq, HR2.out.2.2.1.2 k hlt3]
                have hcell1 := hcell _ hrg
                go_wp2
                refine wp_region_any (by kernel_rfl) ?_
                change wpAny _ _ _ _ _ _ _ (World.drew _)
                refine wpAny_take (i := 0) (v := ?_) rfl (by kernel_rfl) (by kernel_rfl) (by kernel_rfl) (fun _ _ _ h => h) (Or.inl ⟨by rfl, by intro w; go_simp; try with_reducible rfl⟩) ?_
                refine wpAny_take (i := 2) (v := ?_) rfl (by kernel_rfl) (by kernel_rfl) (by kernel_rfl) (fun _ _ _ h => h) (Or.inl ⟨by rfl, by intro w; go_simp; try with_reducible rfl⟩) ?_
                refine wpAny_take (i := 3) (v := ?_) rfl (by kernel_rfl) (by kernel_rfl) (by kernel_rfl) (fun _ _ _ h => h) (Or.inl ⟨by rfl, by intro w; go_simp; try with_reducible rfl⟩) ?_
                have hcell1 := hcell _ (show Row (World.drew _) g 41 c2 from hrg)
                refine wpAny_ready (rs := [1, 4]) (by kernel_rfl) (by simp) ?_
                refine AllReady.cons rfl (fun K hK => ?_) (AllReady.cons rfl (fun K hK => ?_) AllReady.nil)
                · refine step_load_arr _ rfl _ _ rfl _ (by exact rfl) 41 c2 hrg 32 _ ty41 (size41' HR2.out.2.2.1.1) ?_
                  refine hK _ _ ?_
                  clear hK K
                  refine wpAny_ready (rs := [4]) (by kernel_rfl) (by simp) ?_
                  refine AllReady.cons rfl (fun K hK => ?_) AllReady.nil
                  go_simp
                  refine hK _ _ ?_
                  clear hK K
                  refine wpAny_ready (rs := [5]) (by kernel_rfl) (by simp) ?_
                  refine AllReady.cons rfl (fun K hK => ?_) AllReady.nil
                  go_simp
                  go_wp2_with (go_at_call 27; refine (refApply_any _ (Lin.step (8 * m)) c2 HR2.out.2.2.1 (stepN (8 * m) (1#32 <<< k)) _).mono ?_; rintro e w6 ⟨rfl, hb6⟩; have hrg6 := Row.below (show Row (World.drew _) g5 41 c3 from hrg5) hb6 hrg5.lt)
                  refine wpAny_take (i := 6) (v := ?_) rfl (by kernel_rfl) (by kernel_rfl) (by kernel_rfl) (fun _ _ _ h => h) (Or.inl ⟨by rfl, by intro w; go_simp; try with_reducible rfl⟩) ?_
                  refine wpAny_ready (rs := [7]) (by kernel_rfl) (by simp) ?_
                  refine AllReady.cons rfl (fun K hK => ?_) AllReady.nil
                  refine step_store_cell _ rfl rfl _ _ _ rfl g5 k (by exact rfl) _ (by exact rfl) (by exact rfl) _ c3 hrg6 hkc3 info23 ?_
                  intro w7 hr7 hgr7
                  refine hK _ _ ?_
                  clear hK K
                  refine wpAny_done (by kernel_rfl) ?_ _
                  go_wp2
                  go_roundw
                  case rel => exact ⟨k + 1, _, by omega, by go_num, ⟨HR3.out.1.next hlt3, below_row ((HR3.out.2.1.drew).trans (hb6.mono HR3.out.2.1.size)) hgr7 (Nat.le_refl _) HN.out.1, (Row.below (show Row (World.drew _) g 41 c2 from hrg) hb6 hrg.lt).grown hgr7 HN.out.2, hr7⟩⟩
                  case measure => simp [intOf]; omega
                · go_simp
                  refine hK _ _ ?_
                  clear hK K
                  refine wpAny_ready (rs := [1]) (by kernel_rfl) (by simp) ?_
                  refine AllReady.cons rfl (fun K hK => ?_) AllReady.nil
                  refine step_load_arr _ rfl _ _ rfl _ (by exact rfl) 41 c2 hrg 32 _ ty41 (size41' HR2.out.2.2.1.1) ?_
                  refine hK _ _ ?_
                  clear hK K
                  refine wpAny_ready (rs := [5]) (by kernel_rfl) (by simp) ?_
                  refine AllReady.cons rfl (fun K hK => ?_) AllReady.nil
                  go_simp
                  go_wp2_with (go_at_call 27; refine (refApply_any _ (Lin.step (8 * m)) c2 HR2.out.2.2.1 (stepN (8 * m) (1#32 <<< k)) _).mono ?_; rintro e w6 ⟨rfl, hb6⟩; have hrg6 := Row.below (show Row (World.drew _) g5 41 c3 from hrg5) hb6 hrg5.lt)
                  refine wpAny_take (i := 6) (v := ?_) rfl (by kernel_rfl) (by kernel_rfl) (by kernel_rfl) (fun _ _ _ h => h) (Or.inl ⟨by rfl, by intro w; go_simp; try with_reducible rfl⟩) ?_
                  refine wpAny_ready (rs := [7]) (by kernel_rfl) (by simp) ?_
                  refine AllReady.cons rfl (fun K hK => ?_) AllReady.nil
                  refine step_store_cell _ rfl rfl _ _ _ rfl g5 k (by exact rfl) _ (by exact rfl) (by exact rfl) _ c3 hrg6 hkc3 info23 ?_
                  intro w7 hr7 hgr7
                  refine hK _ _ ?_
                  clear hK K
                  refine wpAny_done (by kernel_rfl) ?_ _
                  go_wp2
                  go_roundw
                  case rel => exact ⟨k + 1, _, by omega, by go_num, ⟨HR3.out.1.next hlt3, below_row ((HR3.out.2.1.drew).trans (hb6.mono HR3.out.2.1.size)) hgr7 (Nat.le_refl _) HN.out.1, (Row.below (show Row (World.drew _) g 41 c2 from hrg) hb6 hrg.lt).grown hgr7 HN.out.2, hr7⟩⟩
                  case measure => simp [intOf]; omega
              · obtain rfl : k = 32 := by omega
                have HC := Lib.hid (lin_double HR3.out.1.all)
                go_wp2_with (first | (refine wpList_load_arr _ rfl _ _ rfl _ (by exact rfl) _ c3 hrg5 32 _ ty41 (size41' HC.out.1) ?_) | (refine wpList_store_arr _ rfl rfl _ _ _ rfl g (by exact rfl) c3 (by exact rfl) _ _ hrg (size41' HC.out.1) (by rw [HC.out.1, HR2.out.2.2.1.1]) HC.out.one ?_; intro w8 hr8 hgr8))
                refine ⟨?_, ?measure⟩
                iterate 26 apply Exists.intro
                refine ⟨?rel, rfl⟩
                case rel => exact ⟨2 * m, d + m, r / 2, _, c3, by go_num, rfl, by omega, by omega, ⟨HD.out, by rw [HR2.out.2.1, ← stepN_add]; congr 1; omega, HC.out, below_row HR3.out.2.1 hgr8 (Nat.le_refl _) hgw, hr8⟩⟩
                case measure => simp [intOf]; omega
          · have HD := Lib.hid (done_even HR2.out.1 hpos hodd)
            have hodd' : Int.tmod r 2 = 0 := by rw [Int.tmod_eq_emod_of_nonneg (by omega)]; omega
            clear hodd
            go_wp2_with (refine wpList_alloc_arr _ rfl 11 rfl _ rfl _ zero41 ?_; intro w5 g5 hg5 hl5 hr5 hgr5)
            have HB5 := Lib.hid (show Below w.heap.size w w5 ∧ Row w5 g 41 c2 ∧ Row w5 g5 41 (Array.replicate 32 (.int .u32 0)) from ⟨below_row0 (HR2.out.2.2.2.1) hgr5 (Nat.le_refl _), hrow.grown0 hgr5, hr5⟩)
            have HN := Lib.hid (show w.heap.size ≤ g5 ∧ g ≠ g5 by have := hrow.lt; omega)
            clear hg5 hl5 hr5 hgr5
            go_loopw [12] (fun i wr => ∃ (k : Nat) (c3 : Array Value), k ≤ 32 ∧ i = .int .i64 k ∧ Hid (PartMat (fun z => stepN (8 * m) (stepN (8 * m) z)) c3 k ∧ Below w.heap.size w wr ∧ Row wr g 41 c2 ∧ Row wr g5 41 c3)) (fun i _ => 32 - (intOf i).toNat)
            case atStart => exact ⟨0, _, Nat.zero_le _, rfl, ⟨PartMat.start _, HB5.out⟩⟩
            case round =>
              obtain ⟨k, c3, hk3, rfl, HR3⟩ := hrel
              have hrg := HR3.out.2.2.1
              have hrg5 := HR3.out.2.2.2
              by_cases hlt3 : k < 32
              · have hkc3 : k < c3.size := by rw [HR3.out.1.1]; exact hlt3
                have hcell : ∀ wq, Row wq g 41 c2 → wq.cell? ⟨g, k, none⟩ = some (.int .u32 (nv (stepN (8 * m) (1#32 <<< k)))) := by
                  intro wq hq
                  rw [cell_of_row wq g k c2 _ (0, 0) hq, HR2.out.2.2.1.2 k hlt3]
                have hcell1 := hcell _ hrg
                go_wp2
                refine wp_region_any (by kernel_rfl) ?_
                change wpAny _ _ _ _ _ _ _ (World.drew _)
                refine wpAny_take (i := 0) (v := ?_) rfl (by kernel_rfl) (by kernel_rfl) (by kernel_rfl) (fun _ _ _ h => h) (Or.inl ⟨by rfl, by intro w; go_simp; try with_reducible rfl⟩) ?_
                refine wpAny_take (i := 2) (v := ?_) rfl (by kernel_rfl) (by kernel_rfl) (by kernel_rfl) (fun _ _ _ h => h) (Or.inl ⟨by rfl, by intro w; go_simp; try with_reducible rfl⟩) ?_
                refine wpAny_take (i := 3) (v := ?_) rfl (by kernel_rfl) (by kernel_rfl) (by kernel_rfl) (fun _ _ _ h => h) (Or.inl ⟨by rfl, by intro w; go_simp; try with_reducible rfl⟩) ?_
                have hcell1 := hcell _ (show Row (World.drew _) g 41 c2 from hrg)
                refine wpAny_ready (rs := [1, 4]) (by kernel_rfl) (by simp) ?_
                refine AllReady.cons rfl (fun K hK => ?_) (AllReady.cons rfl (fun K hK => ?_) AllReady.nil)
                · refine step_load_arr _ rfl _ _ rfl _ (by exact rfl) 41 c2 hrg 32 _ ty41 (size41' HR2.out.2.2.1.1) ?_
                  refine hK _ _ ?_
                  clear hK K
                  refine wpAny_ready (rs := [4]) (by kernel_rfl) (by simp) ?_
                  refine AllReady.cons rfl (fun K hK => ?_) AllReady.nil
                  go_simp
                  refine hK _ _ ?_
                  clear hK K
                  refine wpAny_ready (rs := [5]) (by kernel_rfl) (by simp) ?_
                  refine AllReady.cons rfl (fun K hK => ?_) AllReady.nil
                  go_simp
                  go_wp2_with (go_at_call 27; refine (refApply_any _ (Lin.step (8 * m)) c2 HR2.out.2.2.1 (stepN (8 * m) (1#32 <<< k)) _).mono ?_; rintro e w6 ⟨rfl, hb6⟩; have hrg6 := Row.below (show Row (World.drew _) g5 41 c3 from hrg5) hb6 hrg5.lt)
                  refine wpAny_take (i := 6) (v := ?_) rfl (by kernel_rfl) (by kernel_rfl) (by kernel_rfl) (fun _ _ _ h => h) (Or.inl ⟨by rfl, by intro w; go_simp; try with_reducible rfl⟩) ?_
                  refine wpAny_ready (rs := [7]) (by kernel_rfl) (by simp) ?_
                  refine AllReady.cons rfl (fun K hK => ?_) AllReady.nil
                  refine step_store_cell _ rfl rfl _ _ _ rfl g5 k (by exact rfl) _ (by exact rfl) (by exact rfl) _ c3 hrg6 hkc3 info23 ?_
                  intro w7 hr7 hgr7
                  refine hK _ _ ?_
                  clear hK K
                  refine wpAny_done (by kernel_rfl) ?_ _
                  go_wp2
                  go_roundw
                  case rel => exact ⟨k + 1, _, by omega, by go_num, ⟨HR3.out.1.next hlt3, below_row ((HR3.out.2.1.drew).trans (hb6.mono HR3.out.2.1.size)) hgr7 (Nat.le_refl _) HN.out.1, (Row.below (show Row (World.drew _) g 41 c2 from hrg) hb6 hrg.lt).grown hgr7 HN.out.2, hr7⟩⟩
                  case measure => simp [intOf]; omega
                · go_simp
                  refine hK _ _ ?_
                  clear hK K
                  refine wpAny_ready (rs := [1]) (by kernel_rfl) (by simp) ?_
                  refine AllReady.cons rfl (fun K hK => ?_) AllReady.nil
                  refine step_load_arr _ rfl _ _ rfl _ (by exact rfl) 41 c2 hrg 32 _ ty41 (size41' HR2.out.2.2.1.1) ?_
                  refine hK _ _ ?_
                  clear hK K
                  refine wpAny_ready (rs := [5]) (by kernel_rfl) (by simp) ?_
                  refine AllReady.cons rfl (fun K hK => ?_) AllReady.nil
                  go_simp
                  go_wp2_with (go_at_call 27; refine (refApply_any _ (Lin.step (8 * m)) c2 HR2.out.2.2.1 (stepN (8 * m) (1#32 <<< k)) _).mono ?_; rintro e w6 ⟨rfl, hb6⟩; have hrg6 := Row.below (show Row (World.drew _) g5 41 c3 from hrg5) hb6 hrg5.lt)
                  refine wpAny_take (i := 6) (v := ?_) rfl (by kernel_rfl) (by kernel_rfl) (by kernel_rfl) (fun _ _ _ h => h) (Or.inl ⟨by rfl, by intro w; go_simp; try with_reducible rfl⟩) ?_
                  refine wpAny_ready (rs := [7]) (by kernel_rfl) (by simp) ?_
                  refine AllReady.cons rfl (fun K hK => ?_) AllReady.nil
                  refine step_store_cell _ rfl rfl _ _ _ rfl g5 k (by exact rfl) _ (by exact rfl) (by exact rfl) _ c3 hrg6 hkc3 info23 ?_
                  intro w7 hr7 hgr7
                  refine hK _ _ ?_
                  clear hK K
                  refine wpAny_done (by kernel_rfl) ?_ _
                  go_wp2
                  go_roundw
                  case rel => exact ⟨k + 1, _, by omega, by go_num, ⟨HR3.out.1.next hlt3, below_row ((HR3.out.2.1.drew).trans (hb6.mono HR3.out.2.1.size)) hgr7 (Nat.le_refl _) HN.out.1, (Row.below (show Row (World.drew _) g 41 c2 from hrg) hb6 hrg.lt).grown hgr7 HN.out.2, hr7⟩⟩
                  case measure => simp [intOf]; omega
              · obtain rfl : k = 32 := by omega
                have HC := Lib.hid (lin_double HR3.out.1.all)
                go_wp2_with (first | (refine wpList_load_arr _ rfl _ _ rfl _ (by exact rfl) _ c3 hrg5 32 _ ty41 (size41' HC.out.1) ?_) | (refine wpList_store_arr _ rfl rfl _ _ _ rfl g (by exact rfl) c3 (by exact rfl) _ _ hrg (size41' HC.out.1) (by rw [HC.out.1, HR2.out.2.2.1.1]) HC.out.one ?_; intro w8 hr8 hgr8))
                refine ⟨?_, ?measure⟩
                iterate 26 apply Exists.intro
                refine ⟨?rel, rfl⟩
                case rel => exact ⟨2 * m, d, r / 2, _, c3, by go_num, rfl, by omega, by omega, ⟨HD.out, HR2.out.2.1, HC.out, below_row HR3.out.2.1 hgr8 (Nat.le_refl _) hgw, hr8⟩⟩
                case measure => simp [intOf]; omega
        · have HD := Lib.hid (done_all HR2.out.1 hpos)
          have hx := nv_xor x b
          go_wp2
          go_ret
          exact ⟨ret_int (by rw [HR2.out.2.1, HD.out, BitVec.xor_comm]; rfl), HR2.out.2.2.2.1⟩

end Go.Proofs.Ytpbdcljpcchihaa
