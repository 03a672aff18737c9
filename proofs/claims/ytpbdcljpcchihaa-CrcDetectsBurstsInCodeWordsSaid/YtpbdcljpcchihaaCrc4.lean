/-
  Contracts of the matrices of package crc: of eight steps; the product.
-/
import Derived.Test.YtpbdcljpcchihaaCrc3
namespace Go.Proofs.Ytpbdcljpcchihaa
open Go.RowKit

/-- The first k columns are there. -/
def PartMat (f : W32 → W32) (c : Array Value) (k : Nat) : Prop := c.size = 32 ∧ (∀ v ∈ c, v.oneCell' = true) ∧ ∀ i, i < k → c[i]? = some (.int .u32 (nv (f (1#32 <<< i))))
theorem PartMat.start (f : W32 → W32) : PartMat f (Array.replicate 32 (.int .u32 0)) 0 :=
  ⟨by simp, fun v hv => by obtain ⟨_, rfl⟩ := Array.mem_replicate.1 hv; rfl, fun i hi => absurd hi (by omega)⟩
theorem PartMat.next {f : W32 → W32} {c : Array Value} {k : Nat} (h : PartMat f c k) (hk : k < 32) : PartMat f (c.setIfInBounds k (.int .u32 (nv (f (1#32 <<< k))))) (k + 1) :=
  ⟨by simp [h.1], fun v hv => by
      rcases Array.mem_or_eq_of_mem_setIfInBounds hv with h' | rfl
      · exact h.2.1 v h'
      · rfl, fun i hi => by
      by_cases hik : i = k
      · subst hik; rw [Array.getElem?_setIfInBounds_self_of_lt (by rw [h.1]; exact hk)]
      · rw [Array.getElem?_setIfInBounds_ne (fun e => hik e.symm)]; exact h.2.2 i (by omega)⟩
theorem PartMat.all {f : W32 → W32} {c : Array Value} (h : PartMat f c 32) : IsMat f c := ⟨h.1, h.2.2⟩
theorem PartMat.one {f : W32 → W32} {c : Array Value} {k : Nat} (h : PartMat f c k) : c.all (·.oneCell') = true := by
  rw [Array.all_eq_true_iff_forall_mem]; exact h.2.1
theorem IsMat.one {f : W32 → W32} {c : Array Value} (h : IsMat f c) : c.all (·.oneCell') = true := by
  rw [Array.all_eq_true_iff_forall_mem]
  intro v hv
  obtain ⟨i, hi, rfl⟩ := Array.getElem_of_mem hv
  have := h.2 i (by rw [← h.1]; exact hi)
  rw [Array.getElem?_eq_getElem hi] at this
  injection this with this
  rw [this]; rfl
theorem one_shl : ∀ k < 32, IntKind.u32.wrap (1 * 2 ^ k) = nv (1#32 <<< k) := by
  unfold nv; decide +kernel
theorem bits32 : IntKind.u32.bits = 32 := rfl

set_option maxHeartbeats 1000000 in
theorem oneByte_any (w : World) : Calls Try.prog 24 #[] w fun e w' => (∃ c, e = .returned (.agg c) ∧ IsMat (stepN 8) c) ∧ Below w.heap.size w w' := by
  go_enter Try.func24, Try.ntmps24
  go_wp2_with (first | (refine wpList_alloc_arr _ rfl 0 rfl _ rfl _ zero42 ?_; intro w0 g0 hg0 hl0 hr0 hgr0) | (refine wpList_alloc_arr _ rfl 1 rfl _ rfl _ zero42 ?_; intro w1 g1 hg1 hl1 hr1 hgr1))
  have hb0 := below_row0 (Below.refl w.heap.size w) hgr0 (Nat.le_refl _)
  have hb1 := below_row0 hb0 hgr1 (Nat.le_refl _)
  have hr0' := hr0.grown0 hgr1
  have hne : g0 ≠ g1 := by omega
  have hgw : w.heap.size ≤ g1 := by have := hb0.size; omega
  clear hgr0 hgr1 hr0 hl0 hg1
  have HB1 := Lib.hid (show Below w.heap.size w w1 ∧ Row w1 g0 42 (Array.replicate 32 (.int .u32 0)) ∧ Row w1 g1 42 (Array.replicate 32 (.int .u32 0)) from ⟨hb1, hr0', hr1⟩)
  have HNE := Lib.hid hne
  clear hb0 hb1 hr0' hr1 hne
  go_loopw [2, 3] (fun _ i wr => ∃ (k : Nat) (c : Array Value), k ≤ 32 ∧ i = .int .i64 k ∧ Hid (PartMat (stepN 8) c k ∧ Below w.heap.size w wr ∧ Row wr g0 42 (Array.replicate 32 (.int .u32 0)) ∧ Row wr g1 42 c)) (fun _ i _ => 32 - (intOf i).toNat)
  case atStart => exact ⟨0, _, Nat.zero_le _, rfl, ⟨PartMat.start _, HB1.out⟩⟩
  case round =>
    obtain ⟨k, c, hk, rfl, HR⟩ := hrel
    by_cases hlt : k < 32
    · have hsh := Lib.hid (one_shl k hlt)
      have hr1 := HR.out.2.2.2
      have hkc : k < c.size := by rw [HR.out.1.1]; exact hlt
      go_wp2_with (first | (refine wpList_shl _ rfl _ _ _ _ rfl .u32 1 k hk (by exact rfl) (by exact rfl) _ hsh.out ?_) | (go_at_call 22; refine (eight_any _ _).mono ?_; rintro e w' ⟨rfl, rfl⟩) | (refine wpList_store_cell _ rfl rfl _ _ _ rfl g1 k (by exact rfl) _ (by exact rfl) (by exact rfl) _ c hr1 hkc info23 ?_; intro w2 hr2 hgr2))
      go_roundw
      case rel => exact ⟨k + 1, _, by omega, by go_num, ⟨HR.out.1.next hlt, below_row HR.out.2.1 hgr2 (Nat.le_refl _) hgw, HR.out.2.2.1.grown hgr2 HNE.out, hr2⟩⟩
      case measure => simp [intOf]; omega
    · obtain rfl : k = 32 := by omega
      have hr1 := HR.out.2.2.2
      have hr0 := HR.out.2.2.1
      go_wp2_with (first | (refine wpList_load_arr _ rfl _ _ rfl _ (by exact rfl) _ c hr1 32 _ ty42 (size42' HR.out.1.1) ?_) | (refine wpList_store_arr _ rfl rfl _ _ _ rfl g0 (by exact rfl) c (by exact rfl) _ _ hr0 (size42' HR.out.1.1) (by rw [HR.out.1.1]; rfl) HR.out.1.one ?_; intro w2 hr2 hgr2))
      (try simp only [Exit.inBlock, Exit.then])
      refine ret_cell_arr 0 _ rfl g0 (by exact rfl) _ c hr2 32 _ ty42 (size42' HR.out.1.1) (by exact rfl) ?_
      exact ⟨⟨c, rfl, HR.out.1.all⟩, below_row HR.out.2.1 hgr2 (Nat.le_refl _) hg0⟩

set_option maxHeartbeats 1000000 in
theorem times_any (f g : W32 → W32) (hf : Lin f) (cm cf : Array Value) (hm : IsMat f cm) (hg : IsMat g cf) (w : World) :
    Calls Try.prog 26 #[.agg cm, .agg cf] w fun e w' => (∃ c, e = .returned (.agg c) ∧ IsMat (fun x => f (g x)) c) ∧ Below w.heap.size w w' := by
  have HF := Lib.hid hf
  have HM := Lib.hid hm
  have HG := Lib.hid hg
  clear hf hm hg
  go_enter Try.func26, Try.ntmps26
  go_wp2_with (first | (refine wpList_box_arr _ rfl 2 rfl _ _ rfl _ cm (by exact rfl) (by exact rfl) ?_; intro w2 g2 hg2 hl2 hr2 hgr2) | (refine wpList_box_arr _ rfl 3 rfl _ _ rfl _ cf (by exact rfl) (by exact rfl) ?_; intro w3 g3 hg3 hl3 hr3 hgr3) | (refine wpList_alloc_arr _ rfl 4 rfl _ rfl _ zero42 ?_; intro w4 g4 hg4 hl4 hr4 hgr4) | (refine wpList_alloc_arr _ rfl 5 rfl _ rfl _ zero42 ?_; intro w5 g5 hg5 hl5 hr5 hgr5; have hr3' := (hr3.grown0 hgr4).grown0 hgr5) | (refine wpList_load_arr _ rfl _ _ rfl _ (by exact rfl) _ cf hr3' 32 _ ty42 (size42' HG.out.1) ?_))
  have HB := Lib.hid (show Below w.heap.size w w5 ∧ Row w5 g2 42 cm ∧ Row w5 g4 42 (Array.replicate 32 (.int .u32 0)) ∧ Row w5 g5 42 (Array.replicate 32 (.int .u32 0)) from
    ⟨below_row0 (below_row0 (below_row0 (below_row0 (Below.refl w.heap.size w) hgr2 (Nat.le_refl _)) hgr3 (Nat.le_refl _)) hgr4 (Nat.le_refl _)) hgr5 (Nat.le_refl _), ((hr2.grown0 hgr3).grown0 hgr4).grown0 hgr5, hr4.grown0 hgr5, hr5⟩)
  have HN := Lib.hid (show w.heap.size ≤ g4 ∧ w.heap.size ≤ g5 ∧ g2 ≠ g5 ∧ g4 ≠ g5 by
    have := hgr2.size; have := hgr3.size; have := hgr4.size; have := hgr5.size; omega)
  clear hgr2 hgr3 hgr4 hgr5 hr2 hr3 hr3' hr4 hr5 hg2 hg3 hg4 hg5 hl2 hl3 hl4 hl5
  go_loopw [6, 7, 9] (fun _ _ i wr => ∃ (k : Nat) (c : Array Value), k ≤ 32 ∧ i = .int .i64 k ∧ Hid (PartMat (fun x => f (g x)) c k ∧ Below w.heap.size w wr ∧ Row wr g2 42 cm ∧ Row wr g4 42 (Array.replicate 32 (.int .u32 0)) ∧ Row wr g5 42 c)) (fun _ _ i _ => 32 - (intOf i).toNat)
  case atStart => exact ⟨0, _, Nat.zero_le _, rfl, ⟨PartMat.start _, HB.out⟩⟩
  case round =>
    obtain ⟨k, c, hk, rfl, HR⟩ := hrel
    by_cases hlt : k < 32
    · have hidx := run_index_arr (P := Try.prog) 42 23 32 .u32 ty42 ty23 info23 cf k hlt _ (HG.out.2 k hlt)
      have hr2 := HR.out.2.2.1
      have hr5 := HR.out.2.2.2.2
      have hkc : k < c.size := by rw [HR.out.1.1]; exact hlt
      go_wp2_with (first | (refine wpList_load_arr _ rfl _ _ rfl _ (by exact rfl) _ cm hr2 32 _ ty42 (size42' HM.out.1) ?_) | (go_at_call 25; refine (apply_any f HF.out cm HM.out (g (1#32 <<< k)) _).mono ?_; rintro e w6 ⟨rfl, hb6⟩; have hr5' := hr5.below hb6 hr5.lt) | (refine wpList_store_cell _ rfl rfl _ _ _ rfl g5 k (by exact rfl) _ (by exact rfl) (by exact rfl) _ c hr5' hkc info23 ?_; intro w7 hr7 hgr7))
      go_roundw
      case rel => exact ⟨k + 1, _, by omega, by go_num, ⟨HR.out.1.next hlt, below_row (HR.out.2.1.trans (hb6.mono HR.out.2.1.size)) hgr7 (Nat.le_refl _) HN.out.2.1, (hr2.below hb6 hr2.lt).grown hgr7 HN.out.2.2.1, (HR.out.2.2.2.1.below hb6 HR.out.2.2.2.1.lt).grown hgr7 HN.out.2.2.2, hr7⟩⟩
      case measure => simp [intOf]; omega
    · obtain rfl : k = 32 := by omega
      have hr5 := HR.out.2.2.2.2
      have hr4 := HR.out.2.2.2.1
      go_wp2_with (first | (refine wpList_load_arr _ rfl _ _ rfl _ (by exact rfl) _ c hr5 32 _ ty42 (size42' HR.out.1.1) ?_) | (refine wpList_store_arr _ rfl rfl _ _ _ rfl g4 (by exact rfl) c (by exact rfl) _ _ hr4 (size42' HR.out.1.1) (by rw [HR.out.1.1]; rfl) HR.out.1.one ?_; intro w7 hr7 hgr7))
      (try simp only [Exit.inBlock, Exit.then])
      refine ret_cell_arr 4 _ rfl g4 (by exact rfl) _ c hr7 32 _ ty42 (size42' HR.out.1.1) (by exact rfl) ?_
      exact ⟨⟨c, rfl, HR.out.1.all⟩, below_row HR.out.2.1 hgr7 (Nat.le_refl _) HN.out.1⟩

end Go.Proofs.Ytpbdcljpcchihaa
