/-
  The contract of the reference's Dirty.
-/
import Derived.Test.YtbknpfngboioeaaDr7
namespace Go.Proofs.Ytbknpfngboioeaa
open Go.RowKit

theorem tyIntsR : Try.prog.underlying 61 = some (.slice 3) := by kernel_rfl
theorem infoIntR : (Try.prog.info? 3).map (fun x => (x.size, x.bytes, x.zero)) = some (1, 8, some (.int .i64 0)) := by kernel_rfl
theorem info_parts8 {P : Program} {t : TypeId} {z : Value} (h : (P.info? t).map (fun x => (x.size, x.bytes, x.zero)) = some (1, 8, some z)) : ∃ i, P.info? t = some i ∧ i.zero = some z ∧ i.size = 1 ∧ i.bytes = 8 := by
  cases hi : P.info? t with
  | none => simp [hi] at h
  | some i =>
    simp [hi] at h
    exact ⟨i, rfl, h.2.2, h.1, h.2.1⟩
theorem dirtyZ_zero (ca : Nat → Option (List UInt8)) : dirtyZ 0 ca = [] := rfl
theorem dirtyZ_none {k : Nat} {ca : Nat → Option (List UInt8)} (h : ca k = none) : dirtyZ (k + 1) ca = dirtyZ k ca := by
  simp [dirtyZ, dirty, List.range_succ, h]
theorem dirtyZ_some {k : Nat} {ca : Nat → Option (List UInt8)} {xs : List UInt8} (h : ca k = some xs) : dirtyZ (k + 1) ca = dirtyZ k ca ++ [(k : Int)] := by
  simp [dirtyZ, dirty, List.range_succ, h]
theorem dirtyZ_len (k : Nat) (ca : Nat → Option (List UInt8)) : (dirtyZ k ca).length ≤ k := by
  simp only [dirtyZ, dirty, List.length_map]
  exact Nat.le_trans (List.length_filter_le _ _) (by simp)
theorem M_small {M k n : Nat} (h : M ≤ k) (hk : k < n) (hn : n ≤ 4096) : M + 1 ≤ maxLen ∧ (M + 1) * 8 ≤ 140737488355328 := by
  unfold maxLen
  omega
set_option maxRecDepth 20000 in
set_option maxHeartbeats 1600000 in
theorem rdirty_any {w : World} {F : Nat → Prop} {a n : Nat} {S : Dsk} (h : RD w F a n S) : Calls Try.prog 40 #[.pointer (some ⟨a, 0, none⟩)] w fun e w' => ∃ v, e = .returned v ∧
    w'.ownsRow w.heap.size 3 1 v (dirtyZ n S.ca).length ((dirtyZ n S.ca).map (Value.int .i64)) ∧ Below w.heap.size w w' := by
  have HH := Lib.hid h
  have hn4 := Lib.hid h.ok.n4
  clear h
  obtain ⟨i6, hi6, hz0, hz1, hz2⟩ := info_parts8 infoIntR
  go_enter Try.func40, Try.ntmps40
  go_wp2
  go_loopw [3, 4] (fun ov iv wr => ∃ (k M : Nat), k ≤ n ∧ Hid (M = (dirtyZ k S.ca).length) ∧ iv = .int .i64 k ∧ wr.ownsRow w.heap.size 3 1 ov M ((dirtyZ k S.ca).map (Value.int .i64)) ∧ Hid (Below w.heap.size w wr)) (fun _ iv _ => ((n : Int) - RowKit.intOf iv).toNat)
  case atStart => exact ⟨0, 0, Nat.zero_le _, rfl, rfl, World.ownsRow_nil _ _ _ _, Below.refl _ _⟩
  case round =>
    obtain ⟨k, M, hk, hM, rfl, hown, HR⟩ := hrel
    have hR1 := HH.out.below HR.out
    have hsec := rsectors_any hR1
    by_cases hkn : k < n
    · have hd : decide ((k : Int) < (n : Int)) = true := by simpa using hkn
      obtain ⟨r1, r2, c1, c2, A, m, c, V1, V2, hx⟩ := hR1
      have k1 := hx.e1
      have d2 := hx.row2.cell hkn
      have hv2 := hx.v2 k hkn
      have hkni : (k : Int) < (n : Int) := by omega
      have hk4 : (k : Int) ≤ 4096 := by have := hn4.out; omega
      have hMs := Lib.hid (M_small (M := M) (k := k) (by rw [hM.out]; exact dirtyZ_len k S.ca) hkn hn4.out)
      have hkw : wrap64 ((k : Int) + 1) = (k : Int) + 1 := by unfold wrap64; omega
      cases hc : S.ca k with
      | none =>
        rw [hc] at hv2
        have hv2' : V2 k = .slice none 0 0 := hv2
        rw [hv2'] at d2
        have q0 : ∀ W : World, (binOp .neq 32 (.slice none 0 0) (.slice none 0 0)).run Try.prog W = .ok (.bool false) W := fun W => run_neq_slice_nil_any W _ _ none 0 0 0 0 tyBs
        have hdn := Lib.hid (dirtyZ_none hc)
        clear hx hv2 hv2' hc hk
        go_wp2_with (go_at_call 62; refine hsec.mono ?_; rintro e w1 ⟨rfl, rfl⟩)
        go_roundw
        case rel => exact ⟨k + 1, M, by omega, by rw [hdn.out]; exact hM, by go_num, by rw [hdn.out]; exact hown, HR⟩
        case measure => simp [RowKit.intOf]; omega
      | some xs =>
        rw [hc] at hv2
        obtain ⟨g, cg, ev, hF, ho⟩ := (show Sl _ F (V2 k) xs from hv2)
        rw [ev] at d2
        have q0 : ∀ W : World, (binOp .neq 32 (.slice (some ⟨g, 0, none⟩) 64 cg) (.slice none 0 0)).run Try.prog W = .ok (.bool true) W := fun W => run_neq_slice_nil_any W _ _ (some ⟨g, 0, none⟩) 64 cg 0 0 tyBs
        have hdn := Lib.hid (dirtyZ_some hc)
        have hml : Hid (M + 1 = (dirtyZ (k + 1) S.ca).length) := by show _ = _; rw [hdn.out, hM.out]; simp
        clear hx hv2 hc hk ev hF ho
        go_wp2_with (first
          | (go_at_call 62; refine hsec.mono ?_; rintro e w1 ⟨rfl, rfl⟩)
          | (at_builtin; refine wpList_app_one _ rfl _ _ 61 rfl w.heap.size 3 i6 (.int .i64 0) 8 tyIntsR hi6 hz0 hz1 hz2 rfl _ (by exact rfl) _ _ _ (by exact rfl) hown (by exact rfl) hMs.out.1 hMs.out.2 HR.out (Nat.le_refl _) ?_; intro v' w' hown' hb' _))
        go_roundw
        case rel => exact ⟨k + 1, M + 1, by omega, hml, by go_num, by rw [hdn.out, List.map_append]; exact hown', hb'⟩
        case measure => simp [RowKit.intOf]; omega
    · have hd : decide ((k : Int) < (n : Int)) = false := by simpa using hkn
      have hkn' : k = n := by omega
      subst hkn'
      go_wp2_with (go_at_call 62; refine hsec.mono ?_; rintro e w1 ⟨rfl, rfl⟩)
      go_ret
      exact ⟨_, rfl, by rw [← hM.out]; exact hown, HR.out⟩

end Go.Proofs.Ytbknpfngboioeaa
