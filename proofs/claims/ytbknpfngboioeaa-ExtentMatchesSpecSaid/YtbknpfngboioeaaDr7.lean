/-
  Contracts of the reference's Image and Dirty.
-/
import Derived.Test.YtbknpfngboioeaaDr6
namespace Go.Proofs.Ytbknpfngboioeaa
open Go.RowKit

theorem L_next {k L : Nat} (h : L = 64 * k) : L + 64 = 64 * (k + 1) := by omega
theorem L_small {k n L : Nat} (h : L = 64 * k) (hk : k < n) (hn : n ≤ 4096) : L + 64 ≤ maxLen ∧ (L + 64) * 1 ≤ 140737488355328 := by
  unfold maxLen
  omega
set_option maxRecDepth 20000 in
set_option maxHeartbeats 1600000 in
theorem rimage_any {w : World} {F : Nat → Prop} {a n : Nat} {S : Dsk} (h : RD w F a n S) : Calls Try.prog 42 #[.pointer (some ⟨a, 0, none⟩)] w fun e w' =>
    ∃ v L, e = .returned v ∧ L = 64 * n ∧ w'.ownsRow w.heap.size 5 1 v L ((flat n S.st).map bv) ∧ Below w.heap.size w w' := by
  have HH := Lib.hid h
  have hn4 := Lib.hid h.ok.n4
  clear h
  obtain ⟨i5, hi5, hz0, hz1, hz2⟩ := info_parts infoU8
  go_enter Try.func42, Try.ntmps42
  go_wp2
  go_loopw [3, 4] (fun ov iv wr => ∃ (k L : Nat), k ≤ n ∧ Hid (L = 64 * k) ∧ iv = .int .i64 k ∧ wr.ownsRow w.heap.size 5 1 ov L ((flat k S.st).map bv) ∧ Hid (Below w.heap.size w wr)) (fun _ iv _ => ((n : Int) - RowKit.intOf iv).toNat)
  case atStart => exact ⟨0, 0, Nat.zero_le _, rfl, rfl, World.ownsRow_nil _ _ _ _, Below.refl _ _⟩
  case round =>
    obtain ⟨k, L, hk, hL, rfl, hown, HR⟩ := hrel
    have hR1 := HH.out.below HR.out
    have hsec := rsectors_any hR1
    by_cases hkn : k < n
    · have hd : decide ((k : Int) < (n : Int)) = true := by simpa using hkn
      obtain ⟨r1, r2, c1, c2, A, m, c, V1, V2, hx⟩ := hR1
      have k0 := hx.e0
      have d1 := hx.row1.cell hkn
      obtain ⟨g, cg, hV, hFg, hog⟩ := hx.v1 k hkn
      rw [hV] at d1
      have hhs := hog.has
      have hkni : (k : Int) < (n : Int) := by omega
      have hk4 : (k : Int) ≤ 4096 := by have := hn4.out; omega
      have hLs := Lib.hid (L_small hL.out hkn hn4.out)
      have hsn := Lib.hid (flat_succ k S.st)
      have hkw : wrap64 ((k : Int) + 1) = (k : Int) + 1 := by unfold wrap64; omega
      clear hx hV hFg hog hk
      go_wp2_with (first
        | (go_at_call 62; refine hsec.mono ?_; rintro e w1 ⟨rfl, rfl⟩)
        | (at_builtin; refine wpList_app_has _ rfl _ _ 32 (by exact rfl) w.heap.size 5 i5 (.int .u8 0) 1 tyBs hi5 hz0 hz1 hz2 rfl _ L _ (by exact rfl) hown (some ⟨g, 0, none⟩) 64 cg _ _ (by exact rfl) (fun e => by cases e) hhs (one_bytes _) hLs.out.1 hLs.out.2 HR.out (Nat.le_refl _) ?_; intro v3 w3 hown3 hb3 _))
      go_roundw
      case rel => exact ⟨k + 1, L + 64, by omega, L_next hL.out, by go_num, by rw [hsn.out, List.map_append]; exact hown3, hb3⟩
      case measure => simp [RowKit.intOf]; omega
    · have hd : decide ((k : Int) < (n : Int)) = false := by simpa using hkn
      have hkn' : k = n := by omega
      subst hkn'
      go_wp2_with (go_at_call 62; refine hsec.mono ?_; rintro e w1 ⟨rfl, rfl⟩)
      go_ret
      exact ⟨_, L, rfl, hL.out, hown, HR.out⟩

end Go.Proofs.Ytbknpfngboioeaa
