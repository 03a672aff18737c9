/-
  Contract of Lower of the reference of layer 1.
-/
import Derived.Test.YtmfoegpdjajicaaTyB
import Derived.Test.YtmfoegpdjajicaaAscP
namespace Go.Proofs.Ytmfoegpdjajicaa
open Go.RowKit

set_option maxHeartbeats 1000000 in
theorem refLower_any (s : ByteArray) (w : World) (hs : s.size ≤ 1000000000) :
    Calls Try.prog 27 #[.string s] w fun e w' => e = .returned (.string (lowS s)) ∧ Below w.heap.size w w' := by
  obtain ⟨i5, hi5, hz0, hz1, hz2⟩ := info_parts infoU8
  go_enter Try.func27, Try.ntmps27
  go_wp2
  go_loopw [3, 4] (fun v i wr => ∃ k : Nat, k ≤ s.size ∧ i = .int .i64 k ∧ wr.ownsRow w.heap.size 5 1 v k (((lowL (ls s)).take k).map bv) ∧ Below w.heap.size w wr) (fun _ i _ => s.size - (intOf i).toNat)
  case atStart => exact ⟨0, Nat.zero_le _, rfl, World.ownsRow_nil _ _ _ _, Below.refl _ _⟩
  case round =>
    obtain ⟨k, hk, rfl, hown, hb⟩ := hrel
    by_cases hlt : k < s.size
    · have hnext : Hid ((((lowL (ls s)).take k).map bv) ++ [.int .u8 (lowI (s[k].toNat : Int))] = ((lowL (ls s)).take (k + 1)).map bv) := by
        have hl : k < (lowL (ls s)).length := by rw [lowL_length, ls_length]; exact hlt
        rw [List.take_succ_eq_append_getElem hl, List.map_append]
        simp only [lowL, List.getElem_map, ls_getE s k hlt, List.map_cons, List.map_nil, bv_eq, lowU_toNat]
        rfl
      have hbl := byte_lt s[k]
      by_cases hu : upperB (s[k].toNat : Int) = true
      · have hlo : Hid (lowI (s[k].toNat : Int) = (s[k].toNat : Int) + 32) := by show _ = _; simp [lowI, hu]
        have h65 : (65 : Int) ≤ (s[k].toNat : Int) := by simp [upperB] at hu; omega
        have h90 : (s[k].toNat : Int) ≤ 90 := by simp [upperB] at hu; omega
        clear hu
        go_wp2_with (at_builtin; refine wpList_app_one _ rfl _ _ 22 rfl w.heap.size 5 i5 (.int .u8 0) 1 tyBs hi5 hz0 hz1 hz2 rfl _ (by exact rfl) _ _ _ (by exact rfl) hown (by exact rfl) (by unfold maxLen; omega) (by omega) hb (Nat.le_refl _) ?_; intro v' w' hown' hb' _)
        go_roundw
        case rel => exact ⟨k + 1, by omega, by go_num, by rw [← hnext.out, hlo.out]; exact hown', hb'⟩
        case measure => simp [intOf]; omega
      · have hlo : Hid (lowI (s[k].toNat : Int) = (s[k].toNat : Int)) := by show _ = _; simp [lowI, hu]
        have hnu : ¬ ((65 : Int) ≤ (s[k].toNat : Int) ∧ (s[k].toNat : Int) ≤ 90) := by
          intro hc
          exact hu (by simp [upperB]; omega)
        clear hu
        by_cases h65 : (65 : Int) ≤ (s[k].toNat : Int)
        · have h90 : ¬ (s[k].toNat : Int) ≤ 90 := fun hc => hnu ⟨h65, hc⟩
          clear hnu
          go_wp2_with (at_builtin; refine wpList_app_one _ rfl _ _ 22 rfl w.heap.size 5 i5 (.int .u8 0) 1 tyBs hi5 hz0 hz1 hz2 rfl _ (by exact rfl) _ _ _ (by exact rfl) hown (by exact rfl) (by unfold maxLen; omega) (by omega) hb (Nat.le_refl _) ?_; intro v' w' hown' hb' _)
          go_roundw
          case rel => exact ⟨k + 1, by omega, by go_num, by rw [← hnext.out, hlo.out]; exact hown', hb'⟩
          case measure => simp [intOf]; omega
        · clear hnu
          go_wp2_with (at_builtin; refine wpList_app_one _ rfl _ _ 22 rfl w.heap.size 5 i5 (.int .u8 0) 1 tyBs hi5 hz0 hz1 hz2 rfl _ (by exact rfl) _ _ _ (by exact rfl) hown (by exact rfl) (by unfold maxLen; omega) (by omega) hb (Nat.le_refl _) ?_; intro v' w' hown' hb' _)
          go_roundw
          case rel => exact ⟨k + 1, by omega, by go_num, by rw [← hnext.out, hlo.out]; exact hown', hb'⟩
          case measure => simp [intOf]; omega
    · obtain rfl : k = s.size := by omega
      have hall : Hid (((lowL (ls s)).take s.size) = lowL (ls s)) := by
        show _ = _
        rw [List.take_of_length_le (by rw [lowL_length, ls_length]; exact Nat.le_refl _)]
      rw [hall.out] at hown
      have hconv := str_owned wr _ _ _ _ hown
      go_wp2
      go_ret
      exact ⟨rfl, hb⟩

end Go.Proofs.Ytmfoegpdjajicaa
