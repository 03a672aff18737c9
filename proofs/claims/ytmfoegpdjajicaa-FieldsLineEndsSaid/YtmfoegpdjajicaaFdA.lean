/-
  The reference's All and First of layer 21.
-/
import Derived.Test.YtmfoegpdjajicaaFdM
import Derived.Test.YtmfoegpdjajicaaRfE
import Derived.Test.YtmfoegpdjajicaaStC
namespace Go.Proofs.Ytmfoegpdjajicaa
open Go.RowKit

def ListPost (l : List (List UInt8)) (w : World) (e : Ending) (w' : World) : Prop :=
  ∃ v n, e = .returned v ∧ w'.ownsRow w.heap.size 9 1 v n (wv l) ∧ Below w.heap.size w w'
theorem fall_snoc {l : List Fv} {k : Nat} (h : k < l.length) (n : List UInt8) : fall (l.take (k + 1)) n = fall (l.take k) n ++ (if lowL l[k].name = lowL n then [l[k].value] else []) := by
  unfold fall
  rw [List.take_succ_eq_append_getElem h, List.filter_append, List.map_append]
  by_cases hx : lowL l[k].name = lowL n
  · simp [hx]
  · simp [hx]
theorem fall_len (l : List Fv) (n : List UInt8) : (fall l n).length ≤ l.length := by
  unfold fall
  rw [List.length_map]
  exact List.length_filter_le _ _

set_option maxHeartbeats 2000000 in
theorem refAll_any (A : Option Addr) (c : Nat) (l : List Fv) (s : ByteArray) (w : World) (hH : HasFd w w.heap.size A l.length l) (hl : l.length ≤ 1000000) (hs : s.size ≤ 1000000000) (hz : ∀ x ∈ l, x.name.length ≤ 1000000000) :
    Calls Try.prog 21 #[.slice A l.length c, .string s] w (ListPost (fall l (ls s)) w) := by
  obtain ⟨i9, hi9, hz0, hz1, hz2⟩ := info_parts infoStr
  have HH := Lib.hid hH
  clear hH
  go_enter Try.func21, Try.ntmps21
  go_wp2
  go_loopw [5, 6] (fun v i wr => ∃ (k : Nat), k ≤ l.length ∧ i = .int .i64 k ∧ wr.ownsRow w.heap.size 9 1 v (fall (l.take k) (ls s)).length (wv (fall (l.take k) (ls s))) ∧ Below w.heap.size w wr) (fun _ i _ => l.length - (intOf i).toNat)
  case atStart => exact ⟨0, Nat.zero_le _, rfl, World.ownsRow_nil _ _ _ _, Below.refl _ _⟩
  case round =>
    obtain ⟨k, hk, rfl, hown, hb⟩ := hrel
    by_cases hlt : k < l.length
    · obtain ⟨b, off, rfl, hbb, d1, d2⟩ := (HH.out.below hb).at_ hlt
      have ce := fun W => refEqualFold_any (bs l[k].name) s W (by rw [bs_size]; exact hz _ (List.getElem_mem hlt)) hs
      have hfl := fall_len (l.take k) (ls s)
      rw [List.length_take] at hfl
      have hsn := fall_snoc hlt (ls s)
      have hf : foldB (bs l[k].name) s = decide (lowL l[k].name = lowL (ls s)) := by
        unfold foldB
        rw [ls_bs, Bool.eq_iff_iff]
        simp
      by_cases he : lowL l[k].name = lowL (ls s)
      · rw [hf, decide_eq_true he] at ce
        have HN : Hid (fall (l.take (k + 1)) (ls s) = fall (l.take k) (ls s) ++ [l[k].value]) := Lib.hid (by rw [hsn, if_pos he])
        clear hsn hf he
        generalize fall (l.take k) (ls s) = F at *
        generalize bs l[k].name = N at *
        have hV : bs l[k].value = bs l[k].value := rfl
        go_wp2_with fail
        refine (ce _).mono ?_
        rintro e w2 ⟨rfl, hb2⟩
        have hown2 := hown.kept (row := none) ⟨hb2.os, hb2.tape, hb2.output, hb2.size, fun k hk _ => hb2.block k hk⟩ (by cases hv : u5.ownBlock with | none => exact .inl rfl | some g => exact .inr (by simp))
        have hb3 := hb.trans (hb2.mono hb.size)
        have d2' : w2.cell? ⟨b, off + k * 2 + 1, none⟩ = some (.string (bs l[k].value)) := (hb2.cell (p := ⟨b, off + k * 2 + 1, none⟩) (by have := hb.size; show b < _; omega)).trans d2
        clear hown hb hb2 d1 d2 ce
        go_wp2_with (at_builtin; refine wpList_app_one _ rfl _ _ 38 rfl w.heap.size 9 i9 (.string ByteArray.empty) 16 tyStrs hi9 hz0 hz1 hz2 rfl _ (by exact rfl) _ _ _ (by exact rfl) hown2 (by exact rfl) (by unfold maxLen; omega) (by omega) hb3 (Nat.le_refl _) ?_; intro v' w' hown' hb' _)
        go_roundw
        case rel =>
          refine ⟨k + 1, by omega, by go_num, ?_, hb'⟩
          rw [HN.out, List.length_append, List.length_singleton, ← wv_snoc]
          exact hown'
        case measure => simp [intOf]; omega
      · rw [hf, decide_eq_false he] at ce
        have HN : Hid (fall (l.take (k + 1)) (ls s) = fall (l.take k) (ls s)) := Lib.hid (by rw [hsn, if_neg he, List.append_nil])
        clear hsn hf he
        generalize fall (l.take k) (ls s) = F at *
        generalize bs l[k].name = N at *
        go_wp2_with fail
        refine (ce _).mono ?_
        rintro e w2 ⟨rfl, hb2⟩
        have hown2 := hown.kept (row := none) ⟨hb2.os, hb2.tape, hb2.output, hb2.size, fun k hk _ => hb2.block k hk⟩ (by cases hv : u5.ownBlock with | none => exact .inl rfl | some g => exact .inr (by simp))
        have hb3 := hb.trans (hb2.mono hb.size)
        clear hown hb hb2 d1 d2 ce
        go_wp2
        go_roundw
        case rel => exact ⟨k + 1, by omega, by go_num, by rw [HN.out]; exact hown2, hb3⟩
        case measure => simp [intOf]; omega
    · obtain rfl : k = l.length := by omega
      rw [List.take_length] at hown
      go_wp2
      go_ret
      exact ⟨_, _, rfl, hown, hb⟩

end Go.Proofs.Ytmfoegpdjajicaa
