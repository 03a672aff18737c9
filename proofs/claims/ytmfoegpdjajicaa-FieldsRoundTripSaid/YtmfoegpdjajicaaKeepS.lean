/-
  Contract of the helper Short of the statements (package hstsstorekeep).
-/
import Derived.Test.YtmfoegpdjajicaaRows
import Derived.Test.YtmfoegpdjajicaaBase
import Derived.BigQuiet
import Derived.Deep.QuietTactic
import Derived.WalkSmall
namespace Go.Proofs.Ytmfoegpdjajicaa
open Go.RowKit

def shortB (n : Int) (ss : List ByteArray) : Bool := ss.all fun s => decide ((s.size : Int) ≤ n)
theorem shortB_no (n : Int) (ss : List ByteArray) (k : Nat) (h : k < ss.length) (hn : n < (ss[k].size : Int)) : shortB n ss = false := by
  unfold shortB
  rw [List.all_eq_false]
  exact ⟨ss[k], List.getElem_mem h, by simp; omega⟩
theorem shortB_succ (n : Int) (ss : List ByteArray) (k : Nat) (h : k < ss.length) (ht : shortB n (ss.take k) = true) (hn : (ss[k].size : Int) ≤ n) : shortB n (ss.take (k + 1)) = true := by
  unfold shortB at ht ⊢
  rw [List.take_succ_eq_append_getElem h, List.all_append, ht]
  simp [hn]

set_option maxHeartbeats 1000000 in
theorem short_any (n : Int) (A : Option Addr) (len cap : Nat) (ss : List ByteArray) (B : Nat) (w : World) (hA : Has w B A len (ss.map Value.string)) (hlen : len ≤ 1000000000) :
    Calls Try.prog 29 #[.int .i64 n, .slice A len cap] w fun e w' => e = .returned (.bool (shortB n ss)) ∧ w = w' := by
  have hl : ss.length = len := by simpa using hA.1
  go_enter Try.func29, Try.ntmps29
  have HL := Lib.hid hl
  have HA := Lib.hid hA
  clear hl hA
  go_wp2
  go_loop [5] (fun i => ∃ k : Nat, k ≤ len ∧ i = .int .i64 k ∧ shortB n (ss.take k) = true) (fun i => len - (intOf i).toNat)
  case atStart => exact ⟨0, Nat.zero_le _, rfl, rfl⟩
  case round =>
    obtain ⟨k, hk, rfl, hsh⟩ := hrel
    have HS := Lib.hid hsh
    clear hsh
    by_cases hlt : k < len
    · have hks : k < ss.length := by rw [HL.out]; exact hlt
      obtain ⟨b, off, rfl, hb, hc⟩ := HA.out.at_ hlt
      rw [List.getElem_map] at hc
      by_cases hn : n < (ss[k].size : Int)
      · have HF := Lib.hid (shortB_no n ss k hks hn)
        go_wp2
        go_ret
        exact ⟨ret_bool HF.out.symm, rfl⟩
      · have HT := Lib.hid (shortB_succ n ss k hks HS.out (by omega))
        go_wp2
        go_round
        case rel => exact ⟨k + 1, by omega, by go_num, HT.out⟩
        case measure => simp [intOf]; omega
    · have HF : Hid (shortB n ss = true) := by
        have := HS.out
        rwa [List.take_of_length_le (by rw [HL.out]; omega)] at this
      go_wp2
      go_ret
      exact ⟨ret_bool HF.out.symm, rfl⟩

end Go.Proofs.Ytmfoegpdjajicaa
