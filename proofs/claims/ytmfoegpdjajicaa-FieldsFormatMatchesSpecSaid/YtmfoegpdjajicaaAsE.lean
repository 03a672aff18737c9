/-
  Contract of EqualFold of package ascii.
-/
import Derived.Test.YtmfoegpdjajicaaAsL
import Derived.BigQuiet
import Derived.Deep.QuietTactic
import Derived.WalkSmall
namespace Go.Proofs.Ytmfoegpdjajicaa
open Go.RowKit

theorem quiet_same {P : Program} {f : FuncId} {args : Array Value} {w : World} {n : Nat} {v : Value}
    (h : Calls P f args (w.drewN n) fun e w' => e = .returned v ∧ w.drewN n = w') : Calls P f args (w.drewN n) fun e w'' => e = .returned v ∧ ∃ m, w'' = w.drewN m :=
  h.mono fun _ _ ⟨he, hm⟩ => ⟨he, n, hm.symm⟩

theorem foldB_size (a b : ByteArray) (h : a.size ≠ b.size) : foldB a b = false := by
  unfold foldB
  rw [beq_eq_false_iff_ne]
  intro he
  have := congrArg List.length he
  rw [lowL_length, lowL_length, ls_length, ls_length] at this
  exact h this
theorem foldB_at (a b : ByteArray) (k : Nat) (ha : k < a.size) (hb : k < b.size) (h : lowU a[k] ≠ lowU b[k]) : foldB a b = false := by
  unfold foldB
  rw [beq_eq_false_iff_ne]
  intro he
  have := congrArg (fun l => l[k]?) he
  simp only [lowL, List.getElem?_map, ls_get a k ha, ls_get b k hb, Option.map_some, Option.some.injEq] at this
  exact h this
theorem lowU_ne {c d : UInt8} (h : lowU c ≠ lowU d) : (((lowU c).toNat : Int) == ((lowU d).toNat : Int)) = false := by
  rw [beq_eq_false_iff_ne]
  intro he
  exact h (UInt8.toNat_inj.1 (by omega))

set_option maxHeartbeats 1000000 in
theorem equalFold_any (a b : ByteArray) (w : World) (ha : a.size ≤ 1000000000) (_hb : b.size ≤ 1000000000) :
    Calls Try.prog 48 #[.string a, .string b] w fun e w' => e = .returned (.bool (foldB a b)) ∧ Below w.heap.size w w' := by
  by_cases hsz : a.size = b.size
  · have hsz' : ((a.size : Int) != (b.size : Int)) = false := by simp [hsz]
    have HZ : Hid (a.size = b.size) := hsz
    clear hsz
    go_enter Try.func48, Try.ntmps48
    go_wp2
    go_loopw [13] (fun i wr => ∃ k : Nat, k ≤ a.size ∧ i = .int .i64 k ∧ Below w.heap.size w wr ∧ (lowL (ls a)).take k = (lowL (ls b)).take k) (fun i _ => a.size - (intOf i).toNat)
    case atStart => exact ⟨0, Nat.zero_le _, rfl, Below.refl _ _, rfl⟩
    case round =>
      obtain ⟨k, hk, rfl, hbw, htk⟩ := hrel
      have HT := Lib.hid htk
      clear htk
      by_cases hlt : k < a.size
      · have hltb : k < b.size := by have := HZ.out; omega
        by_cases hc : lowU a[k] = lowU b[k]
        · have hcb : (((lowU a[k]).toNat : Int) == ((lowU b[k]).toNat : Int)) = true := by rw [hc]; simp
          have HC := Lib.hid hc
          clear hc
          go_wp2
          go_quiet ((go_at_call 54; exact quiet_same (lowerByte_u8 _ _)))
          go_wp2
          go_roundw
          case rel => exact ⟨k + 1, by omega, by go_num, below_drewN hbw _, by rw [lowL_take_succ a k hlt, lowL_take_succ b k hltb, HT.out, HC.out]⟩
          case measure => simp [intOf]; omega
        · have hcb := lowU_ne hc
          have HF := Lib.hid (foldB_at a b k hlt hltb hc)
          clear hc
          go_wp2
          go_quiet ((go_at_call 54; exact quiet_same (lowerByte_u8 _ _)))
          go_wp2
          go_ret
          exact ⟨ret_bool HF.out.symm, below_drewN hbw _⟩
      · obtain rfl : k = a.size := by omega
        have HF := Lib.hid (foldB_all a b HZ.out HT.out)
        go_wp2
        go_ret
        exact ⟨ret_bool HF.out.symm, hbw⟩
  · have hsz' : ((a.size : Int) != (b.size : Int)) = true := by simp; omega
    have HF := Lib.hid (foldB_size a b hsz)
    clear hsz
    go_enter Try.func48, Try.ntmps48
    go_wp2
    go_ret
    exact ⟨ret_bool HF.out.symm, Below.refl _ _⟩

end Go.Proofs.Ytmfoegpdjajicaa
