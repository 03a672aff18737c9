/-
  Contract of hstsstorekeep.Fields at two lists that are the same.
-/
import Derived.Test.YtmfoegpdjajicaaFdM
import Derived.BigQuiet
import Derived.Deep.QuietTactic
import Derived.WalkSmall
namespace Go.Proofs.Ytmfoegpdjajicaa
open Go.RowKit

theorem fds_same (l : List Fv) (A1 A2 : Option Addr) (k1 k2 B : Nat) (w : World) (h1 : HasFd w B A1 l.length l) (h2 : HasFd w B A2 l.length l) (hl : l.length ≤ 1000000) :
    Calls Try.prog 12 #[.slice A1 l.length k1, .slice A2 l.length k2] w (Yes w) := by
  have hd : ((l.length : Int) != (l.length : Int)) = false := by simp
  have H1 := Lib.hid h1
  have H2 := Lib.hid h2
  clear h1 h2
  go_enter Try.func12, Try.ntmps12
  go_wp2
  go_loopw [5] (fun i wr => ∃ k : Nat, k ≤ l.length ∧ i = .int .i64 k ∧ ∃ n, wr = w.drewN n) (fun i _ => l.length - (intOf i).toNat)
  case atStart => exact ⟨0, Nat.zero_le _, rfl, 0, rfl⟩
  case round =>
    obtain ⟨k, hk, rfl, m, rfl⟩ := hrel
    by_cases hlt : k < l.length
    · obtain ⟨b1, o1, rfl, _, c1, c2⟩ := H1.out.at_ hlt
      obtain ⟨b2, o2, rfl, _, d1, d2⟩ := H2.out.at_ hlt
      have r1 : ∀ q, (loadVar 44 ⟨b1, o1 + k * 2, none⟩).run Try.prog (w.drewN q) = .ok (.agg #[.string (bs l[k].name), .string (bs l[k].value)]) (w.drewN q) := fun q => load_fdm (w := w.drewN q) c1 c2
      have r2 : ∀ q, (loadVar 44 ⟨b2, o2 + k * 2, none⟩).run Try.prog (w.drewN q) = .ok (.agg #[.string (bs l[k].name), .string (bs l[k].value)]) (w.drewN q) := fun q => load_fdm (w := w.drewN q) d1 d2
      have e0 : ∀ W, (binOp .neq 44 (.agg #[.string (bs l[k].name), .string (bs l[k].value)]) (.agg #[.string (bs l[k].name), .string (bs l[k].value)])).run Try.prog W = .ok (.bool false) W := fun W => by simp [go_sem]
      generalize bs l[k].name = N at *
      generalize bs l[k].value = V at *
      go_wp2
      go_quiet (fail)
      go_wp2
      go_roundw
      case rel => exact ⟨k + 1, by omega, by go_num, _, rfl⟩
      case measure => simp [intOf]; omega
    · go_wp2
      go_ret
      exact ⟨rfl, (Below.refl _ w).trans ⟨rfl, rfl, rfl, Nat.le_refl _, fun _ _ => rfl⟩⟩

end Go.Proofs.Ytmfoegpdjajicaa
