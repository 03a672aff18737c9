/-
  Contract of the helper Ints of the statements (package hstsstorekeep): equal lists of numbers.
-/
import Derived.Test.YtbhempoamdiiiaaRows
import Derived.Test.YtbhempoamdiiiaaBase
import Derived.Below
import Derived.Deep.QuietTactic
import Derived.BigQuiet
namespace Go.Proofs.Ytbhempoamdiiiaa
open Go.RowKit

theorem drewN_belI (B : Nat) (w : World) (k : Nat) : Below B w (w.drewN k) := ⟨rfl, rfl, rfl, Nat.le_refl _, fun _ _ => rfl⟩
set_option maxHeartbeats 1600000 in
theorem ints_any (A1 A2 : Option Addr) (n1 c1 n2 c2 B : Nat) (l : List Int) (w : World) (h1 : Has w B A1 n1 (l.map (Value.int .i64))) (h2 : Has w B A2 n2 (l.map (Value.int .i64))) (hm : l.length ≤ 1000000) (hB : B ≤ w.heap.size) :
    Calls Try.prog 11 #[.slice A1 n1 c1, .slice A2 n2 c2] w fun e w' => e = .returned (.bool true) ∧ Below w.heap.size w w' := by
  have e1 : n1 = l.length := by have := h1.1; simpa using this.symm
  have e2 : n2 = l.length := by have := h2.1; simpa using this.symm
  have e3 : n2 = n1 := by omega
  have hn : n1 ≤ 1000000 := by omega
  have H1 := Lib.hid h1
  have H2 := Lib.hid h2
  have E1 := Lib.hid e1
  subst e3
  clear h1 h2 e1 e2 hm
  have hnb : (n2 : Int) ≤ 1000000 := by omega
  go_enter Try.func11, Try.ntmps11
  go_wp2
  go_loopw [5] (fun i wr => ∃ k : Nat, k ≤ n2 ∧ i = .int .i64 k ∧ Hid (Below w.heap.size w wr)) (fun i _ => n2 - (RowKit.intOf i).toNat)
  case atStart => exact ⟨0, Nat.zero_le _, rfl, Below.refl _ _⟩
  case round =>
    obtain ⟨k, hk, rfl, HR⟩ := hrel
    have hkb : (k : Int) ≤ 1000000 := by omega
    have hkw : wrap64 ((k : Int) + 1) = (k : Int) + 1 := by unfold wrap64; omega
    by_cases hlt : k < n2
    · obtain ⟨b1, o1, rfl, l1, d1⟩ := H1.out.2 (by omega)
      obtain ⟨b2, o2, rfl, l2, d2⟩ := H2.out.2 (by omega)
      have g1 := d1 k (by rw [List.length_map, ← E1.out]; exact hlt)
      have g2 := d2 k (by rw [List.length_map, ← E1.out]; exact hlt)
      rw [List.getElem_map] at g1 g2
      have g1' := (HR.out.cell (p := ⟨b1, o1 + k, none⟩) (Nat.lt_of_lt_of_le l1 hB)).trans g1
      have g2' := (HR.out.cell (p := ⟨b2, o2 + k, none⟩) (Nat.lt_of_lt_of_le l2 hB)).trans g2
      have hd : decide ((k : Int) < (n2 : Int)) = true := by simpa using hlt
      have hlti : (k : Int) < (n2 : Int) := by omega
      generalize l[k] = z at g1' g2'
      have q0 : (z != z) = false := by simp
      clear d1 d2 hk g1 g2
      go_wp2
      go_quiet (fail)
      go_wp2
      go_roundw
      case rel => exact ⟨k + 1, by omega, by go_num, HR.out.trans (drewN_belI _ _ _)⟩
      case measure => simp [RowKit.intOf]; omega
    · obtain rfl : k = n2 := by omega
      have hd : decide ((k : Int) < (k : Int)) = false := by simp
      go_wp2
      go_ret
      exact ⟨rfl, HR.out⟩

end Go.Proofs.Ytbhempoamdiiiaa
