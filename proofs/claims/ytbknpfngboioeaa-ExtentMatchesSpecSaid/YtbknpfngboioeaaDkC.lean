/-
  Contracts of invalid, IndexFunc, ContainsFunc, Clone, Arm.
-/
import Derived.Test.YtbknpfngboioeaaDkB
import Derived.Laws.AppendOwn
namespace Go.Proofs.Ytbknpfngboioeaa
open Go.RowKit

def badF (p : Int × Int) : Bool := decide (p.1 < 0) || (decide (p.2 ≠ 1) && decide (p.2 ≠ 2))
def badFs (ps : List (Int × Int)) : Bool := ps.any badF
set_option maxHeartbeats 400000 in
theorem invalid_any (x y : Int) (w : World) : Calls Try.prog 58 #[.agg #[.int .i64 x, .int .i64 y]] w fun e w' => e = .returned (.bool (badF (x, y))) ∧ Below w.heap.size w w' := by
  have hb : Below w.heap.size w (w.alloc (.cells #[.int .i64 x, .int .i64 y] 70)) := (Below.refl _ _).alloc (Nat.le_refl _) _
  by_cases h1 : x < 0
  · have hr : Hid (badF (x, y) = true) := by show _ = _; simp [badF, h1]
    have h1' : decide (x < 0) = true := by simpa using h1
    clear h1
    go_enter Try.func58, Try.ntmps58
    go_wp2
    go_ret
    exact ⟨ret_bool (by rw [hr.out]), hb⟩
  · have h1' : decide (x < 0) = false := by simpa using h1
    by_cases h2 : y = 1
    · have hr : Hid (badF (x, y) = false) := by show _ = _; simp [badF, h1', h2]
      have h2' : (y != 1) = false := by simp [h2]
      clear h1 h2
      go_enter Try.func58, Try.ntmps58
      go_wp2
      go_ret
      exact ⟨ret_bool (by rw [hr.out]), hb⟩
    · have h2' : (y != 1) = true := by simpa using h2
      have hr : Hid (badF (x, y) = !(y == 2)) := by
        show _ = _
        by_cases h3 : y = 2 <;> simp [badF, h1', h2, h3]
      clear h1 h2
      go_enter Try.func58, Try.ntmps58
      go_wp2
      go_ret
      exact ⟨ret_bool (by rw [hr.out]; rfl), hb⟩

set_option maxRecDepth 20000 in
set_option maxHeartbeats 1600000 in
theorem indexFunc_any {F : Nat → Prop} (A : Option Addr) (m c : Nat) (ps : List (Int × Int)) (w : World) (hP : PairsF F w A m ps) (hm : m ≤ 1000000) :
    Calls Try.prog 71 #[.slice A m c, .func (.func 58) #[] #[]] w fun e w' => ∃ r : Int, e = .returned (.int .i64 r) ∧ decide (0 ≤ r) = badFs ps ∧ Below w.heap.size w w' := by
  have HP := Lib.hid hP
  have HM := Lib.hid hm
  clear hP hm
  go_enter Try.func71, Try.ntmps71
  go_wp2
  go_loopw [8] (fun i wr => ∃ k : Nat, k ≤ m ∧ i = .int .i64 k ∧ Hid (Below w.heap.size w wr ∧ badFs ps = badFs (ps.drop k))) (fun i _ => m - (RowKit.intOf i).toNat)
  case atStart => exact ⟨0, Nat.zero_le _, rfl, Below.refl _ _, by simp⟩
  case round =>
    obtain ⟨k, hk, rfl, HR⟩ := hrel
    have hkb : (k : Int) ≤ 1000000 := by have := HM.out; omega
    by_cases hlt : k < m
    · obtain ⟨b, off, rfl, hbw, _, hc⟩ := HP.out.2.2 (by omega)
      have hkf : k < ps.length := by rw [HP.out.1]; exact hlt
      obtain ⟨h1, h2⟩ := hc k hkf
      have d1 := (HR.out.1.cell (p := ⟨b, off + k * 2, none⟩) hbw).trans h1
      have d2 := (HR.out.1.cell (p := ⟨b, off + k * 2 + 1, none⟩) hbw).trans h2
      have hstep : Hid (badFs ps = (badF ps[k] || badFs (ps.drop (k + 1)))) := by
        show _ = _
        rw [HR.out.2, List.drop_eq_getElem_cons hkf]
        rfl
      generalize ps[k] = p at d1 d2 hstep
      obtain ⟨x, y⟩ := p
      clear hc h1 h2 hkf
      cases hb : badF (x, y) with
      | true =>
        have HB := Lib.hid hb
        clear hb
        go_wp2_with (go_at_call 58; refine (invalid_any x y wr).mono ?_; rintro e w1 ⟨rfl, hb1⟩; rw [HB.out])
        go_ret
        refine ⟨k, rfl, ?_, HR.out.1.trans (hb1.mono HR.out.1.size)⟩
        rw [hstep.out, HB.out]
        simp
      | false =>
        have HB := Lib.hid hb
        clear hb
        go_wp2_with (go_at_call 58; refine (invalid_any x y wr).mono ?_; rintro e w1 ⟨rfl, hb1⟩; rw [HB.out])
        go_roundw
        case rel => exact ⟨k + 1, by omega, by go_num, HR.out.1.trans (hb1.mono HR.out.1.size), by rw [hstep.out, HB.out]; rfl⟩
        case measure => simp [RowKit.intOf]; omega
    · have hkm : k = m := by omega
      have hz : Hid (badFs ps = false) := by
        show _ = _
        rw [HR.out.2, List.drop_of_length_le (by rw [HP.out.1]; omega)]
        rfl
      go_wp2
      go_ret
      exact ⟨-1, rfl, by rw [hz.out]; decide, HR.out.1⟩
set_option maxHeartbeats 400000 in
theorem containsFunc_any {F : Nat → Prop} (A : Option Addr) (m c : Nat) (ps : List (Int × Int)) (w : World) (hP : PairsF F w A m ps) (hm : m ≤ 1000000) :
    Calls Try.prog 57 #[.slice A m c, .func (.func 58) #[] #[]] w fun e w' => e = .returned (.bool (badFs ps)) ∧ Below w.heap.size w w' := by
  have hc := indexFunc_any A m c ps w hP hm
  clear hP hm
  go_enter Try.func57, Try.ntmps57
  go_wp2_with (go_at_call 71; refine hc.mono ?_; rintro e w1 ⟨r, rfl, hr, hb1⟩; have HR := Lib.hid hr; clear hr)
  go_ret
  exact ⟨ret_bool (by rw [← HR.out]), hb1⟩

end Go.Proofs.Ytbknpfngboioeaa
