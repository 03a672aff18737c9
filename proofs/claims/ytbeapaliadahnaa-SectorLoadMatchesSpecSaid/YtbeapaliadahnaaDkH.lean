/-
  A nil disk; the walk of SectorNone.
-/
import Derived.Test.YtbeapaliadahnaaDkG
namespace Go.Proofs.Ytbeapaliadahnaa
open Go.RowKit

def inN (i : Int) : Bool := decide (0 ≤ i) && decide (i < 0)
set_option maxHeartbeats 400000 in
theorem contains_nil (i : Int) (w : World) : Calls Try.prog 40 #[.pointer none, .int .i64 i] w fun e w' => e = .returned (.bool false) ∧ w = w' := by
  by_cases h0 : 0 ≤ i
  · have h1 : ¬ i < 0 := by omega
    go_enter Try.func40, Try.ntmps40
    go_wp2_with (go_at_call 29; refine (sectors_nil _).mono ?_; rintro e w' ⟨rfl, rfl⟩)
    go_ret
    exact ⟨ret_bool (by simp [h1]), rfl⟩
  · go_enter Try.func40, Try.ntmps40
    go_wp2_with (go_at_call 29; refine (sectors_nil _).mono ?_; rintro e w' ⟨rfl, rfl⟩)
    go_ret
    exact ⟨rfl, rfl⟩
set_option maxHeartbeats 400000 in
theorem begin_nil (b : Bool) (w : World) : Calls Try.prog 39 #[.pointer none, .bool b] w fun e w' => e = .returned (.tuple #[.bool false, .int .i64 10]) ∧ w = w' := by
  go_enter Try.func39, Try.ntmps39
  go_wp2_with (go_at_call 32; refine (off_nil _).mono ?_; rintro e w' ⟨rfl, rfl⟩)
  go_ret2
  exact ⟨rfl, rfl⟩
set_option maxHeartbeats 400000 in
theorem read_nil (i : Int) (w : World) : Calls Try.prog 12 #[.pointer none, .int .i64 i] w fun e w' => e = .returned (.tuple #[.slice none 0 0, .int .i64 10]) ∧ w = w' := by
  go_enter Try.func12, Try.ntmps12
  go_wp2_with (first
    | (go_at_call 40; refine (contains_nil _ _).mono ?_; rintro e w' ⟨rfl, rfl⟩)
    | (go_at_call 39; refine (begin_nil _ _).mono ?_; rintro e w' ⟨rfl, rfl⟩))
  go_ret2
  exact ⟨rfl, rfl⟩
set_option maxHeartbeats 400000 in
theorem write_nil (i : Int) (A : Option Addr) (len cap : Nat) (w : World) : Calls Try.prog 15 #[.pointer none, .int .i64 i, .slice A len cap] w fun e w' => e = .returned (.int .i64 10) ∧ w = w' := by
  go_enter Try.func15, Try.ntmps15
  go_wp2_with (first
    | (go_at_call 40; refine (contains_nil _ _).mono ?_; rintro e w' ⟨rfl, rfl⟩)
    | (go_at_call 39; refine (begin_nil _ _).mono ?_; rintro e w' ⟨rfl, rfl⟩))
  go_ret
  exact ⟨rfl, rfl⟩
set_option maxHeartbeats 400000 in
theorem sync_nil (w : World) : Calls Try.prog 18 #[.pointer none] w fun e w' => e = .returned (.int .i64 10) ∧ w = w' := by
  go_enter Try.func18, Try.ntmps18
  go_wp2_with (go_at_call 39; refine (begin_nil _ _).mono ?_; rintro e w' ⟨rfl, rfl⟩)
  go_ret
  exact ⟨rfl, rfl⟩

set_option maxRecDepth 20000 in
set_option maxHeartbeats 1600000 in
theorem walkNone (i : Int) (A1 : Option Addr) (n1 c1 : Nat) (A2 : Option Addr) (n2 c2 : Nat) (w : World) : Calls Try.prog 7 #[.int .i64 i, .slice A1 n1 c1, .slice A2 n2 c2] w (Yes w) := by
  have go : ∀ w1, Below w.heap.size w w1 → Calls Try.prog 9 #[] w1 (fun e w' => e = .returned (.bool true) ∧ Below w.heap.size w w') := fun w1 hb => (awake_any w1).mono fun e w' h => ⟨h.1, hb.trans (h.2.mono hb.size)⟩
  by_cases h1 : (200 : Int) < n1
  · go_enter Try.func7, Try.ntmps7
    go_wp2_with (go_at_call 9; refine (go w (Below.refl _ _)).mono ?_; rintro e w2 ⟨rfl, hb⟩)
    go_ret
    exact ⟨rfl, hb⟩
  · by_cases h2 : (100 : Int) < n2
    · go_enter Try.func7, Try.ntmps7
      go_wp2_with (go_at_call 9; refine (go w (Below.refl _ _)).mono ?_; rintro e w2 ⟨rfl, hb⟩)
      go_ret
      exact ⟨rfl, hb⟩
    · go_enter Try.func7, Try.ntmps7
      go_wp2_with (first
        | (go_at_call 22; refine (cut_nil _).mono ?_; rintro e w' ⟨rfl, rfl⟩)
        | (go_at_call 24; refine (restart_nil _ _ _ _).mono ?_; rintro e w' ⟨rfl, rfl⟩)
        | (go_at_call 12; refine (read_nil _ _).mono ?_; rintro e w' ⟨rfl, rfl⟩)
        | (go_at_call 29; refine (sectors_nil _).mono ?_; rintro e w' ⟨rfl, rfl⟩)
        | (go_at_call 30; refine (image_nil _).mono ?_; rintro e w' ⟨rfl, rfl⟩)
        | (go_at_call 31; refine (dirty_nil _).mono ?_; rintro e w' ⟨rfl, rfl⟩)
        | (go_at_call 32; refine (off_nil _).mono ?_; rintro e w' ⟨rfl, rfl⟩)
        | (go_at_call 15; refine (write_nil _ _ _ _ _).mono ?_; rintro e w' ⟨rfl, rfl⟩)
        | (go_at_call 18; refine (sync_nil _).mono ?_; rintro e w' ⟨rfl, rfl⟩)
        | (go_at_call 20; refine (arm_nil _ _ _ _).mono ?_; rintro e w' ⟨rfl, rfl⟩)
        | (go_at_call 9; refine (go _ ((Below.refl w.heap.size w).alloc (Nat.le_refl _) _)).mono ?_; rintro e w2 ⟨rfl, hb⟩))
      go_ret
      exact ⟨rfl, hb⟩
theorem walkNoneF (i : Int) (A1 : Option Addr) (n1 c1 : Nat) (A2 : Option Addr) (n2 c2 : Nat) (w : World) (_ : (Lit.int .i64 i).wf = true) : Calls Try.prog 7 #[.int .i64 i, .slice A1 n1 c1, .slice A2 n2 c2] w (Yes w) := walkNone i A1 n1 c1 A2 n2 c2 w

end Go.Proofs.Ytbeapaliadahnaa
