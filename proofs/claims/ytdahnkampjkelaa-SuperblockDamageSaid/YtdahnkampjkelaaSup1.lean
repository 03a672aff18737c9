/-
  Contracts of the reference's Valid and Encode of superblocks.
-/
import Derived.Test.YtdahnkampjkelaaSupP
import Derived.Test.YtdahnkampjkelaaCrcD
import Derived.Test.YtdahnkampjkelaaKeepE
namespace Go.Proofs.Ytdahnkampjkelaa
open Go.RowKit

/-- Whether a superblock is valid, by its active region and its length. -/
def sok (a n : Int) : Bool := (a == 0 || a == 1) && (decide (0 ≤ n) && decide (n ≤ 262144))
theorem sok_iff (Z : Sup) : Z.ok ↔ sok Z.a Z.n = true := by
  unfold Sup.ok sok
  simp only [Bool.and_eq_true, Bool.or_eq_true, beq_iff_eq, decide_eq_true_eq]
/-- The value of a superblock. -/
def Sup.val (Z : Sup) : Value := .agg #[.int .u64 (Z.g : Int), .int .i64 Z.a, .int .u32 (nv Z.e), .int .i64 Z.n, .int .u32 (nv Z.s)]
theorem below_box (w : World) (c : Obj) (q : Nat) : Below w.heap.size w ((w.alloc c).drewN q) := below_drewN ((Below.refl _ _).alloc (Nat.le_refl _) _) _

set_option maxHeartbeats 1600000 in
theorem refValidS_any (g a e n s : Int) (w : World) :
    Calls Try.prog 14 #[.agg #[.int .u64 g, .int .i64 a, .int .u32 e, .int .i64 n, .int .u32 s]] w fun r w' => r = .returned (.bool (sok a n)) ∧ Below w.heap.size w w' := by
  obtain ⟨b, hb⟩ : ∃ b, sok a n = b := ⟨_, rfl⟩
  have HB := Lib.hid hb
  cases h0 : (a == 0) <;> cases h1 : (a == 1) <;> cases h2 : decide (0 ≤ n) <;> cases h3 : decide (n ≤ 262144) <;>
  · have hr := hb
    simp only [sok, h0, h1, h2, h3, Bool.or_self, Bool.or_true, Bool.or_false, Bool.and_true, Bool.and_false, Bool.and_self, Bool.true_or, Bool.false_or, Bool.true_and, Bool.false_and] at hr
    subst hr
    clear hb
    go_enter Try.func14, Try.ntmps14
    go_wp2
    go_ret
    exact ⟨ret_bool HB.out.symm, (Below.refl _ _).alloc (Nat.le_refl _) _⟩


theorem hd_zero (Z : Sup) : (Z.hd ++ List.replicate 34 0) = Z.body := rfl
set_option maxHeartbeats 1600000 in
theorem refEncS_no (Z : Sup) (h : ¬ Z.ok) (w : World) :
    Calls Try.prog 10 #[Z.val] w fun r w' => r = .returned (.tuple #[.slice none 0 0, .int .i64 1]) ∧ Below w.heap.size w w' := by
  have h' : sok Z.a Z.n = false := by rw [sok_iff] at h; simpa using h
  obtain ⟨g, a, e, n, s⟩ := Z
  have hv := refValidS_any g a (nv e) n (nv s)
  unfold Sup.val
  simp only at h' hv ⊢
  rw [h'] at hv
  go_enter Try.func10, Try.ntmps10
  go_wp2_with fail
  refine (hv _).mono ?_
  rintro r w1 ⟨rfl, hb⟩
  go_wp2
  go_ret2
  exact ⟨rfl, ((Below.refl _ _).alloc (Nat.le_refl _) _).trans (hb.mono (by simp))⟩

end Go.Proofs.Ytdahnkampjkelaa
