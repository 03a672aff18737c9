/-
  The reference's IsToken: a search in a constant string.
-/
import Derived.Test.YtmfoegpdjajicaaRows
import Derived.Test.YtmfoegpdjajicaaAscP
import Derived.LoopN
import Derived.Handy
namespace Go.Proofs.Ytmfoegpdjajicaa
open Go.RowKit

set_option maxHeartbeats 1000000 in
theorem tokA (b : Int) (w : World) (h1 : 48 ≤ b) (h2 : b ≤ 57) : Calls Try.prog 44 #[.int .u8 b] w fun e w' => e = .returned (.bool (tokenB b)) ∧ w = w' := by
  have HT : Hid (tokenB b = true) := by show _ = _; simp [tokenB, upperB, digitB]; omega
  go_enter Try.func44, Try.ntmps44
  go_wp2
  go_ret
  exact ⟨ret_bool HT.out.symm, rfl⟩

set_option maxHeartbeats 1000000 in
theorem tokB (b : Int) (w : World) (h1 : 65 ≤ b) (h2 : b ≤ 90) : Calls Try.prog 44 #[.int .u8 b] w fun e w' => e = .returned (.bool (tokenB b)) ∧ w = w' := by
  have HT : Hid (tokenB b = true) := by show _ = _; simp [tokenB, upperB, digitB]; omega
  go_enter Try.func44, Try.ntmps44
  go_wp2
  go_ret
  exact ⟨ret_bool HT.out.symm, rfl⟩

set_option maxHeartbeats 1000000 in
theorem tokC (b : Int) (w : World) (h1 : 97 ≤ b) (h2 : b ≤ 122) : Calls Try.prog 44 #[.int .u8 b] w fun e w' => e = .returned (.bool (tokenB b)) ∧ w = w' := by
  have HT : Hid (tokenB b = true) := by show _ = _; simp [tokenB, upperB, digitB]; omega
  go_enter Try.func44, Try.ntmps44
  go_wp2
  go_ret
  exact ⟨ret_bool HT.out.symm, rfl⟩

set_option maxHeartbeats 4000000 in
theorem tokD (b : Int) (w : World) (h1 : b < 48) : Calls Try.prog 44 #[.int .u8 b] w fun e w' => e = .returned (.bool (tokenB b)) ∧ w = w' := by
  have HT : Hid (tokenB b = markB b) := by
    show _ = _
    have e1 : (decide (97 ≤ b) && decide (b ≤ 122)) = false := by simp; omega
    have e2 : upperB b = false := by simp [upperB]; omega
    have e3 : digitB b = false := by simp [digitB]; omega
    simp [tokenB, e1, e2, e3]
  have i0 : ∀ h, (((ByteArray.mk #[33, 35, 36, 37, 38, 39, 42, 43, 45, 46, 94, 95, 96, 124, 126]))[0]'h).toNat = 33 := fun _ => rfl
  have i1 : ∀ h, (((ByteArray.mk #[33, 35, 36, 37, 38, 39, 42, 43, 45, 46, 94, 95, 96, 124, 126]))[1]'h).toNat = 35 := fun _ => rfl
  have i2 : ∀ h, (((ByteArray.mk #[33, 35, 36, 37, 38, 39, 42, 43, 45, 46, 94, 95, 96, 124, 126]))[2]'h).toNat = 36 := fun _ => rfl
  have i3 : ∀ h, (((ByteArray.mk #[33, 35, 36, 37, 38, 39, 42, 43, 45, 46, 94, 95, 96, 124, 126]))[3]'h).toNat = 37 := fun _ => rfl
  have i4 : ∀ h, (((ByteArray.mk #[33, 35, 36, 37, 38, 39, 42, 43, 45, 46, 94, 95, 96, 124, 126]))[4]'h).toNat = 38 := fun _ => rfl
  have i5 : ∀ h, (((ByteArray.mk #[33, 35, 36, 37, 38, 39, 42, 43, 45, 46, 94, 95, 96, 124, 126]))[5]'h).toNat = 39 := fun _ => rfl
  have i6 : ∀ h, (((ByteArray.mk #[33, 35, 36, 37, 38, 39, 42, 43, 45, 46, 94, 95, 96, 124, 126]))[6]'h).toNat = 42 := fun _ => rfl
  have i7 : ∀ h, (((ByteArray.mk #[33, 35, 36, 37, 38, 39, 42, 43, 45, 46, 94, 95, 96, 124, 126]))[7]'h).toNat = 43 := fun _ => rfl
  have i8 : ∀ h, (((ByteArray.mk #[33, 35, 36, 37, 38, 39, 42, 43, 45, 46, 94, 95, 96, 124, 126]))[8]'h).toNat = 45 := fun _ => rfl
  have i9 : ∀ h, (((ByteArray.mk #[33, 35, 36, 37, 38, 39, 42, 43, 45, 46, 94, 95, 96, 124, 126]))[9]'h).toNat = 46 := fun _ => rfl
  have i10 : ∀ h, (((ByteArray.mk #[33, 35, 36, 37, 38, 39, 42, 43, 45, 46, 94, 95, 96, 124, 126]))[10]'h).toNat = 94 := fun _ => rfl
  have i11 : ∀ h, (((ByteArray.mk #[33, 35, 36, 37, 38, 39, 42, 43, 45, 46, 94, 95, 96, 124, 126]))[11]'h).toNat = 95 := fun _ => rfl
  have i12 : ∀ h, (((ByteArray.mk #[33, 35, 36, 37, 38, 39, 42, 43, 45, 46, 94, 95, 96, 124, 126]))[12]'h).toNat = 96 := fun _ => rfl
  have i13 : ∀ h, (((ByteArray.mk #[33, 35, 36, 37, 38, 39, 42, 43, 45, 46, 94, 95, 96, 124, 126]))[13]'h).toNat = 124 := fun _ => rfl
  have i14 : ∀ h, (((ByteArray.mk #[33, 35, 36, 37, 38, 39, 42, 43, 45, 46, 94, 95, 96, 124, 126]))[14]'h).toNat = 126 := fun _ => rfl
  go_enter Try.func44, Try.ntmps44
  go_wp2
  refine wp_loop_rounds 16 ?_
  repeat any_goals (rw [rounds_succ]; go_wp2)
  all_goals
    clear i0 i1 i2 i3 i4 i5 i6 i7 i8 i9 i10 i11 i12 i13 i14
    go_ret
    exact ⟨ret_bool (by rw [HT.out]; first | (simp_all [markB]; done) | (simp [markB]; simp_all; omega)), rfl⟩

set_option maxHeartbeats 4000000 in
theorem tokE (b : Int) (w : World) (h1 : 57 < b) (h2 : b < 65) : Calls Try.prog 44 #[.int .u8 b] w fun e w' => e = .returned (.bool (tokenB b)) ∧ w = w' := by
  have HT : Hid (tokenB b = markB b) := by
    show _ = _
    have e1 : (decide (97 ≤ b) && decide (b ≤ 122)) = false := by simp; omega
    have e2 : upperB b = false := by simp [upperB]; omega
    have e3 : digitB b = false := by simp [digitB]; omega
    simp [tokenB, e1, e2, e3]
  have i0 : ∀ h, (((ByteArray.mk #[33, 35, 36, 37, 38, 39, 42, 43, 45, 46, 94, 95, 96, 124, 126]))[0]'h).toNat = 33 := fun _ => rfl
  have i1 : ∀ h, (((ByteArray.mk #[33, 35, 36, 37, 38, 39, 42, 43, 45, 46, 94, 95, 96, 124, 126]))[1]'h).toNat = 35 := fun _ => rfl
  have i2 : ∀ h, (((ByteArray.mk #[33, 35, 36, 37, 38, 39, 42, 43, 45, 46, 94, 95, 96, 124, 126]))[2]'h).toNat = 36 := fun _ => rfl
  have i3 : ∀ h, (((ByteArray.mk #[33, 35, 36, 37, 38, 39, 42, 43, 45, 46, 94, 95, 96, 124, 126]))[3]'h).toNat = 37 := fun _ => rfl
  have i4 : ∀ h, (((ByteArray.mk #[33, 35, 36, 37, 38, 39, 42, 43, 45, 46, 94, 95, 96, 124, 126]))[4]'h).toNat = 38 := fun _ => rfl
  have i5 : ∀ h, (((ByteArray.mk #[33, 35, 36, 37, 38, 39, 42, 43, 45, 46, 94, 95, 96, 124, 126]))[5]'h).toNat = 39 := fun _ => rfl
  have i6 : ∀ h, (((ByteArray.mk #[33, 35, 36, 37, 38, 39, 42, 43, 45, 46, 94, 95, 96, 124, 126]))[6]'h).toNat = 42 := fun _ => rfl
  have i7 : ∀ h, (((ByteArray.mk #[33, 35, 36, 37, 38, 39, 42, 43, 45, 46, 94, 95, 96, 124, 126]))[7]'h).toNat = 43 := fun _ => rfl
  have i8 : ∀ h, (((ByteArray.mk #[33, 35, 36, 37, 38, 39, 42, 43, 45, 46, 94, 95, 96, 124, 126]))[8]'h).toNat = 45 := fun _ => rfl
  have i9 : ∀ h, (((ByteArray.mk #[33, 35, 36, 37, 38, 39, 42, 43, 45, 46, 94, 95, 96, 124, 126]))[9]'h).toNat = 46 := fun _ => rfl
  have i10 : ∀ h, (((ByteArray.mk #[33, 35, 36, 37, 38, 39, 42, 43, 45, 46, 94, 95, 96, 124, 126]))[10]'h).toNat = 94 := fun _ => rfl
  have i11 : ∀ h, (((ByteArray.mk #[33, 35, 36, 37, 38, 39, 42, 43, 45, 46, 94, 95, 96, 124, 126]))[11]'h).toNat = 95 := fun _ => rfl
  have i12 : ∀ h, (((ByteArray.mk #[33, 35, 36, 37, 38, 39, 42, 43, 45, 46, 94, 95, 96, 124, 126]))[12]'h).toNat = 96 := fun _ => rfl
  have i13 : ∀ h, (((ByteArray.mk #[33, 35, 36, 37, 38, 39, 42, 43, 45, 46, 94, 95, 96, 124, 126]))[13]'h).toNat = 124 := fun _ => rfl
  have i14 : ∀ h, (((ByteArray.mk #[33, 35, 36, 37, 38, 39, 42, 43, 45, 46, 94, 95, 96, 124, 126]))[14]'h).toNat = 126 := fun _ => rfl
  go_enter Try.func44, Try.ntmps44
  go_wp2
  refine wp_loop_rounds 16 ?_
  repeat any_goals (rw [rounds_succ]; go_wp2)
  all_goals
    clear i0 i1 i2 i3 i4 i5 i6 i7 i8 i9 i10 i11 i12 i13 i14
    go_ret
    exact ⟨ret_bool (by rw [HT.out]; first | (simp_all [markB]; done) | (simp [markB]; simp_all; omega)), rfl⟩

set_option maxHeartbeats 4000000 in
theorem tokF (b : Int) (w : World) (h1 : 90 < b) (h2 : b < 97) : Calls Try.prog 44 #[.int .u8 b] w fun e w' => e = .returned (.bool (tokenB b)) ∧ w = w' := by
  have HT : Hid (tokenB b = markB b) := by
    show _ = _
    have e1 : (decide (97 ≤ b) && decide (b ≤ 122)) = false := by simp; omega
    have e2 : upperB b = false := by simp [upperB]; omega
    have e3 : digitB b = false := by simp [digitB]; omega
    simp [tokenB, e1, e2, e3]
  have i0 : ∀ h, (((ByteArray.mk #[33, 35, 36, 37, 38, 39, 42, 43, 45, 46, 94, 95, 96, 124, 126]))[0]'h).toNat = 33 := fun _ => rfl
  have i1 : ∀ h, (((ByteArray.mk #[33, 35, 36, 37, 38, 39, 42, 43, 45, 46, 94, 95, 96, 124, 126]))[1]'h).toNat = 35 := fun _ => rfl
  have i2 : ∀ h, (((ByteArray.mk #[33, 35, 36, 37, 38, 39, 42, 43, 45, 46, 94, 95, 96, 124, 126]))[2]'h).toNat = 36 := fun _ => rfl
  have i3 : ∀ h, (((ByteArray.mk #[33, 35, 36, 37, 38, 39, 42, 43, 45, 46, 94, 95, 96, 124, 126]))[3]'h).toNat = 37 := fun _ => rfl
  have i4 : ∀ h, (((ByteArray.mk #[33, 35, 36, 37, 38, 39, 42, 43, 45, 46, 94, 95, 96, 124, 126]))[4]'h).toNat = 38 := fun _ => rfl
  have i5 : ∀ h, (((ByteArray.mk #[33, 35, 36, 37, 38, 39, 42, 43, 45, 46, 94, 95, 96, 124, 126]))[5]'h).toNat = 39 := fun _ => rfl
  have i6 : ∀ h, (((ByteArray.mk #[33, 35, 36, 37, 38, 39, 42, 43, 45, 46, 94, 95, 96, 124, 126]))[6]'h).toNat = 42 := fun _ => rfl
  have i7 : ∀ h, (((ByteArray.mk #[33, 35, 36, 37, 38, 39, 42, 43, 45, 46, 94, 95, 96, 124, 126]))[7]'h).toNat = 43 := fun _ => rfl
  have i8 : ∀ h, (((ByteArray.mk #[33, 35, 36, 37, 38, 39, 42, 43, 45, 46, 94, 95, 96, 124, 126]))[8]'h).toNat = 45 := fun _ => rfl
  have i9 : ∀ h, (((ByteArray.mk #[33, 35, 36, 37, 38, 39, 42, 43, 45, 46, 94, 95, 96, 124, 126]))[9]'h).toNat = 46 := fun _ => rfl
  have i10 : ∀ h, (((ByteArray.mk #[33, 35, 36, 37, 38, 39, 42, 43, 45, 46, 94, 95, 96, 124, 126]))[10]'h).toNat = 94 := fun _ => rfl
  have i11 : ∀ h, (((ByteArray.mk #[33, 35, 36, 37, 38, 39, 42, 43, 45, 46, 94, 95, 96, 124, 126]))[11]'h).toNat = 95 := fun _ => rfl
  have i12 : ∀ h, (((ByteArray.mk #[33, 35, 36, 37, 38, 39, 42, 43, 45, 46, 94, 95, 96, 124, 126]))[12]'h).toNat = 96 := fun _ => rfl
  have i13 : ∀ h, (((ByteArray.mk #[33, 35, 36, 37, 38, 39, 42, 43, 45, 46, 94, 95, 96, 124, 126]))[13]'h).toNat = 124 := fun _ => rfl
  have i14 : ∀ h, (((ByteArray.mk #[33, 35, 36, 37, 38, 39, 42, 43, 45, 46, 94, 95, 96, 124, 126]))[14]'h).toNat = 126 := fun _ => rfl
  go_enter Try.func44, Try.ntmps44
  go_wp2
  refine wp_loop_rounds 16 ?_
  repeat any_goals (rw [rounds_succ]; go_wp2)
  all_goals
    clear i0 i1 i2 i3 i4 i5 i6 i7 i8 i9 i10 i11 i12 i13 i14
    go_ret
    exact ⟨ret_bool (by rw [HT.out]; first | (simp_all [markB]; done) | (simp [markB]; simp_all; omega)), rfl⟩

set_option maxHeartbeats 4000000 in
theorem tokG (b : Int) (w : World) (h1 : 122 < b) : Calls Try.prog 44 #[.int .u8 b] w fun e w' => e = .returned (.bool (tokenB b)) ∧ w = w' := by
  have HT : Hid (tokenB b = markB b) := by
    show _ = _
    have e1 : (decide (97 ≤ b) && decide (b ≤ 122)) = false := by simp; omega
    have e2 : upperB b = false := by simp [upperB]; omega
    have e3 : digitB b = false := by simp [digitB]; omega
    simp [tokenB, e1, e2, e3]
  have i0 : ∀ h, (((ByteArray.mk #[33, 35, 36, 37, 38, 39, 42, 43, 45, 46, 94, 95, 96, 124, 126]))[0]'h).toNat = 33 := fun _ => rfl
  have i1 : ∀ h, (((ByteArray.mk #[33, 35, 36, 37, 38, 39, 42, 43, 45, 46, 94, 95, 96, 124, 126]))[1]'h).toNat = 35 := fun _ => rfl
  have i2 : ∀ h, (((ByteArray.mk #[33, 35, 36, 37, 38, 39, 42, 43, 45, 46, 94, 95, 96, 124, 126]))[2]'h).toNat = 36 := fun _ => rfl
  have i3 : ∀ h, (((ByteArray.mk #[33, 35, 36, 37, 38, 39, 42, 43, 45, 46, 94, 95, 96, 124, 126]))[3]'h).toNat = 37 := fun _ => rfl
  have i4 : ∀ h, (((ByteArray.mk #[33, 35, 36, 37, 38, 39, 42, 43, 45, 46, 94, 95, 96, 124, 126]))[4]'h).toNat = 38 := fun _ => rfl
  have i5 : ∀ h, (((ByteArray.mk #[33, 35, 36, 37, 38, 39, 42, 43, 45, 46, 94, 95, 96, 124, 126]))[5]'h).toNat = 39 := fun _ => rfl
  have i6 : ∀ h, (((ByteArray.mk #[33, 35, 36, 37, 38, 39, 42, 43, 45, 46, 94, 95, 96, 124, 126]))[6]'h).toNat = 42 := fun _ => rfl
  have i7 : ∀ h, (((ByteArray.mk #[33, 35, 36, 37, 38, 39, 42, 43, 45, 46, 94, 95, 96, 124, 126]))[7]'h).toNat = 43 := fun _ => rfl
  have i8 : ∀ h, (((ByteArray.mk #[33, 35, 36, 37, 38, 39, 42, 43, 45, 46, 94, 95, 96, 124, 126]))[8]'h).toNat = 45 := fun _ => rfl
  have i9 : ∀ h, (((ByteArray.mk #[33, 35, 36, 37, 38, 39, 42, 43, 45, 46, 94, 95, 96, 124, 126]))[9]'h).toNat = 46 := fun _ => rfl
  have i10 : ∀ h, (((ByteArray.mk #[33, 35, 36, 37, 38, 39, 42, 43, 45, 46, 94, 95, 96, 124, 126]))[10]'h).toNat = 94 := fun _ => rfl
  have i11 : ∀ h, (((ByteArray.mk #[33, 35, 36, 37, 38, 39, 42, 43, 45, 46, 94, 95, 96, 124, 126]))[11]'h).toNat = 95 := fun _ => rfl
  have i12 : ∀ h, (((ByteArray.mk #[33, 35, 36, 37, 38, 39, 42, 43, 45, 46, 94, 95, 96, 124, 126]))[12]'h).toNat = 96 := fun _ => rfl
  have i13 : ∀ h, (((ByteArray.mk #[33, 35, 36, 37, 38, 39, 42, 43, 45, 46, 94, 95, 96, 124, 126]))[13]'h).toNat = 124 := fun _ => rfl
  have i14 : ∀ h, (((ByteArray.mk #[33, 35, 36, 37, 38, 39, 42, 43, 45, 46, 94, 95, 96, 124, 126]))[14]'h).toNat = 126 := fun _ => rfl
  go_enter Try.func44, Try.ntmps44
  go_wp2
  refine wp_loop_rounds 16 ?_
  repeat any_goals (rw [rounds_succ]; go_wp2)
  all_goals
    clear i0 i1 i2 i3 i4 i5 i6 i7 i8 i9 i10 i11 i12 i13 i14
    go_ret
    exact ⟨ret_bool (by rw [HT.out]; first | (simp_all [markB]; done) | (simp [markB]; simp_all; omega)), rfl⟩

theorem refIsToken_any (b : Int) (w : World) : Calls Try.prog 44 #[.int .u8 b] w fun e w' => e = .returned (.bool (tokenB b)) ∧ w = w' := by
  by_cases h1 : b < 48
  · exact tokD b w h1
  by_cases h2 : b ≤ 57
  · exact tokA b w (by omega) h2
  by_cases h3 : b < 65
  · exact tokE b w (by omega) h3
  by_cases h4 : b ≤ 90
  · exact tokB b w (by omega) h4
  by_cases h5 : b < 97
  · exact tokF b w (by omega) h5
  by_cases h6 : b ≤ 122
  · exact tokC b w (by omega) h6
  · exact tokG b w (by omega)

end Go.Proofs.Ytmfoegpdjajicaa
