/-
  Contract of Lower of package ascii.
-/
import Derived.Test.YtmfoegpdjajicaaAsU
namespace Go.Proofs.Ytmfoegpdjajicaa
open Go.RowKit


set_option maxHeartbeats 400000 in
theorem lowerByte_any (b : Int) (h0 : 0 ≤ b) (h1 : b ≤ 255) (w : World) : Calls Try.prog 54 #[.int .u8 b] w fun e w' => e = .returned (.int .u8 (lowI b)) ∧ w = w' := by
  by_cases hu : upperB b = true
  · have hb : b ≤ 90 := by simp [upperB] at hu; omega
    go_enter Try.func54, Try.ntmps54
    go_wp2_with (go_at_call 60; refine (isUpper_any _ _).mono ?_; rintro e w' ⟨rfl, rfl⟩)
    go_ret
    exact ⟨ret_int (by simp [lowI, hu]), rfl⟩
  · have hu' : upperB b = false := by simpa using hu
    clear hu
    go_enter Try.func54, Try.ntmps54
    go_wp2_with (go_at_call 60; refine (isUpper_any _ _).mono ?_; rintro e w' ⟨rfl, rfl⟩)
    go_ret
    exact ⟨ret_int (by simp [lowI, hu']), rfl⟩

theorem lowerByte_u8 (c : UInt8) (w : World) : Calls Try.prog 54 #[.int .u8 (c.toNat : Int)] w fun e w' => e = .returned (.int .u8 ((lowU c).toNat : Int)) ∧ w = w' := by
  have := byte_lt c
  rw [lowU_toNat]
  exact lowerByte_any _ (by omega) (by omega) w

/-- make([]byte, n) for a length that is a natural number. -/
theorem mk_bytes (w : World) (n : Nat) (hn : n ≤ 281474976710656) : (Instr.makeSlice 22 (.int .i64 (n : Int)) (.int .i64 (n : Int))).run Try.prog w =
    .ok (.slice (some ⟨w.heap.size, 0, none⟩) n n) (w.alloc (.cells (zeros n) 5)) := by
  obtain ⟨i, hi, hz0, hz1, hz2⟩ := info_parts infoU8
  have h := run_make (P := Try.prog) w 22 5 i (.int .u8 0) tyBs hi hz0 .i64 .i64 n n (by omega) (by omega) (by rw [hz2]; omega) (by omega)
  rw [hz1] at h
  simpa [made_u8, Value.cells] using h

/-- string(b) of a row that is full of the bytes l. -/
theorem str_bytes (w : World) (b off n c : Nat) (l : List UInt8) (hl : l.length = n) (hc : ∀ j, j < n → w.cell? ⟨b, off + j, none⟩ = some (.int .u8 ((l.map fun c => (c.toNat : Int)).getD j 0))) :
    (convert 22 9 (.slice (some ⟨b, off, none⟩) n c)).run Try.prog w = .ok (.string (bs l)) w := by
  rw [run_convert_bytes_arg w 22 5 tyBs tyU8 b off n c (l.map fun c => (c.toNat : Int)) (by simpa using hl) hc 9 tyStr, strOfNums_bytes]

set_option maxHeartbeats 1000000 in
theorem lower_any (s : ByteArray) (w : World) (hs : s.size ≤ 1000000000) :
    Calls Try.prog 42 #[.string s] w fun e w' => e = .returned (.string (lowS s)) ∧ Below w.heap.size w w' := by
  have hmk := mk_bytes w s.size (by omega)
  have hconv := str_bytes (w.alloc (.cells (fillRow (lowL (ls s)) s.size s.size) 5)) w.heap.size 0 s.size s.size (lowL (ls s)) (by rw [lowL_length, ls_length]) (by
    intro j hj
    rw [World.cell?_alloc_at _ _ _ _ rfl, Nat.zero_add]
    exact fillRow_all _ _ _ (by rw [lowL_length, ls_length]) hj)
  go_enter Try.func42, Try.ntmps42
  go_wp2
  go_loopw [10] (fun i wr => ∃ k : Nat, k ≤ s.size ∧ i = .int .i64 k ∧ wr = w.alloc (.cells (fillRow (lowL (ls s)) s.size k) 5)) (fun i _ => s.size - (intOf i).toNat)
  case atStart => exact ⟨0, Nat.zero_le _, rfl, by rw [fillRow_zero]⟩
  case round =>
    obtain ⟨k, hk, rfl, rfl⟩ := hrel
    by_cases hlt : k < s.size
    · have hck := fillRow_next (lowL (ls s)) s.size k (by rw [lowL_length, ls_length]) hlt
      have hset : Hid (((fillRow (lowL (ls s)) s.size k).setIfInBounds k (.int .u8 ((lowU s[k]).toNat : Int))) = fillRow (lowL (ls s)) s.size (k + 1)) :=
        fillRow_set _ _ _ (by rw [lowL_length, ls_length]) hlt _ (by simp only [lowL, List.getElem?_map, ls_get s k hlt, Option.map_some])
      go_wp2_with (go_at_call 54; refine (lowerByte_u8 _ _).mono ?_; rintro e w' ⟨rfl, rfl⟩)
      go_roundw
      case rel => exact ⟨k + 1, by omega, by go_num, by rw [hset.out]⟩
      case measure => simp [intOf]; omega
    · obtain rfl : k = s.size := by omega
      go_wp2
      go_ret
      exact ⟨rfl, (Below.refl _ _).alloc (Nat.le_refl _) _⟩

end Go.Proofs.Ytmfoegpdjajicaa
