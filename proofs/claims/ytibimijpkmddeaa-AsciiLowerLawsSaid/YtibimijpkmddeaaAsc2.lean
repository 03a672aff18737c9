/-
  Contracts of Lower, of package ascii and of its reference.
-/
import Derived.Test.YtibimijpkmddeaaAsc1
namespace Go.Proofs.Ytibimijpkmddeaa
open Go.RowKit

theorem tyBs : Try.prog.underlying 31 = some (.slice 5) := by kernel_rfl
theorem tyU8 : Try.prog.underlying 5 = some (.int .u8) := by kernel_rfl
theorem tyStr : Try.prog.underlying 9 = some .string := by kernel_rfl
theorem infoU8 : (Try.prog.info? 5).map (fun i => (i.zero, i.size, i.bytes)) = some (some (.int .u8 0), 1, 1) := by kernel_rfl

/-- make([]byte, n) for a length that is a natural number. -/
theorem mk_bytes (w : World) (n : Nat) (hn : n ≤ 281474976710656) : (Instr.makeSlice 31 (.int .i64 (n : Int)) (.int .i64 (n : Int))).run Try.prog w =
    .ok (.slice (some ⟨w.heap.size, 0, none⟩) n n) (w.alloc (.cells (zeros n) 5)) := by
  obtain ⟨i, hi, hz0, hz1, hz2⟩ := info_parts infoU8
  have h := run_make (P := Try.prog) w 31 5 i (.int .u8 0) tyBs hi hz0 .i64 .i64 n n (by omega) (by omega) (by rw [hz2]; omega) (by omega)
  rw [hz1] at h
  simpa [made_u8, Value.cells] using h

/-- string(b) of a row that is full of the bytes l. -/
theorem str_bytes (w : World) (b off n c : Nat) (l : List UInt8) (hl : l.length = n) (hc : ∀ j, j < n → w.cell? ⟨b, off + j, none⟩ = some (.int .u8 ((l.map fun c => (c.toNat : Int)).getD j 0))) :
    (convert 31 9 (.slice (some ⟨b, off, none⟩) n c)).run Try.prog w = .ok (.string (bs l)) w := by
  rw [run_convert_bytes_arg w 31 5 tyBs tyU8 b off n c (l.map fun c => (c.toNat : Int)) (by simpa using hl) hc 9 tyStr, strOfNums_bytes]

set_option maxHeartbeats 1000000 in
theorem lower_any (s : ByteArray) (w : World) (hs : s.size ≤ 1000000000) :
    Calls Try.prog 15 #[.string s] w fun e w' => e = .returned (.string (lowS s)) ∧ Below w.heap.size w w' := by
  have hmk := mk_bytes w s.size (by omega)
  have hconv := str_bytes (w.alloc (.cells (fillRow (lowL (ls s)) s.size s.size) 5)) w.heap.size 0 s.size s.size (lowL (ls s)) (by rw [lowL_length, ls_length]) (by
    intro j hj
    rw [World.cell?_alloc_at _ _ _ _ rfl, Nat.zero_add]
    exact fillRow_all _ _ _ (by rw [lowL_length, ls_length]) hj)
  go_enter Try.func15, Try.ntmps15
  go_wp2
  go_loopw [10] (fun i wr => ∃ k : Nat, k ≤ s.size ∧ i = .int .i64 k ∧ wr = w.alloc (.cells (fillRow (lowL (ls s)) s.size k) 5)) (fun i _ => s.size - (intOf i).toNat)
  case atStart => exact ⟨0, Nat.zero_le _, rfl, by rw [fillRow_zero]⟩
  case round =>
    obtain ⟨k, hk, rfl, rfl⟩ := hrel
    by_cases hlt : k < s.size
    · have hck := fillRow_next (lowL (ls s)) s.size k (by rw [lowL_length, ls_length]) hlt
      have hset : Hid (((fillRow (lowL (ls s)) s.size k).setIfInBounds k (.int .u8 ((lowU s[k]).toNat : Int))) = fillRow (lowL (ls s)) s.size (k + 1)) :=
        fillRow_set _ _ _ (by rw [lowL_length, ls_length]) hlt _ (by simp only [lowL, List.getElem?_map, ls_get s k hlt, Option.map_some])
      go_wp2_with (go_at_call 28; refine (lowerByte_u8 _ _).mono ?_; rintro e w' ⟨rfl, rfl⟩)
      go_roundw
      case rel => exact ⟨k + 1, by omega, by go_num, by rw [hset.out]⟩
      case measure => simp [intOf]; omega
    · obtain rfl : k = s.size := by omega
      go_wp2
      go_ret
      exact ⟨rfl, (Below.refl _ _).alloc (Nat.le_refl _) _⟩

/-- string(out) of a slice of bytes that the call itself has made. -/
theorem str_owned (w : World) (base n : Nat) (v : Value) (l : List UInt8) (h : w.ownsRow base 5 1 v n (l.map bv)) :
    (convert 31 9 v).run Try.prog w = .ok (.string (bs l)) w := by
  have hl : l.length = n := by simpa using h.1
  rcases Nat.eq_zero_or_pos n with h0 | h0
  · subst h0
    have hnil : l = [] := List.eq_nil_of_length_eq_zero hl
    subst hnil
    rcases h.2 with ⟨rfl, _⟩ | ⟨g, cap, cur, rfl, _⟩
    · exact run_convert_bytes_nil w 31 5 tyBs tyU8 0 0 9 tyStr
    · exact str_bytes w g 0 0 cap [] rfl (by intro j hj; omega)
  · obtain ⟨g, cap, rfl, _, _, hc⟩ := owns_cell h h0
    refine str_bytes w g 0 n cap l hl (fun j hj => ?_)
    have hjl : j < l.length := by omega
    have := hc j (by simpa using hjl)
    simp only [List.getElem_map, bv_eq] at this
    rw [Nat.zero_add, this]
    simp [List.getD, List.getElem?_eq_getElem hjl]

set_option maxHeartbeats 1000000 in
theorem refLower_any (s : ByteArray) (w : World) (hs : s.size ≤ 1000000000) :
    Calls Try.prog 16 #[.string s] w fun e w' => e = .returned (.string (lowS s)) ∧ Below w.heap.size w w' := by
  obtain ⟨i5, hi5, hz0, hz1, hz2⟩ := info_parts infoU8
  go_enter Try.func16, Try.ntmps16
  go_wp2
  go_loopw [3, 4] (fun v i wr => ∃ k : Nat, k ≤ s.size ∧ i = .int .i64 k ∧ wr.ownsRow w.heap.size 5 1 v k (((lowL (ls s)).take k).map bv) ∧ Below w.heap.size w wr) (fun _ i _ => s.size - (intOf i).toNat)
  case atStart => exact ⟨0, Nat.zero_le _, rfl, World.ownsRow_nil _ _ _ _, Below.refl _ _⟩
  case round =>
    obtain ⟨k, hk, rfl, hown, hb⟩ := hrel
    by_cases hlt : k < s.size
    · have hnext : Hid ((((lowL (ls s)).take k).map bv) ++ [.int .u8 (lowI (s[k].toNat : Int))] = ((lowL (ls s)).take (k + 1)).map bv) := by
        have hl : k < (lowL (ls s)).length := by rw [lowL_length, ls_length]; exact hlt
        rw [List.take_succ_eq_append_getElem hl, List.map_append]
        simp only [lowL, List.getElem_map, ls_getE s k hlt, List.map_cons, List.map_nil, bv_eq, lowU_toNat]
        rfl
      have hbl := byte_lt s[k]
      by_cases hu : upperB (s[k].toNat : Int) = true
      · have hlo : Hid (lowI (s[k].toNat : Int) = (s[k].toNat : Int) + 32) := by show _ = _; simp [lowI, hu]
        have h65 : (65 : Int) ≤ (s[k].toNat : Int) := by simp [upperB] at hu; omega
        have h90 : (s[k].toNat : Int) ≤ 90 := by simp [upperB] at hu; omega
        clear hu
        go_wp2_with (at_builtin; refine wpList_app_one _ rfl _ _ 31 rfl w.heap.size 5 i5 (.int .u8 0) 1 tyBs hi5 hz0 hz1 hz2 rfl _ (by exact rfl) _ _ _ (by exact rfl) hown (by exact rfl) (by unfold maxLen; omega) (by omega) hb (Nat.le_refl _) ?_; intro v' w' hown' hb' _)
        go_roundw
        case rel => exact ⟨k + 1, by omega, by go_num, by rw [← hnext.out, hlo.out]; exact hown', hb'⟩
        case measure => simp [intOf]; omega
      · have hlo : Hid (lowI (s[k].toNat : Int) = (s[k].toNat : Int)) := by show _ = _; simp [lowI, hu]
        have hnu : ¬ ((65 : Int) ≤ (s[k].toNat : Int) ∧ (s[k].toNat : Int) ≤ 90) := by
          intro hc
          exact hu (by simp [upperB]; omega)
        clear hu
        by_cases h65 : (65 : Int) ≤ (s[k].toNat : Int)
        · have h90 : ¬ (s[k].toNat : Int) ≤ 90 := fun hc => hnu ⟨h65, hc⟩
          clear hnu
          go_wp2_with (at_builtin; refine wpList_app_one _ rfl _ _ 31 rfl w.heap.size 5 i5 (.int .u8 0) 1 tyBs hi5 hz0 hz1 hz2 rfl _ (by exact rfl) _ _ _ (by exact rfl) hown (by exact rfl) (by unfold maxLen; omega) (by omega) hb (Nat.le_refl _) ?_; intro v' w' hown' hb' _)
          go_roundw
          case rel => exact ⟨k + 1, by omega, by go_num, by rw [← hnext.out, hlo.out]; exact hown', hb'⟩
          case measure => simp [intOf]; omega
        · clear hnu
          go_wp2_with (at_builtin; refine wpList_app_one _ rfl _ _ 31 rfl w.heap.size 5 i5 (.int .u8 0) 1 tyBs hi5 hz0 hz1 hz2 rfl _ (by exact rfl) _ _ _ (by exact rfl) hown (by exact rfl) (by unfold maxLen; omega) (by omega) hb (Nat.le_refl _) ?_; intro v' w' hown' hb' _)
          go_roundw
          case rel => exact ⟨k + 1, by omega, by go_num, by rw [← hnext.out, hlo.out]; exact hown', hb'⟩
          case measure => simp [intOf]; omega
    · obtain rfl : k = s.size := by omega
      have hall : Hid (((lowL (ls s)).take s.size) = lowL (ls s)) := by
        show _ = _
        rw [List.take_of_length_le (by rw [lowL_length, ls_length]; exact Nat.le_refl _)]
      rw [hall.out] at hown
      have hconv := str_owned wr _ _ _ _ hown
      go_wp2
      go_ret
      exact ⟨rfl, hb⟩

end Go.Proofs.Ytibimijpkmddeaa
