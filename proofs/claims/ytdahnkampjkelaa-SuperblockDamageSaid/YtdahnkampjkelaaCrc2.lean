/-
  Contracts of Update and Sum, of package crc and of its reference.
-/
import Derived.Test.YtdahnkampjkelaaCrc1
namespace Go.Proofs.Ytdahnkampjkelaa
open Go.RowKit

theorem upd_next (c : W32) (l : List UInt8) (k : Nat) (h : k < l.length) : crcU c (l.take (k + 1)) = stepN 8 (crcU c (l.take k) ^^^ b32 l[k]) := upd_take_succ c l k h

set_option maxHeartbeats 1000000 in
theorem update_any (s : W32) (A : Option Addr) (len cap B : Nat) (l : List UInt8) (w : World) (hA : Has w B A len (l.map bv)) (hlen : len ≤ 1000000000) :
    Calls Try.prog 27 #[.int .u32 (nv s), .slice A len cap] w fun e w' => e = .returned (.int .u32 (nv (crcUpd s l))) ∧ w = w' := by
  have HL : Hid (l.length = len) := by show _ = _; simpa using hA.1
  have HA := Lib.hid hA
  clear hA
  have hn := nv_not s
  obtain ⟨m, hm⟩ : ∃ m, m = ~~~ s := ⟨_, rfl⟩
  rw [← hm] at hn
  have HM := Lib.hid hm
  clear hm
  go_enter Try.func27, Try.ntmps27
  go_wp2
  go_loop [5, 12] (fun v i => ∃ (k : Nat) (d : W32), k ≤ len ∧ i = .int .i64 k ∧ v = .int .u32 (nv d) ∧ d = crcU m (l.take k)) (fun _ i => len - (intOf i).toNat)
  case atStart => exact ⟨0, m, Nat.zero_le _, rfl, rfl, rfl⟩
  case round =>
    obtain ⟨k, d, hk, rfl, rfl, hd⟩ := hrel
    have HD := Lib.hid hd
    clear hd
    by_cases hlt : k < len
    · have hks : k < l.length := by rw [HL.out]; exact hlt
      obtain ⟨b, off, rfl, hb, hc⟩ := HA.out.at_ hlt
      rw [List.getElem_map, bv_eq] at hc
      have HN := Lib.hid (upd_next m l k hks)
      have hx := nv_xor_byte d l[k]
      obtain ⟨x, hxe⟩ : ∃ x, x = d ^^^ b32 l[k] := ⟨_, rfl⟩
      rw [← hxe] at hx
      have HX := Lib.hid hxe
      clear hxe
      have hbl := byte_lt l[k]
      go_wp2_with (go_at_call 29; refine (eight_any _ _).mono ?_; rintro e w' ⟨rfl, rfl⟩)
      go_round
      case rel => exact ⟨k + 1, _, by omega, by go_num, rfl, by rw [HN.out, HX.out, HD.out]⟩
      case measure => simp [intOf]; omega
    · obtain rfl : k = len := by omega
      have HT : Hid (l.take k = l) := by show _ = _; exact List.take_of_length_le (by rw [HL.out]; omega)
      have hn2 := nv_not d
      obtain ⟨z, hz⟩ : ∃ z, z = ~~~ d := ⟨_, rfl⟩
      rw [← hz] at hn2
      have HZ := Lib.hid hz
      clear hz
      go_wp2
      go_ret
      exact ⟨ret_int (by first | (rw [HZ.out, HD.out, HT.out, HM.out]; rfl) | (rw [hn2, HZ.out, HD.out, HT.out, HM.out]; rfl)), rfl⟩

set_option maxHeartbeats 400000 in
theorem sum_any (A : Option Addr) (len cap B : Nat) (l : List UInt8) (w : World) (hA : Has w B A len (l.map bv)) (hlen : len ≤ 1000000000) :
    Calls Try.prog 21 #[.slice A len cap] w fun e w' => e = .returned (.int .u32 (nv (crcSum l))) ∧ w = w' := by
  have hu := update_any 0#32 A len cap B l w hA hlen
  rw [nv_zero] at hu
  go_enter Try.func21, Try.ntmps21
  go_wp2_with fail
  refine hu.mono ?_
  rintro e w' ⟨rfl, rfl⟩
  go_wp2
  go_ret
  exact ⟨rfl, rfl⟩

set_option maxRecDepth 20000 in
set_option maxHeartbeats 1000000 in
theorem refUpdate_any (s : W32) (A : Option Addr) (len cap B : Nat) (l : List UInt8) (w : World) (hA : Has w B A len (l.map bv)) (hlen : len ≤ 1000000000) :
    Calls Try.prog 26 #[.int .u32 (nv s), .slice A len cap] w fun e w' => e = .returned (.int .u32 (nv (crcUpd s l))) ∧ w = w' := by
  have HL : Hid (l.length = len) := by show _ = _; simpa using hA.1
  have HA := Lib.hid hA
  clear hA
  have hn := nv_not s
  obtain ⟨m, hm⟩ : ∃ m, m = ~~~ s := ⟨_, rfl⟩
  rw [← hm] at hn
  have HM := Lib.hid hm
  clear hm
  go_enter Try.func26, Try.ntmps26
  go_wp2
  go_loop [5, 6] (fun v i => ∃ (k : Nat) (d : W32), k ≤ len ∧ i = .int .i64 k ∧ v = .int .u32 (nv d) ∧ d = crcU m (l.take k)) (fun _ i => len - (intOf i).toNat)
  case atStart => exact ⟨0, m, Nat.zero_le _, rfl, rfl, rfl⟩
  case round =>
    obtain ⟨k, d, hk, rfl, rfl, hd⟩ := hrel
    have HD := Lib.hid hd
    clear hd
    by_cases hlt : k < len
    · have hks : k < l.length := by rw [HL.out]; exact hlt
      obtain ⟨b, off, rfl, hb, hc⟩ := HA.out.at_ hlt
      rw [List.getElem_map, bv_eq] at hc
      have HN := Lib.hid (upd_next m l k hks)
      have hx := nv_xor_byte d l[k]
      obtain ⟨x, hxe⟩ : ∃ x, x = d ^^^ b32 l[k] := ⟨_, rfl⟩
      rw [← hxe] at hx
      have HX := Lib.hid hxe
      clear hxe
      have hbl := byte_lt l[k]
      go_wp2
      go_loop [5, 7] (fun v i => ∃ (j : Nat) (y : W32), j ≤ 8 ∧ i = .int .i64 j ∧ v = .int .u32 (nv y) ∧ y = stepN j x) (fun _ i => 8 - (intOf i).toNat)
      case atStart => exact ⟨0, x, Nat.zero_le _, rfl, rfl, rfl⟩
      case round =>
        obtain ⟨j, y, hj, rfl, rfl, hy⟩ := hrel
        have HY := Lib.hid hy
        clear hy
        by_cases hjlt : j < 8
        · have HJ := Lib.hid (stepN_succ j x)
          go_wp2_with (go_at_call 28; refine (refStep_any _ _).mono ?_; rintro e w' ⟨rfl, rfl⟩)
          go_round
          case rel => exact ⟨j + 1, _, by omega, by go_num, rfl, by rw [HJ.out, HY.out]⟩
          case measure => simp [intOf]; omega
        · obtain rfl : j = 8 := by omega
          go_wp2
          go_round
          case rel => exact ⟨k + 1, _, by omega, by go_num, rfl, by rw [HY.out, HN.out, HX.out, HD.out]⟩
          case measure => simp [intOf]; omega
    · obtain rfl : k = len := by omega
      have HT : Hid (l.take k = l) := by show _ = _; exact List.take_of_length_le (by rw [HL.out]; omega)
      have hn2 := nv_not d
      obtain ⟨z, hz⟩ : ∃ z, z = ~~~ d := ⟨_, rfl⟩
      rw [← hz] at hn2
      have HZ := Lib.hid hz
      clear hz
      go_wp2
      go_ret
      exact ⟨ret_int (by first | (rw [HZ.out, HD.out, HT.out, HM.out]; rfl) | (rw [hn2, HZ.out, HD.out, HT.out, HM.out]; rfl)), rfl⟩

set_option maxHeartbeats 400000 in
theorem refSum_any (A : Option Addr) (len cap B : Nat) (l : List UInt8) (w : World) (hA : Has w B A len (l.map bv)) (hlen : len ≤ 1000000000) :
    Calls Try.prog 17 #[.slice A len cap] w fun e w' => e = .returned (.int .u32 (nv (crcSum l))) ∧ w = w' := by
  have hu := refUpdate_any 0#32 A len cap B l w hA hlen
  rw [nv_zero] at hu
  go_enter Try.func17, Try.ntmps17
  go_wp2_with fail
  refine hu.mono ?_
  rintro e w' ⟨rfl, rfl⟩
  go_wp2
  go_ret
  exact ⟨rfl, rfl⟩

end Go.Proofs.Ytdahnkampjkelaa
