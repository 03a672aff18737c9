/-
  The contract of wire.Uint (layer 3).
-/
import Derived.Test.YtealjcpgcghfpaaKeepB
import Derived.Test.YtealjcpgcghfpaaWirP
import Derived.Test.YtealjcpgcghfpaaArr
import Derived.Laws.BitsAllLaws
namespace Go.Proofs.Ytealjcpgcghfpaa
open Go.RowKit

/-- What decoding a number gives, as the walk's numbers. -/
def dv (l : List UInt8) : Int := ((dec l).1 : Int)
def dn (l : List UInt8) : Int := ((dec l).2.1 : Int)
def de (l : List UInt8) : Int := ((dec l).2.2 : Int)
theorem d_of {l : List UInt8} {v n e : Nat} (h : dec l = (v, n, e)) : dv l = (v : Int) ∧ dn l = (n : Int) ∧ de l = (e : Int) := by
  unfold dv dn de
  rw [h]
  exact ⟨rfl, rfl, rfl⟩
theorem dv_ge (l : List UInt8) : 0 ≤ dv l := by unfold dv; omega
theorem dn_ge (l : List UInt8) : 0 ≤ dn l := by unfold dn; omega
theorem de_ge (l : List UInt8) : 0 ≤ de l := by unfold de; omega
theorem d_zero {l : List UInt8} (h : de l = 0) : dv l < 18446744073709551616 ∧ 1 ≤ dn l ∧ dn l ≤ l.length ∧ dn l ≤ 10 ∧ enc (dv l).toNat = l.take (dn l).toNat := by
  have h0 : (dec l).2.2 = 0 := by unfold de at h; omega
  obtain ⟨h1, h2, h3, h4, h5⟩ := dec_canon h0
  unfold dv dn
  exact ⟨by omega, by omega, by omega, by omega, by simpa using h4⟩
theorem dv_lt (l : List UInt8) : dv l < 18446744073709551616 := by
  by_cases h : de l = 0
  · exact (d_zero h).1
  · have h0 : (dec l).2.2 ≠ 0 := by unfold de at h; omega
    unfold dv
    rw [(dec_bad h0).1]
    decide
attribute [irreducible] dv dn de

theorem min_two {P : Program} (w : World) (ts : Array TypeId) (t : TypeId) (a b r : Int) (hr : min a b = r) :
    (Builtin.min_ ts t #[.int .i64 a, .int .i64 b]).run P w = .ok (.int .i64 r) w := by
  have e1 : (if b < a then b else a) = min a b := by omega
  simp [Builtin.min_, Builtin.min2, List.foldlM, e1]
  omega

theorem and128_nat : ∀ a : Fin 256, (a.val &&& 128) = if a.val < 128 then 0 else 128 := by decide +kernel
theorem and128 (y : Int) (h0 : 0 ≤ y) (h1 : y < 256) : bits .and .u8 y 128 = if y < 128 then 0 else 128 := by
  obtain ⟨n, rfl⟩ := Int.eq_ofNat_of_zero_le h0
  have h := u8_and_nat n 128 (by omega) (by decide)
  have h2 := and128_nat ⟨n, by omega⟩
  rw [show (128 : Int) = ((128 : Nat) : Int) from rfl, h]
  simp only at h2
  rw [h2]
  by_cases hn : n < 128
  · rw [if_pos hn, if_pos (by omega)]; rfl
  · rw [if_neg hn, if_neg (by omega)]
theorem andNot128 (y : Int) (h0 : 0 ≤ y) (h1 : y < 256) : bits .andNot .u8 y 128 = y % 128 := by
  obtain ⟨n, rfl⟩ := Int.eq_ofNat_of_zero_le h0
  have h := u8_andNot_nat n 128 (by omega) (by decide)
  rw [show (128 : Int) = ((128 : Nat) : Int) from rfl, h]
  have := nat_mask7 n
  rw [show 255 - 128 = 127 from rfl, this]
  omega
/-- v |= r << 7k. -/
theorem or_shift (z r : Int) (k : Nat) (hk : k ≤ 9) (hz0 : 0 ≤ z) (hz : z.toNat < 128 ^ k) (hr0 : 0 ≤ r) (hr1 : r < 128) (h9 : k = 9 → r ≤ 1) :
    bits .or .u64 z (IntKind.u64.wrap (r * 2 ^ (7 * k))) = z + 128 ^ k * r := by
  obtain ⟨a, rfl⟩ := Int.eq_ofNat_of_zero_le hz0
  obtain ⟨b, rfl⟩ := Int.eq_ofNat_of_zero_le hr0
  have hz' : a < 128 ^ k := by simpa using hz
  have e : (2 : Nat) ^ (7 * k) = 128 ^ k := by rw [Nat.pow_mul]
  have hlt : 128 ^ k * b < 18446744073709551616 := by
    by_cases h : k = 9
    · subst h
      have := h9 rfl
      have e9 : (128 : Nat) ^ 9 = 9223372036854775808 := by decide
      rw [e9]; omega
    · have hp : (128 : Nat) ^ k ≤ 128 ^ 8 := Nat.pow_le_pow_right (by decide) (by omega)
      have e8 : (128 : Nat) ^ 8 = 72057594037927936 := by decide
      rw [e8] at hp
      have : 128 ^ k * b ≤ 72057594037927936 * 127 := Nat.mul_le_mul hp (by omega)
      omega
  have hle : (128 : Nat) ^ k ≤ 128 ^ 9 := Nat.pow_le_pow_right (by decide) (by omega)
  have e9 : (128 : Nat) ^ 9 = 9223372036854775808 := by decide
  rw [e9] at hle
  have hs : (b : Int) * 2 ^ (7 * k) = ((128 ^ k * b : Nat) : Int) := by
    rw [← e]
    push_cast
    exact Int.mul_comm _ _
  have hw : IntKind.u64.wrap (((128 ^ k * b : Nat) : Int)) = ((128 ^ k * b : Nat) : Int) := by rw [IntKind.wrap_u64]; omega
  rw [hs, hw, u64_or_nat _ _ (by omega) hlt, Nat.or_comm]
  have hor : 128 ^ k * b ||| a = 128 ^ k * b + a := by
    rw [← e, Nat.two_pow_add_eq_or_of_lt (by rw [e]; exact hz')]
  rw [hor]
  push_cast
  omega

/-- As far as the loop has come. -/
structure Seen (l : List UInt8) (k : Nat) (z : Int) : Prop where
  big : ∀ j, j < k → 128 ≤ (l.getD j 0).toNat
  num : k ≤ 9 → z = (val (l.take k) : Int)
theorem Seen.cont {l : List UInt8} {k : Nat} {z : Int} (h : Seen l k z) (hk : k ≤ 10) (hl : k ≤ l.length) (he : k < 10 → ∀ h : k < l.length, l[k].toNat < 128) : cont 10 l = k :=
  cont_of hk hl h.big (fun h1 h2 => by rw [getD_at l k h2]; exact he h1 h2)
theorem Seen.next {l : List UInt8} {k : Nat} {z z2 : Int} (h : Seen l k z) (hk : k < l.length) (hb : 128 ≤ l[k].toNat) (hz : k + 1 ≤ 9 → z2 = (val (l.take (k + 1)) : Int)) : Seen l (k + 1) z2 :=
  ⟨fun j hj => by
    by_cases e : j = k
    · subst e; rw [getD_at l j hk]; exact hb
    · exact h.big j (by omega), hz⟩

set_option maxHeartbeats 2000000 in
theorem uint_any (A : Option Addr) (len cap B : Nat) (l : List UInt8) (w : World) (hA : Has w B A len (l.map bv)) (hlc : len ≤ cap) (hlen : len ≤ 1000000000) :
    Calls Try.prog 17 #[.slice A len cap] w fun e w' => e = .returned (.tuple #[.int .u64 (dv l), .int .i64 (dn l), .int .i64 (de l)]) ∧ w = w' := by
  have HL : Hid (l.length = len) := by show _ = _; simpa using hA.1
  have HA := Lib.hid hA
  clear hA
  obtain ⟨m, hm⟩ : ∃ m : Nat, m = min len 10 := ⟨_, rfl⟩
  have hmin : ∀ ts t, (Builtin.min_ ts t #[.int .i64 (len : Int), .int .i64 10]).run Try.prog w = .ok (.int .i64 (m : Int)) w := fun ts t => min_two w ts t _ _ _ (by omega)
  have hmc : m ≤ cap := by omega
  have hml : m ≤ len := by omega
  have hm10 : m ≤ 10 := by omega
  have HM := Lib.hid hm
  clear hm
  go_enter Try.func17, Try.ntmps17
  go_wp2
  go_loop [5, 14] (fun v i => ∃ (k : Nat) (z : Int), k ≤ m ∧ i = .int .i64 k ∧ v = .int .u64 z ∧ Hid (Seen l k z)) (fun _ i => m - (intOf i).toNat)
  case atStart => exact ⟨0, 0, Nat.zero_le _, rfl, rfl, Lib.hid ⟨by simp, by simp [val]⟩⟩
  case round =>
    obtain ⟨k, z, hk, rfl, rfl, HS⟩ := hrel
    by_cases hlt : k < m
    · have hkl : k < len := by omega
      have hks : k < l.length := by rw [HL.out]; exact hkl
      obtain ⟨b, off, rfl, hb, hc⟩ := HA.out.at_ hkl
      rw [List.getElem_map, bv_eq] at hc
      have hbl := byte_lt l[k]
      obtain ⟨y, hy⟩ : ∃ y : Int, y = (l[k].toNat : Int) := ⟨_, rfl⟩
      rw [← hy] at hc hbl
      have hy0 : 0 ≤ y := by omega
      have h1 := and128 y hy0 hbl
      have h2 := andNot128 y hy0 hbl
      obtain ⟨r, hr⟩ : ∃ r : Int, r = y % 128 := ⟨_, rfl⟩
      rw [← hr] at h2
      have hr0 : 0 ≤ r := by omega
      have hr1 : r < 128 := by omega
      obtain ⟨K, hK⟩ : ∃ K : Nat, K = 7 * k := ⟨_, rfl⟩
      have hK' : 7 * (k : Int) = (K : Int) := by omega
      have hK64 : K ≤ 63 := by omega
      obtain ⟨z2, hz2⟩ : ∃ z2, bits .or .u64 z (IntKind.u64.wrap (r * 2 ^ K)) = z2 := ⟨_, rfl⟩
      have HZ : Hid ((k = 9 → l[k].toNat ≤ 1) → z2 = (val (l.take (k + 1)) : Int)) := by
        refine Lib.hid fun h9 => ?_
        have hnum := HS.out.num (by omega)
        have hval := val_lt (l.take k)
        have hor := or_shift z r k (by omega) (by omega) (by rw [hnum]; simpa [List.length_take, Nat.min_eq_left (show k ≤ l.length by omega)] using hval) hr0 hr1 (by intro e; have := h9 e; omega)
        rw [← hz2, hK, hor, val_take_succ l k hks, hnum, show r = ((l[k].toNat % 128 : Nat) : Int) by omega]
        push_cast
        rfl
      have HR := Lib.hid hr
      have HY := Lib.hid hy
      clear hr hK hy
      by_cases hbig : 128 ≤ y
      · rw [if_neg (by omega)] at h1
        have HN : Hid (Seen l (k + 1) z2) := Lib.hid (HS.out.next hks (by have := HY.out; omega) (fun h => HZ.out (by intro e; omega)))
        go_wp2
        go_round
        case rel => exact ⟨k + 1, z2, by omega, by go_num, (by first | rfl | rw [hz2]), HN⟩
        case measure => simp [intOf]; omega
      · rw [if_pos (by omega)] at h1
        have HC := Lib.hid (HS.out.cont (by omega) (by omega) (fun _ _ => by have := HY.out; omega))
        by_cases hk9 : k = 9
        · have hk9' : ((k : Int) == 9) = true := by simp; omega
          have hkpos : (0 : Int) < (k : Int) := by omega
          by_cases hy1 : 1 < y
          · have HD := Lib.hid (d_of (dec_big HC.out hks hk9 (by have := HY.out; omega)))
            clear hk9
            go_wp2
            go_ret3
            exact ⟨by rw [HD.out.1, HD.out.2.1, HD.out.2.2]; rfl, rfl⟩
          · by_cases hy0' : y = 0
            · have HD := Lib.hid (d_of (dec_zero HC.out hks (by omega) (by omega) (by have := HY.out; omega)))
              have hye : (y == 0) = true := by simp; omega
              clear hk9 hy0'
              go_wp2
              go_ret3
              exact ⟨by rw [HD.out.1, HD.out.2.1, HD.out.2.2]; rfl, rfl⟩
            · have hye : (y == 0) = false := by simp; omega
              have HD := Lib.hid (d_of (dec_val HC.out hks (by omega) (fun _ => by have := HY.out; omega) (fun _ => by have := HY.out; omega)))
              have HZ2 := Lib.hid (HZ.out (fun _ => by have := HY.out; omega))
              clear hk9 hy0'
              go_wp2
              go_ret3
              exact ⟨by rw [HD.out.1, HD.out.2.1, HD.out.2.2, ← HZ2.out, ← hz2]; rfl, rfl⟩
        · have hk9' : ((k : Int) == 9) = false := by simp; omega
          by_cases hk0 : k = 0
          · have hkpos : ¬ (0 : Int) < (k : Int) := by omega
            have HD := Lib.hid (d_of (dec_val HC.out hks (by omega) (fun e => by omega) (fun e => by omega)))
            have HZ2 := Lib.hid (HZ.out (fun e => by omega))
            clear hk0
            go_wp2
            go_ret3
            exact ⟨by rw [HD.out.1, HD.out.2.1, HD.out.2.2, ← HZ2.out, ← hz2]; rfl, rfl⟩
          · have hkpos : (0 : Int) < (k : Int) := by omega
            by_cases hy0' : y = 0
            · have HD := Lib.hid (d_of (dec_zero HC.out hks (by omega) (by omega) (by have := HY.out; omega)))
              have hye : (y == 0) = true := by simp; omega
              clear hy0'
              go_wp2
              go_ret3
              exact ⟨by rw [HD.out.1, HD.out.2.1, HD.out.2.2]; rfl, rfl⟩
            · have hye : (y == 0) = false := by simp; omega
              have HD := Lib.hid (d_of (dec_val HC.out hks (by omega) (fun e => by omega) (fun _ => by have := HY.out; omega)))
              have HZ2 := Lib.hid (HZ.out (fun e => by omega))
              clear hy0'
              go_wp2
              go_ret3
              exact ⟨by rw [HD.out.1, HD.out.2.1, HD.out.2.2, ← HZ2.out, ← hz2]; rfl, rfl⟩
    · obtain rfl : k = m := by omega
      by_cases h10 : len < 10
      · have HD := Lib.hid (d_of (dec_end (l := l) (by rw [HS.out.cont (by omega) (by rw [HL.out]; exact hml) (fun _ h => by have h1 := HM.out; rw [HL.out] at h; omega), HL.out]; have := HM.out; omega) (by rw [HL.out]; exact h10)))
        go_wp2
        go_ret3
        exact ⟨by rw [HD.out.1, HD.out.2.1, HD.out.2.2]; rfl, rfl⟩
      · have HD := Lib.hid (d_of (dec_ten (l := l) (by rw [HS.out.cont (by omega) (by rw [HL.out]; exact hml) (fun h1 _ => by have h2 := HM.out; omega)]; have := HM.out; omega)))
        go_wp2
        go_ret3
        exact ⟨by rw [HD.out.1, HD.out.2.1, HD.out.2.2]; rfl, rfl⟩

end Go.Proofs.Ytealjcpgcghfpaa
