/-
  Numbers in bytes, the least significant first; contracts of the program's Valid, number, and of bytes.Equal.
-/
import Derived.Test.YtdahnkampjkelaaSupA
import Derived.Laws.BitsAllLaws
namespace Go.Proofs.Ytdahnkampjkelaa
open Go.RowKit

theorem pV : ValOk 13 := by
  intro g a e n s w
  obtain ⟨b, hb⟩ : ∃ b, sok a n = b := ⟨_, rfl⟩
  have HB := Lib.hid hb
  cases h0 : (a == 0) <;> cases h1 : (a == 1) <;> cases h2 : decide (0 ≤ n) <;> cases h3 : decide (n ≤ 262144) <;>
  · have hr := hb
    simp only [sok, h0, h1, h2, h3, Bool.or_self, Bool.or_true, Bool.or_false, Bool.and_true, Bool.and_false, Bool.and_self, Bool.true_or, Bool.false_or, Bool.true_and, Bool.false_and] at hr
    subst hr
    clear hb
    go_enter Try.func13, Try.ntmps13
    go_wp2
    go_ret
    exact ⟨ret_bool HB.out.symm, (Below.refl _ _).alloc (Nat.le_refl _) _⟩

/-- The number that bytes stand for, the least significant one first. -/
def leV : List UInt8 → Nat
  | [] => 0
  | b :: r => b.toNat + 256 * leV r
theorem leV_lt : ∀ l : List UInt8, leV l < 256 ^ l.length
  | [] => by simp [leV]
  | b :: r => by
    have := leV_lt r
    have hb : b.toNat < 256 := b.toNat_lt
    simp only [leV, List.length_cons, Nat.pow_succ]
    omega
theorem leV_take_succ : ∀ (l : List UInt8) (k : Nat) (h : k < l.length), leV (l.take (k + 1)) = leV (l.take k) + l[k].toNat * 256 ^ k
  | b :: r, 0, _ => by simp [leV]
  | b :: r, k + 1, h => by
    have := leV_take_succ r k (by simpa using h)
    simp only [List.take_succ_cons, leV, List.getElem_cons_succ, this, Nat.pow_succ]
    rw [Nat.mul_add, ← Nat.add_assoc]
    congr 1
    rw [Nat.mul_comm 256, Nat.mul_assoc]
theorem leV_four (l : List UInt8) (h : l.length = 4) : (leV l : Int) = nv (wordB l) := by
  match l, h with
  | [a, b, c, d], _ =>
    rw [wordB_nv]
    simp only [leV, List.getD_cons_zero, List.getD_cons_succ]
    omega
theorem leV_eight (l : List UInt8) (h : l.length = 8) : (leV l : Int) = nv (wordB l) + nv (wordB (l.drop 4)) * 4294967296 := by
  match l, h with
  | [a, b, c, d, e, f, g, i], _ =>
    rw [wordB_nv, wordB_nv]
    simp only [leV, List.drop_succ_cons, List.drop_zero, List.getD_cons_zero, List.getD_cons_succ]
    omega

/-- v |= b << 8k. -/
theorem or_byte (z y : Int) (k : Nat) (hk : k ≤ 7) (hz0 : 0 ≤ z) (hz : z.toNat < 256 ^ k) (hy0 : 0 ≤ y) (hy1 : y < 256) :
    bits .or .u64 z (IntKind.u64.wrap (y * 2 ^ (8 * k))) = z + y * 256 ^ k := by
  obtain ⟨a, rfl⟩ := Int.eq_ofNat_of_zero_le hz0
  obtain ⟨b, rfl⟩ := Int.eq_ofNat_of_zero_le hy0
  have hz' : a < 256 ^ k := by simpa using hz
  have e : (2 : Nat) ^ (8 * k) = 256 ^ k := by rw [Nat.pow_mul]
  have hp : (256 : Nat) ^ k ≤ 256 ^ 7 := Nat.pow_le_pow_right (by decide) hk
  have e7 : (256 : Nat) ^ 7 = 72057594037927936 := by decide
  rw [e7] at hp
  have hlt : 256 ^ k * b < 18446744073709551616 := by
    have : 256 ^ k * b ≤ 72057594037927936 * 255 := Nat.mul_le_mul hp (by omega)
    omega
  have hs : (b : Int) * 2 ^ (8 * k) = ((256 ^ k * b : Nat) : Int) := by
    rw [← e]
    push_cast
    exact Int.mul_comm _ _
  have hw : IntKind.u64.wrap (((256 ^ k * b : Nat) : Int)) = ((256 ^ k * b : Nat) : Int) := by rw [IntKind.wrap_u64]; omega
  rw [hs, hw, u64_or_nat _ _ (by omega) hlt, Nat.or_comm]
  have hor : 256 ^ k * b ||| a = 256 ^ k * b + a := by
    rw [← e, Nat.two_pow_add_eq_or_of_lt (by rw [e]; exact hz')]
  rw [hor, Int.natCast_add, Int.natCast_mul, Int.natCast_pow, Int.mul_comm, Int.add_comm]
  rfl

set_option maxHeartbeats 1000000 in
theorem num8_any (A : Option Addr) (len cap B : Nat) (l : List UInt8) (w : World) (hA : Has w B A len (l.map bv)) (hlen : len ≤ 8) :
    Calls Try.prog 22 #[.slice A len cap] w fun e w' => e = .returned (.int .u64 (leV l : Nat)) ∧ w = w' := by
  have HL : Hid (l.length = len) := by show _ = _; simpa using hA.1
  have HA := Lib.hid hA
  clear hA
  go_enter Try.func22, Try.ntmps22
  go_wp2
  go_loop [3, 8] (fun v i => ∃ (k : Nat) (z : Int), k ≤ len ∧ i = .int .i64 k ∧ v = .int .u64 z ∧ Hid (z = (leV (l.take k) : Int))) (fun _ i => len - (intOf i).toNat)
  case atStart => exact ⟨0, 0, Nat.zero_le _, rfl, rfl, Lib.hid (by simp [leV])⟩
  case round =>
    obtain ⟨k, z, hk, rfl, rfl, HZ⟩ := hrel
    by_cases hlt : k < len
    · have hks : k < l.length := by rw [HL.out]; exact hlt
      obtain ⟨b, off, rfl, hb, hc⟩ := HA.out.at_ hlt
      rw [List.getElem_map, bv_eq] at hc
      have hbl := byte_lt l[k]
      obtain ⟨y, hy⟩ : ∃ y : Int, y = (l[k].toNat : Int) := ⟨_, rfl⟩
      rw [← hy] at hc hbl
      have hy0 : 0 ≤ y := by omega
      obtain ⟨K, hK⟩ : ∃ K : Nat, K = 8 * k := ⟨_, rfl⟩
      have hK' : 8 * (k : Int) = (K : Int) := by omega
      have hK64 : K ≤ 56 := by omega
      obtain ⟨z2, hz2⟩ : ∃ z2, bits .or .u64 z (IntKind.u64.wrap (y * 2 ^ K)) = z2 := ⟨_, rfl⟩
      have HZ2 : Hid (z2 = (leV (l.take (k + 1)) : Int)) := by
        refine Lib.hid ?_
        have hlt2 := leV_lt (l.take k)
        rw [List.length_take, Nat.min_eq_left (by omega)] at hlt2
        rw [← hz2, hK, or_byte z y k (by omega) (by rw [HZ.out]; omega) (by rw [HZ.out]; simpa using hlt2) hy0 hbl, leV_take_succ l k hks, HZ.out, hy, Int.natCast_add, Int.natCast_mul, Int.natCast_pow]
        rfl
      clear hy hK
      go_wp2
      go_round
      case rel => exact ⟨k + 1, z2, by omega, by go_num, (by first | rfl | rw [hz2]), HZ2⟩
      case measure => simp [intOf]; omega
    · obtain rfl : k = len := by omega
      have HT : Hid (l.take k = l) := by show _ = _; exact List.take_of_length_le (by rw [HL.out]; omega)
      go_wp2
      go_ret
      exact ⟨ret_int (by rw [HZ.out, HT.out]), rfl⟩

set_option maxHeartbeats 400000 in
theorem bequal_any (A1 A2 : Option Addr) (n1 c1 n2 c2 B : Nat) (l m : List UInt8) (w : World) (h1 : Has w B A1 n1 (l.map bv)) (h2 : Has w B A2 n2 (m.map bv)) :
    Calls Try.prog 24 #[.slice A1 n1 c1, .slice A2 n2 c2] w fun e w' => e = .returned (.bool (eqL l m)) ∧ w = w' := by
  have e1 := str_has w A1 n1 c1 B l h1
  have e2 := str_has w A2 n2 c2 B m h2
  have HE : Hid (((bs l).toList == (bs m).toList) = eqL l m) := by
    show _ = _
    rw [toList_ls, toList_ls, ls_bs, ls_bs]
    unfold eqL
    by_cases h : l = m
    · subst h; simp
    · rw [decide_eq_false h, beq_eq_false_iff_ne]; exact h
  clear h1 h2
  go_enter Try.func24, Try.ntmps24
  go_wp2
  go_ret
  exact ⟨ret_bool (by rw [← HE.out]), rfl⟩

end Go.Proofs.Ytdahnkampjkelaa
