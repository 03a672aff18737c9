/-
  The contract of flip (statements of layer 2).
-/
import Derived.Test.YtpbdcljpcchihaaCrc8
import Derived.Test.YtpbdcljpcchihaaMkB
namespace Go.Proofs.Ytpbdcljpcchihaa
open Go.RowKit

theorem xor_u8 (a b : UInt8) : bits .xor .u8 (a.toNat : Int) (b.toNat : Int) = ((a ^^^ b).toNat : Int) := by
  rw [u8_xor_nat _ _ a.toNat_lt b.toNat_lt, UInt8.toNat_xor]
theorem mask8_pow : ∀ r < 8, (2 : Int) ^ r % 256 = ((mask8 r).toNat : Int) := by decide

theorem flips_hit {l : List UInt8} {a p k : Nat} (h : hits l.length a p k = true) : flips l a p (k + 1) = (flips l a p k).set ((a + k) / 8) ((flips l a p k).getD ((a + k) / 8) 0 ^^^ mask8 ((a + k) % 8)) := by
  show (if hits l.length a p k = true then _ else _) = _
  rw [if_pos h]; rfl
theorem flips_miss {l : List UInt8} {a p k : Nat} (h : ¬ hits l.length a p k = true) : flips l a p (k + 1) = flips l a p k := by
  show (if hits l.length a p k = true then _ else _) = _
  rw [if_neg h]
theorem nv_bit {p : W32} {k : Nat} {s : Int} (hs : nv p / 2 ^ k = s) : (p.toNat / 2 ^ k % 2 = 1) ↔ s % 2 = 1 := by
  have e : s = ((p.toNat / 2 ^ k : Nat) : Int) := by rw [← hs]; unfold nv; simp
  omega

set_option maxHeartbeats 2000000 in
theorem flip_any (A : Option Addr) (len cap B : Nat) (l : List UInt8) (a : Nat) (p : W32) (w : World) (hA : Has w B A len (l.map bv)) (hcap : A = none → cap = 0) (hlen : len ≤ 100000) (hpos : 0 < len) (ha : a ≤ 1000000) (hB : B ≤ w.heap.size) :
    Calls Try.prog 18 #[.slice A len cap, .int .i64 (a : Int), .int .u32 (nv p)] w fun e w' => (∃ g c, e = .returned (.slice (some ⟨g, 0, none⟩) len c) ∧ Own8 w' g c len (flips l a p.toNat 32)) ∧ Below w.heap.size w w' := by
  have HL : Hid (l.length = len) := by show _ = _; simpa using hA.1
  go_enter Try.func18, Try.ntmps18
  go_wp2_with fail
  refine (ownBytes_any A len cap B l _ hA hcap (by omega) hB).mono ?_
  rintro e w1 ⟨⟨v, rfl, hown⟩, hb⟩
  clear hA hcap
  obtain ⟨g, c, rfl, hg, hO⟩ := Own8.of hown hpos
  have HO := Lib.hid (show Own8 w1 g c len l ∧ Below w.heap.size w w1 from ⟨hO, hb⟩)
  clear hown hO hb
  go_wp2
  go_loopw [8, 9] (fun i _ wr => ∃ k : Nat, k ≤ 32 ∧ i = .int .i64 k ∧ Hid (Own8 wr g c len (flips l a p.toNat k) ∧ Below w.heap.size w wr)) (fun i _ _ => 32 - (intOf i).toNat)
  case atStart => exact ⟨0, Nat.zero_le _, rfl, HO.out⟩
  case round =>
    obtain ⟨k, hk, rfl, HR⟩ := hrel
    by_cases hlt : k < 32
    · obtain ⟨s, hs⟩ : ∃ s, nv p / 2 ^ k = s := ⟨_, rfl⟩
      have hs0 : 0 ≤ s := by rw [← hs]; exact shr_ge p k
      have HS := Lib.hid hs
      obtain ⟨j, hj⟩ : ∃ j, j = a + k := ⟨_, rfl⟩
      have hsum : (a : Int) + (k : Int) = (j : Int) := by omega
      have HJ := Lib.hid hj
      have hjb : j ≤ 1000032 := by omega
      clear hs hj
      by_cases hbit : s % 2 = 1
      · by_cases hin : j / 8 < len
        · obtain ⟨q, hq⟩ : ∃ q, q = j / 8 := ⟨_, rfl⟩
          obtain ⟨r, hr⟩ : ∃ r, r = j % 8 := ⟨_, rfl⟩
          have hdiv : (j : Int) / 8 = (q : Int) := by omega
          have hmod : (j : Int) % 8 = (r : Int) := by omega
          have hr8 : r < 8 := by omega
          have hql : q < len := by omega
          have hcell := HR.out.1.cell hql
          have hfro := HR.out.1.frozen q
          obtain ⟨y, hy⟩ : ∃ y, y = (flips l a p.toNat k).getD q 0 := ⟨_, rfl⟩
          have hx := xor_u8 y (mask8 r)
          have hw := mask8_pow r hr8
          obtain ⟨yv, hyv⟩ : ∃ v : Int, v = (y.toNat : Int) := ⟨_, rfl⟩
          obtain ⟨mv, hmv⟩ : ∃ v : Int, v = ((mask8 r).toNat : Int) := ⟨_, rfl⟩
          obtain ⟨zv, hzv⟩ : ∃ v : Int, v = ((y ^^^ mask8 r).toNat : Int) := ⟨_, rfl⟩
          rw [← hy, ← hyv] at hcell
          rw [← hyv, ← hmv, ← hzv] at hx
          rw [← hmv] at hw
          have HQ := Lib.hid hq
          have HR8 := Lib.hid hr
          have HY := Lib.hid hy
          have HZ := Lib.hid hzv
          clear hq hr hy hin hyv hmv hzv
          go_wp2_with (refine wpList_shr32 _ rfl _ _ _ _ rfl ty23 _ k hk (by exact rfl) (by exact rfl) s HS.out ?_)
          go_region
          go_wp2
          go_roundw
          case rel =>
            refine ⟨k + 1, by omega, by go_num, ?_⟩
            have hhit : hits l.length a p.toNat k = true := by
              unfold hits
              rw [decide_eq_true ((nv_bit HS.out).2 hbit), HL.out, decide_eq_true (by rw [← HJ.out, ← HQ.out]; exact hql)]
              rfl
            rw [flips_hit hhit, ← HJ.out, ← HQ.out, ← HR8.out, ← HY.out]
            exact ⟨HR.out.1.set_cell hql _ _ HZ.out, (HR.out.2.setCell hg _).drew⟩
          case measure => simp [intOf]; omega
        · have hin' : ¬ (j : Int) / 8 < (len : Int) := by omega
          have hge : (len : Int) ≤ (j : Int) / 8 := by omega
          go_wp2_with (refine wpList_shr32 _ rfl _ _ _ _ rfl ty23 _ k hk (by exact rfl) (by exact rfl) s HS.out ?_)
          go_roundw
          case rel =>
            refine ⟨k + 1, by omega, by go_num, ?_⟩
            rw [flips_miss (by unfold hits; rw [HL.out, ← HJ.out]; simp [hin])]
            exact HR.out
          case measure => simp [intOf]; omega
      · have hbit0 : s % 2 = 0 := by omega
        have HM := Lib.hid (show ¬ hits l.length a p.toNat k = true by unfold hits; rw [decide_eq_false (fun h => hbit ((nv_bit HS.out).1 h))]; simp)
        clear hbit
        go_wp2_with (refine wpList_shr32 _ rfl _ _ _ _ rfl ty23 _ k hk (by exact rfl) (by exact rfl) s HS.out ?_)
        go_roundw
        case rel =>
          refine ⟨k + 1, by omega, by go_num, ?_⟩
          rw [flips_miss HM.out]
          exact HR.out
        case measure => simp [intOf]; omega
    · obtain rfl : k = 32 := by omega
      go_wp2
      go_ret
      exact ⟨⟨g, c, rfl, HR.out.1⟩, HR.out.2⟩

end Go.Proofs.Ytpbdcljpcchihaa
