/-
  The contract of the reference's DecodeUint (layer 3).
-/
import Derived.Test.YtealjcpgcghfpaaWir3
namespace Go.Proofs.Ytealjcpgcghfpaa
open Go.RowKit

theorem val_part {l : List UInt8} {n : Nat} (h : dec l = (val (l.take (n + 1)), n + 1, 0)) (t : Nat) : val ((l.take (n + 1)).drop t) < 18446744073709551616 := by
  have h1 := dec_canon (l := l) (by rw [h])
  rw [h] at h1
  have := val_drop_le (l.take (n + 1)) t
  have := h1.2.2.2.2
  simp only at this
  omega
theorem val_part_step (l : List UInt8) (n i : Nat) (hi : i ≤ n) (hl : n < l.length) : val ((l.take (n + 1)).drop i) = l[i].toNat % 128 + 128 * val ((l.take (n + 1)).drop (i + 1)) := by
  rw [val_drop_step _ i (by rw [List.length_take]; omega), List.getElem_take]

theorem val_gone (l : List UInt8) (k : Nat) : (0 : Int) = (val ((l.take (k + 1)).drop ((k : Int) + 1).toNat) : Int) := by
  rw [show ((k : Int) + 1).toNat = k + 1 by omega, List.drop_eq_nil_of_le (by rw [List.length_take]; omega)]
  rfl

set_option maxHeartbeats 4000000 in
theorem refDecUint_any (A : Option Addr) (len cap B : Nat) (l : List UInt8) (w : World) (hA : Has w B A len (l.map bv)) (hlen : len ≤ 1000000000) :
    Calls Try.prog 18 #[.slice A len cap] w fun e w' => e = .returned (.tuple #[.int .u64 (dv l), .int .i64 (dn l), .int .i64 (de l)]) ∧ w = w' := by
  have HL : Hid (l.length = len) := by show _ = _; simpa using hA.1
  have HA := Lib.hid hA
  clear hA
  go_enter Try.func18, Try.ntmps18
  go_wp2
  go_loop [6] (fun i => ∃ (k : Nat), k ≤ len ∧ k ≤ 10 ∧ i = .int .i64 k ∧ Hid (∀ j, j < k → 128 ≤ (l.getD j 0).toNat)) (fun i => 10 - (intOf i).toNat)
  case atStart => exact ⟨0, Nat.zero_le _, Nat.zero_le _, rfl, Lib.hid (by simp)⟩
  case round =>
    obtain ⟨k, hk, hk10, rfl, HS⟩ := hrel
    by_cases hten : k = 10
    · have HD := Lib.hid (d_of (dec_ten (l := l) (by rw [cont_of (n := k) (by omega) (by rw [HL.out]; exact hk) HS.out (fun h => by omega)]; exact hten)))
      have hb : ¬ (k : Int) < 10 := by omega
      have he : ((k : Int) == 10) = true := by simp; omega
      clear hten
      go_wp2
      go_ret3
      exact ⟨by rw [HD.out.1, HD.out.2.1, HD.out.2.2]; rfl, rfl⟩
    have hlt10 : (k : Int) < 10 := by omega
    have hne10 : ((k : Int) == 10) = false := by simp; omega
    by_cases hend : k = len
    · have HD := Lib.hid (d_of (dec_end (l := l) (by rw [cont_of (n := k) (by omega) (by rw [HL.out]; exact hk) HS.out (fun _ h => by rw [HL.out] at h; omega), HL.out]; exact hend) (by rw [HL.out]; omega)))
      have hb : ¬ (k : Int) < (len : Int) := by omega
      have he : ((k : Int) == (len : Int)) = true := by simp; omega
      clear hend hten
      go_wp2
      go_ret3
      exact ⟨by rw [HD.out.1, HD.out.2.1, HD.out.2.2]; rfl, rfl⟩
    have hltl : (k : Int) < (len : Int) := by omega
    have hnel : ((k : Int) == (len : Int)) = false := by simp; omega
    have hkl : k < len := by omega
    have hks : k < l.length := by rw [HL.out]; exact hkl
    obtain ⟨b, off, rfl, hb, hc⟩ := HA.out.at_ hkl
    rw [List.getElem_map, bv_eq] at hc
    have hbl := byte_lt l[k]
    obtain ⟨y, hy⟩ : ∃ y : Int, y = (l[k].toNat : Int) := ⟨_, rfl⟩
    rw [← hy] at hc hbl
    have hy0 : 0 ≤ y := by omega
    have HY := Lib.hid hy
    clear hy hten hend
    by_cases hbig : 128 ≤ y
    · have HN : Hid (∀ j, j < k + 1 → 128 ≤ (l.getD j 0).toNat) := Lib.hid (fun j hj => by
        by_cases e : j = k
        · subst e; rw [getD_at l j hks]; have := HY.out; omega
        · exact HS.out j (by omega))
      go_wp2
      go_round
      case rel => exact ⟨k + 1, by omega, by omega, by go_num, HN⟩
      case measure => simp [intOf]; omega
    · have HC := Lib.hid (cont_of (f := 10) (n := k) (by omega) (by rw [HL.out]; exact hk) HS.out (fun _ _ => by rw [getD_at l k hks]; have := HY.out; omega))
      by_cases hbad1 : k = 9 ∧ 1 < y
      · obtain ⟨hk9, hy1⟩ := hbad1
        have HD := Lib.hid (d_of (dec_big HC.out hks hk9 (by have := HY.out; omega)))
        have hk9' : ((k : Int) == 9) = true := by simp; omega
        subst hk9
        go_wp2
        go_ret3
        exact ⟨by rw [HD.out.1, HD.out.2.1, HD.out.2.2]; rfl, rfl⟩
      by_cases hbad2 : 0 < k ∧ y = 0
      · obtain ⟨hk0, hy1⟩ := hbad2
        have HD := Lib.hid (d_of (dec_zero HC.out hks hk0 (by omega) (by have := HY.out; omega)))
        have hk0' : (0 : Int) < (k : Int) := by omega
        subst hy1
        by_cases hk9 : k = 9
        · subst hk9
          go_wp2
          go_ret3
          exact ⟨by rw [HD.out.1, HD.out.2.1, HD.out.2.2]; rfl, rfl⟩
        · have hk9' : ((k : Int) == 9) = false := by simp; omega
          clear hbad1
          go_wp2
          go_ret3
          exact ⟨by rw [HD.out.1, HD.out.2.1, HD.out.2.2]; rfl, rfl⟩
      have hdec := dec_val HC.out hks (by omega) (fun e => by have := HY.out; omega) (fun e => by have := HY.out; omega)
      have HP := Lib.hid (val_part hdec)
      have HD := Lib.hid (d_of hdec)
      clear hdec
      by_cases hk9 : k = 9
      · have hy1 : ¬ 1 < y := by omega
        have hy2 : (y == 0) = false := by simp; omega
        clear hbad1 hbad2
        subst hk9
        go_wp2
        go_loop [5, 7] (fun v i => ∃ (j z : Int), -1 ≤ j ∧ j ≤ (9 : Int) ∧ 0 ≤ z ∧ i = .int .i64 j ∧ v = .int .u64 z ∧ Hid (z = (val ((l.take (9 + 1)).drop (j + 1).toNat) : Int))) (fun _ i => (intOf i + 1).toNat)
        case atStart => exact ⟨(9 : Int), 0, by omega, by omega, by omega, rfl, rfl, Lib.hid (val_gone l 9)⟩
        case round =>
          obtain ⟨j, z, hj1, hjk, hz0, rfl, rfl, HZ⟩ := hrel
          by_cases hj0 : 0 ≤ j
          · obtain ⟨t, rfl⟩ : ∃ t : Nat, j = (t : Int) := ⟨j.toNat, by omega⟩
            have htl : t < len := by omega
            have hts : t < l.length := by rw [HL.out]; exact htl
            obtain ⟨b2, off2, he2, hb2, hc2⟩ := HA.out.at_ htl
            cases he2
            rw [List.getElem_map, bv_eq] at hc2
            have hbl2 := byte_lt l[t]
            obtain ⟨x, hx⟩ : ∃ x : Int, x = (l[t].toNat : Int) := ⟨_, rfl⟩
            rw [← hx] at hc2 hbl2
            have hx0 : 0 ≤ x := by omega
            obtain ⟨r, hr⟩ : ∃ r : Int, x % 128 = r := ⟨_, rfl⟩
            have hr0 : 0 ≤ r := by omega
            have hr1 : r < 128 := by omega
            have hN : z * 128 + r = (val ((l.take (9 + 1)).drop t) : Int) := by
              rw [HZ.out, val_part_step l 9 t (by omega) hks, ← hr, hx, show ((t : Int) + 1).toNat = t + 1 by omega]
              push_cast
              omega
            have hzb : z * 128 + r < 18446744073709551616 := by have := HP.out t; omega
            have HN : Hid (z * 128 + r = (val ((l.take (9 + 1)).drop ((t : Int) - 1 + 1).toNat) : Int)) := by
              refine Lib.hid ?_
              rw [show ((t : Int) - 1 + 1).toNat = t by omega]
              exact hN
            clear hN hx HZ
            go_wp2
            go_round
            case rel => exact ⟨(t : Int) - 1, z * 128 + r, by omega, by omega, by omega, by go_num, by go_num, HN⟩
            case measure => simp [intOf]
          · have hjm : j = -1 := by omega
            subst hjm
            have HF := Lib.hid (show z = (val (l.take (9 + 1)) : Int) from HZ.out)
            clear HZ
            go_wp2
            go_ret3
            exact ⟨by rw [HD.out.1, HD.out.2.1, HD.out.2.2, ← HF.out]; rfl, rfl⟩
      · have hk9' : ((k : Int) == 9) = false := by simp; omega
        by_cases hk0 : k = 0
        · have hk0' : ¬ (0 : Int) < (k : Int) := by omega
          clear hk9 hk0 hbad1 hbad2
          go_wp2
          go_loop [5, 7] (fun v i => ∃ (j z : Int), -1 ≤ j ∧ j ≤ (k : Int) ∧ 0 ≤ z ∧ i = .int .i64 j ∧ v = .int .u64 z ∧ Hid (z = (val ((l.take (k + 1)).drop (j + 1).toNat) : Int))) (fun _ i => (intOf i + 1).toNat)
          case atStart => exact ⟨(k : Int), 0, by omega, by omega, by omega, rfl, rfl, Lib.hid (val_gone l k)⟩
          case round =>
            obtain ⟨j, z, hj1, hjk, hz0, rfl, rfl, HZ⟩ := hrel
            by_cases hj0 : 0 ≤ j
            · obtain ⟨t, rfl⟩ : ∃ t : Nat, j = (t : Int) := ⟨j.toNat, by omega⟩
              have htl : t < len := by omega
              have hts : t < l.length := by rw [HL.out]; exact htl
              obtain ⟨b2, off2, he2, hb2, hc2⟩ := HA.out.at_ htl
              cases he2
              rw [List.getElem_map, bv_eq] at hc2
              have hbl2 := byte_lt l[t]
              obtain ⟨x, hx⟩ : ∃ x : Int, x = (l[t].toNat : Int) := ⟨_, rfl⟩
              rw [← hx] at hc2 hbl2
              have hx0 : 0 ≤ x := by omega
              obtain ⟨r, hr⟩ : ∃ r : Int, x % 128 = r := ⟨_, rfl⟩
              have hr0 : 0 ≤ r := by omega
              have hr1 : r < 128 := by omega
              have hN : z * 128 + r = (val ((l.take (k + 1)).drop t) : Int) := by
                rw [HZ.out, val_part_step l k t (by omega) hks, ← hr, hx, show ((t : Int) + 1).toNat = t + 1 by omega]
                push_cast
                omega
              have hzb : z * 128 + r < 18446744073709551616 := by have := HP.out t; omega
              have HN : Hid (z * 128 + r = (val ((l.take (k + 1)).drop ((t : Int) - 1 + 1).toNat) : Int)) := by
                refine Lib.hid ?_
                rw [show ((t : Int) - 1 + 1).toNat = t by omega]
                exact hN
              clear hN hx HZ
              go_wp2
              go_round
              case rel => exact ⟨(t : Int) - 1, z * 128 + r, by omega, by omega, by omega, by go_num, by go_num, HN⟩
              case measure => simp [intOf]
            · have hjm : j = -1 := by omega
              subst hjm
              have HF := Lib.hid (show z = (val (l.take (k + 1)) : Int) from HZ.out)
              clear HZ
              go_wp2
              go_ret3
              exact ⟨by rw [HD.out.1, HD.out.2.1, HD.out.2.2, ← HF.out]; rfl, rfl⟩
        · have hk0' : (0 : Int) < (k : Int) := by omega
          have hy2 : (y == 0) = false := by simp; omega
          clear hk9 hk0 hbad1 hbad2
          go_wp2
          go_loop [5, 7] (fun v i => ∃ (j z : Int), -1 ≤ j ∧ j ≤ (k : Int) ∧ 0 ≤ z ∧ i = .int .i64 j ∧ v = .int .u64 z ∧ Hid (z = (val ((l.take (k + 1)).drop (j + 1).toNat) : Int))) (fun _ i => (intOf i + 1).toNat)
          case atStart => exact ⟨(k : Int), 0, by omega, by omega, by omega, rfl, rfl, Lib.hid (val_gone l k)⟩
          case round =>
            obtain ⟨j, z, hj1, hjk, hz0, rfl, rfl, HZ⟩ := hrel
            by_cases hj0 : 0 ≤ j
            · obtain ⟨t, rfl⟩ : ∃ t : Nat, j = (t : Int) := ⟨j.toNat, by omega⟩
              have htl : t < len := by omega
              have hts : t < l.length := by rw [HL.out]; exact htl
              obtain ⟨b2, off2, he2, hb2, hc2⟩ := HA.out.at_ htl
              cases he2
              rw [List.getElem_map, bv_eq] at hc2
              have hbl2 := byte_lt l[t]
              obtain ⟨x, hx⟩ : ∃ x : Int, x = (l[t].toNat : Int) := ⟨_, rfl⟩
              rw [← hx] at hc2 hbl2
              have hx0 : 0 ≤ x := by omega
              obtain ⟨r, hr⟩ : ∃ r : Int, x % 128 = r := ⟨_, rfl⟩
              have hr0 : 0 ≤ r := by omega
              have hr1 : r < 128 := by omega
              have hN : z * 128 + r = (val ((l.take (k + 1)).drop t) : Int) := by
                rw [HZ.out, val_part_step l k t (by omega) hks, ← hr, hx, show ((t : Int) + 1).toNat = t + 1 by omega]
                push_cast
                omega
              have hzb : z * 128 + r < 18446744073709551616 := by have := HP.out t; omega
              have HN : Hid (z * 128 + r = (val ((l.take (k + 1)).drop ((t : Int) - 1 + 1).toNat) : Int)) := by
                refine Lib.hid ?_
                rw [show ((t : Int) - 1 + 1).toNat = t by omega]
                exact hN
              clear hN hx HZ
              go_wp2
              go_round
              case rel => exact ⟨(t : Int) - 1, z * 128 + r, by omega, by omega, by omega, by go_num, by go_num, HN⟩
              case measure => simp [intOf]
            · have hjm : j = -1 := by omega
              subst hjm
              have HF := Lib.hid (show z = (val (l.take (k + 1)) : Int) from HZ.out)
              clear HZ
              go_wp2
              go_ret3
              exact ⟨by rw [HD.out.1, HD.out.2.1, HD.out.2.2, ← HF.out]; rfl, rfl⟩

end Go.Proofs.Ytealjcpgcghfpaa
