/-
  Contracts of digit and leadingGroup of package ipv6.
-/
import Derived.Test.YthihfhmclmmadaaDoorI6N
import Derived.Test.YthihfhmclmmadaaDoorI61
import Derived.Test.YthihfhmclmmadaaDoorIqP
import Derived.Test.YthihfhmclmmadaaDoorMin2
namespace Go.Proofs.YthihfhmclmmadaaDoor
open Go.RowKit

theorem digit6_any (c : UInt8) (w : World) :
    Calls Tryd.prog 27 #[.int .u8 (c.toNat : Int)] w fun e w' => e = .returned (.int .u16 (pd c : Nat)) ∧ w = w' := by
  have hlt := c.toNat_lt
  by_cases h1 : 48 ≤ c.toNat ∧ c.toNat ≤ 57
  · have HE : Hid (((pd c : Nat) : Int) = (c.toNat : Int) - 48) := by show _ = _; unfold pd digV; rw [if_pos h1]; omega
    have d1 : decide ((48 : Int) ≤ (c.toNat : Int)) = true := decide_eq_true (by omega)
    have d2 : decide ((c.toNat : Int) ≤ 57) = true := decide_eq_true (by omega)
    go_enter Tryd.func27, Tryd.ntmps27
    go_wp2
    go_ret
    exact ⟨ret_int HE.out.symm, rfl⟩
  · by_cases h2 : 97 ≤ c.toNat ∧ c.toNat ≤ 102
    · have HE : Hid (((pd c : Nat) : Int) = 10 + ((c.toNat : Int) - 97)) := by show _ = _; unfold pd digV; rw [if_neg h1, if_pos h2]; omega
      have d2 : decide ((c.toNat : Int) ≤ 57) = false := decide_eq_false (by omega)
      have d3 : decide ((97 : Int) ≤ (c.toNat : Int)) = true := decide_eq_true (by omega)
      have d4 : decide ((c.toNat : Int) ≤ 102) = true := decide_eq_true (by omega)
      have d1 : decide ((48 : Int) ≤ (c.toNat : Int)) = true := decide_eq_true (by omega)
      go_enter Tryd.func27, Tryd.ntmps27
      go_wp2
      go_ret
      exact ⟨ret_int HE.out.symm, rfl⟩
    · by_cases h3 : 65 ≤ c.toNat ∧ c.toNat ≤ 70
      · have HE : Hid (((pd c : Nat) : Int) = 10 + ((c.toNat : Int) - 65)) := by show _ = _; unfold pd digV; rw [if_neg h1, if_neg h2, if_pos h3]; omega
        have d1 : decide ((48 : Int) ≤ (c.toNat : Int)) = true := decide_eq_true (by omega)
        have d2 : decide ((c.toNat : Int) ≤ 57) = false := decide_eq_false (by omega)
        have d3 : decide ((97 : Int) ≤ (c.toNat : Int)) = false := decide_eq_false (by omega)
        have d5 : decide ((65 : Int) ≤ (c.toNat : Int)) = true := decide_eq_true (by omega)
        have d6 : decide ((c.toNat : Int) ≤ 70) = true := decide_eq_true (by omega)
        go_enter Tryd.func27, Tryd.ntmps27
        go_wp2
        go_ret
        exact ⟨ret_int HE.out.symm, rfl⟩
      · have HE : Hid (((pd c : Nat) : Int) = 16) := by show _ = _; unfold pd digV; rw [if_neg h1, if_neg h2, if_neg h3]; rfl
        have c1 : (decide ((48 : Int) ≤ (c.toNat : Int)) && decide ((c.toNat : Int) ≤ 57)) = false := by rw [Bool.and_eq_false_iff, decide_eq_false_iff_not, decide_eq_false_iff_not]; omega
        have c2 : (decide ((97 : Int) ≤ (c.toNat : Int)) && decide ((c.toNat : Int) ≤ 102)) = false := by rw [Bool.and_eq_false_iff, decide_eq_false_iff_not, decide_eq_false_iff_not]; omega
        have c3 : (decide ((65 : Int) ≤ (c.toNat : Int)) && decide ((c.toNat : Int) ≤ 70)) = false := by rw [Bool.and_eq_false_iff, decide_eq_false_iff_not, decide_eq_false_iff_not]; omega
        go_enter Tryd.func27, Tryd.ntmps27
        go_wp2
        all_goals (go_ret; exact ⟨ret_int HE.out.symm, rfl⟩)


theorem or_16 (a b : Nat) (hb : b < 16) (ha : a * 16 + b < 65536) : bits .or .u16 (((a : Nat) : Int) * 16) (b : Int) = ((a * 16 + b : Nat) : Int) := by
  rw [show ((a : Nat) : Int) * 16 = ((a * 16 : Nat) : Int) by omega, u16_or_nat _ _ (by omega) (by omega), nat_join 4 (a * 16) b (by omega) (by omega)]
theorem val_lt16 (l : List UInt8) (k : Nat) (h : (l.take k).all (fun c => decide (digV c < 16)) = true) : valB 16 0 (l.take k) < 16 ^ k := by
  have h1 := hexval_lt (l.take k) 0 0 (by decide) h
  have h2 : (16 : Nat) ^ (0 + (l.take k).length) ≤ 16 ^ k := Nat.pow_le_pow_right (by decide) (by rw [List.length_take]; omega)
  omega
theorem all_take {p : UInt8 → Bool} {l : List UInt8} {k n : Nat} (h : (l.take n).all p = true) (hk : k ≤ n) : (l.take k).all p = true := by
  rw [List.all_eq_true] at h ⊢
  intro c hc
  refine h c ?_
  rw [show l.take k = (l.take n).take k by rw [List.take_take, Nat.min_eq_left hk]] at hc
  exact List.mem_of_mem_take hc

set_option maxHeartbeats 2000000 in
theorem lead_any (s : ByteArray) (hs : s.size ≤ 1000000000) (w : World) :
    Calls Tryd.prog 16 #[.string s] w fun e w' => e = .returned (.tuple #[.int .u16 (valB 16 0 ((ls s).take (hexN 4 (ls s))) : Nat), .int .i64 (hexN 4 (ls s) : Nat)]) ∧ w = w' := by
  have hle := hexN_le 4 (ls s)
  have hall := hexN_all 4 (ls s)
  have hst := hexN_stop 4 (ls s)
  have hlt := hexN_lt 4 (ls s)
  rw [ls_length] at hle hst
  generalize hexN 4 (ls s) = n at *
  obtain ⟨hn4, hns⟩ := hle
  have HALL := Lib.hid hall
  have HST := Lib.hid hst
  have HLT := Lib.hid hlt
  clear hall hst hlt
  obtain ⟨M, hM⟩ : ∃ M : Int, min (s.size : Int) 4 = M := ⟨_, rfl⟩
  have hmin : ∀ (W : World) (ts : Array TypeId) (t : TypeId), (Builtin.min_ ts t #[.int .i64 (s.size : Int), .int .i64 4]).run Tryd.prog W = .ok (.int .i64 M) W := fun W ts t => min_two W ts t _ _ _ hM
  have HM := Lib.hid hM
  clear hM
  go_enter Tryd.func16, Tryd.ntmps16
  go_wp2
  go_loop [2, 3] (fun g i => ∃ (k : Nat) (z : Nat), k ≤ n ∧ i = .int .i64 k ∧ g = .int .u16 z ∧ Hid (z = valB 16 0 ((ls s).take k))) (fun _ i => 4 - (intOf i).toNat)
  case atStart => exact ⟨0, 0, Nat.zero_le _, rfl, rfl, Lib.hid rfl⟩
  case round =>
    obtain ⟨k, z, hk, rfl, rfl, HZ⟩ := hrel
    have hz16 : z < 65536 := by
      have h1 := val_lt16 (ls s) k (all_take HALL.out hk)
      have h2 : (16 : Nat) ^ k ≤ 16 ^ 4 := Nat.pow_le_pow_right (by decide) (by omega)
      have e : (16 : Nat) ^ 4 = 65536 := by decide
      rw [HZ.out]; omega
    by_cases hb : (k : Int) < M
    · have hd : decide ((k : Int) < M) = true := decide_eq_true hb
      have hks : k < s.size := by have := HM.out; omega
      have hk4 : k < 4 := by have := HM.out; omega
      have c1 := fun W => digit6_any s[k] W
      by_cases hx : digV s[k] < 16
      · have hpd : pd s[k] = digV s[k] := by unfold pd; omega
        rw [hpd] at c1
        have HZ2 : Hid (z * 16 + digV s[k] = valB 16 0 ((ls s).take (k + 1))) := by
          show _ = _
          rw [hexval_take s k hks, HZ.out]
        have hkn : k + 1 ≤ n := by
          by_cases e : k = n
          · exfalso
            rcases HST.out with h | h | h
            · omega
            · omega
            · rw [← e, List.getD_eq_getElem?_getD, ls_get s k hks, Option.getD_some] at h
              exact h hx
          · omega
        have hz2 : z * 16 + digV s[k] < 65536 := by
          have h1 := val_lt16 (ls s) (k + 1) (all_take HALL.out hkn)
          have h2 : (16 : Nat) ^ (k + 1) ≤ 16 ^ 4 := Nat.pow_le_pow_right (by decide) (by omega)
          have e : (16 : Nat) ^ 4 = 65536 := by decide
          rw [HZ2.out]; omega
        obtain ⟨d, hdd⟩ : ∃ d, d = digV s[k] := ⟨_, rfl⟩
        rw [← hdd] at c1 hx HZ2 hz2
        have hor := or_16 z d hx hz2
        have hwr : IntKind.u16.wrap ((z : Int) * 16) = (z : Int) * 16 := by rw [IntKind.wrap_u16]; omega
        have hge : decide ((d : Int) ≥ 16) = false := decide_eq_false (by omega)
        have hge2 : decide ((16 : Int) ≤ (d : Int)) = false := decide_eq_false (by omega)
        clear hdd hpd
        go_wp2_with fail
        refine (c1 _).mono ?_
        rintro e w' ⟨rfl, rfl⟩
        go_wp2
        go_round
        case rel => exact ⟨k + 1, z * 16 + d, hkn, by go_num, by first | rfl | go_num, HZ2⟩
        case measure => simp [intOf]; omega
      · have hpd : pd s[k] = 16 := by unfold pd; omega
        rw [hpd, show ((16 : Nat) : Int) = 16 from rfl] at c1
        have hkn : k = n := by
          by_cases e : k < n
          · exfalso
            have := HLT.out k e
            rw [List.getD_eq_getElem?_getD, ls_get s k hks, Option.getD_some] at this
            exact hx this
          · omega
        subst hkn
        clear hpd
        go_wp2_with fail
        refine (c1 _).mono ?_
        rintro e w' ⟨rfl, rfl⟩
        go_wp2
        go_ret2
        exact ⟨by rw [HZ.out]; rfl, rfl⟩
    · have hd : decide ((k : Int) < M) = false := decide_eq_false hb
      have hkn : k = n := by have := HM.out; omega
      subst hkn
      go_wp2
      go_ret2
      exact ⟨by rw [HZ.out]; rfl, rfl⟩

end Go.Proofs.YthihfhmclmmadaaDoor
