/-
Contracts of number and decimal of the reference of layer 10 (written by tools/gen-Ip2.py).
Contract of Numeric of the reference of layer 10.
The reference's ValidName of layer 14.
-/
import Derived.Test.YthoolifdmemceaaDoorB27
import Derived.Test.YthoolifdmemceaaDoorB11
import Derived.Test.YthoolifdmemceaaDoorB26
import Derived.Test.YthoolifdmemceaaDoorB18
namespace Go.Proofs.YthoolifdmemceaaDoor
section
open Go.RowKit

/-- A number that is limited. -/
def satN (x : Nat) : Nat := min x 1099511627776
theorem satN_step (x B d : Nat) (hB : 0 < B) : satN (satN x * B + d) = satN (x * B + d) := by
  unfold satN
  rcases Nat.lt_or_ge x 1099511627776 with h | h
  · rw [Nat.min_eq_left (Nat.le_of_lt h)]
  · rw [Nat.min_eq_right h]
    have h1 : 1099511627776 * 1 ≤ 1099511627776 * B := Nat.mul_le_mul_left _ hB
    have h2 : 1099511627776 * B ≤ x * B := Nat.mul_le_mul_right _ h
    omega
theorem satN_le (x : Nat) : satN x ≤ 1099511627776 := by unfold satN; omega
theorem satN_lt (x b : Nat) (hb : b ≤ 1099511627776) : satN x < b ↔ x < b := by unfold satN; omega
theorem satN_eq (x : Nat) (h : x ≤ 1099511627776) : satN x = x := by unfold satN; omega
/-- The number of a part, as the reference answers it, and whether there is one. -/
def nV (l : List UInt8) : Int := (satN ((numL l).getD 0) : Nat)
def nK (l : List UInt8) : Bool := (numL l).isSome
theorem nV_range (l : List UInt8) : 0 ≤ nV l ∧ nV l ≤ 1099511627776 := by unfold nV; have := satN_le ((numL l).getD 0); omega
theorem num_yes {l r : List UInt8} {B : Nat} (hl : l ≠ []) (hb : baseL l = (B, r)) (ha : r.all (fun c => decide (digV c < B)) = true) : nV l = (satN (valB B 0 r) : Nat) ∧ nK l = true := by
  unfold nV nK numL
  rw [if_neg hl, hb, if_pos ha]
  exact ⟨rfl, rfl⟩
theorem num_no {l r : List UInt8} {B : Nat} (hl : l ≠ []) (hb : baseL l = (B, r)) (ha : ¬ r.all (fun c => decide (digV c < B)) = true) : nV l = 0 ∧ nK l = false := by
  unfold nV nK numL
  rw [if_neg hl, hb, if_neg ha]
  exact ⟨rfl, rfl⟩
theorem valB_take_succ (B : Nat) (t : ByteArray) (k : Nat) (h : k < t.size) : valB B 0 ((ls t).take (k + 1)) = valB B 0 ((ls t).take k) * B + digV t[k] := by
  rw [take_ls_succ t k h, valB_append]; rfl
theorem all_take_no {p : UInt8 → Bool} (t : ByteArray) (k : Nat) (h : k < t.size) (hp : p t[k] = false) : ¬ (ls t).all p = true := by
  rw [List.all_eq_true]
  intro hall
  have hm : t[k] ∈ ls t := by
    have hk : k < (ls t).length := by rw [ls_length]; exact h
    have := List.getElem_mem hk
    rwa [ls_getE t k h] at this
  rw [hall _ hm] at hp
  cases hp
theorem ls_ne {s : ByteArray} (h : 0 < s.size) : ls s ≠ [] := by
  intro e
  have := ls_length s
  rw [e] at this
  simp at this
  omega
theorem ls_two (s : ByteArray) (h : 2 ≤ s.size) : ls s = s[0] :: s[1] :: (ls s).drop 2 := by
  have e := drop_ls s 0 (by omega)
  rw [List.drop_zero] at e
  rw [e, drop_ls s 1 (by omega)]
  simp
theorem ls_drop (s : ByteArray) (k : Nat) : ls (s.extract k s.size) = (ls s).drop k := by
  rw [sub_extract, ls_bs]
  unfold sub
  exact List.take_of_length_le (by rw [List.length_drop, ls_length]; omega)

set_option maxHeartbeats 4000000 in
theorem refNumber_any (s : ByteArray) (w : World) (hs : s.size ≤ 1000000000) :
    Calls Tryd.prog 36 #[.string s] w fun e w' => e = .returned (.tuple #[.int .i64 (nV (ls s)), .bool (nK (ls s))]) ∧ Below w.heap.size w w' := by
  by_cases h0 : s.size = 0
  · have hbe : (s.toList == ([] : List UInt8)) = true := by rw [toList_ls]; have := ls_length s; cases hx : ls s with
      | nil => rfl
      | cons c r => rw [hx] at this; simp at this; omega
    have HN : Hid (nV (ls s) = 0 ∧ nK (ls s) = false) := by
      have : ls s = [] := List.eq_nil_of_length_eq_zero (by rw [ls_length]; exact h0)
      rw [this]
      exact Lib.hid ⟨rfl, rfl⟩
    clear h0
    go_enter Tryd.func36, Tryd.ntmps36
    go_wp2
    go_ret2
    exact ⟨by rw [HN.out.1, HN.out.2]; rfl, Below.refl _ _⟩
  · have hne := ls_ne (s := s) (by omega)
    have hbe : (s.toList == ([] : List UInt8)) = false := by rw [toList_ls]; cases hx : ls s with
      | nil => exact absurd hx hne
      | cons c r => rfl
    have HNE := Lib.hid hne
    clear hne
    by_cases h2 : 2 ≤ s.size
    · have h2i : (2 : Int) ≤ (s.size : Int) := by omega
      have h2d : decide ((2 : Int) ≤ (s.size : Int)) = true := decide_eq_true h2i
      have hl0 : 0 < s.size := by omega
      have hl1 : 1 < s.size := by omega
      have HTWO := Lib.hid (ls_two s h2)
      by_cases hz : s[0] = 48
      · have hq0 : ((s[0].toNat : Int) == 48) = true := by rw [hz]; rfl
        have HZ0 := Lib.hid hz
        clear hz
        by_cases hx : s[1] = 120 ∨ s[1] = 88
        · have HB0 : Hid (baseL (ls s) = (16, (ls s).drop 2)) := by
            show _ = _
            rw [HTWO.out, HZ0.out]
            exact baseL_16 _ _ hx
          rcases hx with hx | hx
          · have hq1 : ((s[1].toNat : Int) == 120) = true := by rw [hx]; rfl
            clear hx
            go_enter Tryd.func36, Tryd.ntmps36
            go_wp2
            go_quiet (fail)
            have HTS : Hid ((s.extract 2 s.size).size ≤ 1000000000) := by show _ ≤ _; rw [ByteArray.size_extract]; omega
            have HE := Lib.hid (ls_drop s 2)
            have HB : Hid (baseL (ls s) = (16, ls (s.extract 2 s.size))) := by show _ = _; rw [HB0.out, HE.out]
            generalize s.extract 2 s.size = t at *
            go_wp2
            have hts : t.size ≤ 1000000000 := HTS.out
            go_loop [5, 6] (fun n i => ∃ (k : Nat) (z : Int), k ≤ t.size ∧ i = .int .i64 k ∧ n = .int .i64 z ∧ Hid (z = (satN (valB 16 0 ((ls t).take k)) : Nat)) ∧ Hid (((ls t).take k).all (fun c => decide (digV c < 16)) = true)) (fun _ i => t.size - (intOf i).toNat)
            case atStart => exact ⟨0, 0, Nat.zero_le _, rfl, rfl, Lib.hid rfl, Lib.hid rfl⟩
            case round =>
              obtain ⟨k, z, hk, rfl, rfl, HZ, HALL⟩ := hrel
              by_cases hlt : k < t.size
              · have hd := refDigit_any t[k]
                have hz1 : 0 ≤ z := by rw [HZ.out]; omega
                have hz2 : z ≤ 1099511627776 := by rw [HZ.out]; have := satN_le (valB 16 0 ((ls t).take k)); omega
                obtain ⟨d, hde⟩ : ∃ d : Int, d = (digV t[k] : Nat) := ⟨_, rfl⟩
                have hd0 : 0 ≤ d := by omega
                rw [← hde] at hd
                by_cases hdb : d < 16
                · have hge : ¬ (16 : Int) ≤ d := by omega
                  have hdd : decide ((16 : Int) ≤ d) = false := decide_eq_false hge
                  obtain ⟨z2, hz3⟩ : ∃ z2, min (z * 16 + d) 1099511627776 = z2 := ⟨_, rfl⟩
                  have hmin : ∀ (W : World) ts ty, (Builtin.min_ ts ty #[.int .i64 (z * 16 + d), .int .i64 1099511627776]).run Tryd.prog W = .ok (.int .i64 z2) W := fun W ts ty => min_two W ts ty _ _ _ hz3
                  have HZ2 : Hid (z2 = (satN (valB 16 0 ((ls t).take (k + 1))) : Nat)) := by
                    show _ = _
                    have e := satN_step (valB 16 0 ((ls t).take k)) 16 (digV t[k]) (by decide)
                    rw [valB_take_succ 16 t k hlt, ← e, ← hz3, HZ.out, hde]
                    unfold satN
                    omega
                  have HA2 : Hid (((ls t).take (k + 1)).all (fun c => decide (digV c < 16)) = true) := by
                    refine Lib.hid (take_all_succ _ t k hlt HALL.out ?_)
                    exact decide_eq_true (by omega)
                  clear hz3 hde
                  go_wp2_with (go_at_call 42; refine (hd _).mono ?_; rintro e w' ⟨rfl, rfl⟩)
                  go_round
                  case rel => exact ⟨k + 1, z2, by omega, by go_num, rfl, HZ2, HA2⟩
                  case measure => simp [intOf]; omega
                · have hge : (16 : Int) ≤ d := by omega
                  have hdd : decide ((16 : Int) ≤ d) = true := decide_eq_true hge
                  have HN := Lib.hid (num_no HNE.out HB.out (all_take_no t k hlt (decide_eq_false (by omega))))
                  clear hde
                  go_wp2_with (go_at_call 42; refine (hd _).mono ?_; rintro e w' ⟨rfl, rfl⟩)
                  go_ret2
                  exact ⟨by rw [HN.out.1, HN.out.2]; rfl, by first | exact below_drewN (Below.refl _ _) _ | exact below_drewN _ _⟩
              · obtain rfl : k = t.size := by omega
                have HN : Hid (nV (ls s) = z ∧ nK (ls s) = true) := by
                  have hz := HZ.out
                  have ha := HALL.out
                  rw [take_ls_all] at hz ha
                  have := num_yes HNE.out HB.out ha
                  rw [hz]
                  exact Lib.hid this
                go_wp2
                go_ret2
                exact ⟨by rw [HN.out.1, HN.out.2]; rfl, by first | exact below_drewN (Below.refl _ _) _ | exact below_drewN _ _⟩
          · have hq1 : ((s[1].toNat : Int) == 120) = false := by rw [hx]; rfl
            have hq2 : ((s[1].toNat : Int) == 88) = true := by rw [hx]; rfl
            clear hx
            go_enter Tryd.func36, Tryd.ntmps36
            go_wp2
            go_quiet (fail)
            have HTS : Hid ((s.extract 2 s.size).size ≤ 1000000000) := by show _ ≤ _; rw [ByteArray.size_extract]; omega
            have HE := Lib.hid (ls_drop s 2)
            have HB : Hid (baseL (ls s) = (16, ls (s.extract 2 s.size))) := by show _ = _; rw [HB0.out, HE.out]
            generalize s.extract 2 s.size = t at *
            go_wp2
            have hts : t.size ≤ 1000000000 := HTS.out
            go_loop [5, 6] (fun n i => ∃ (k : Nat) (z : Int), k ≤ t.size ∧ i = .int .i64 k ∧ n = .int .i64 z ∧ Hid (z = (satN (valB 16 0 ((ls t).take k)) : Nat)) ∧ Hid (((ls t).take k).all (fun c => decide (digV c < 16)) = true)) (fun _ i => t.size - (intOf i).toNat)
            case atStart => exact ⟨0, 0, Nat.zero_le _, rfl, rfl, Lib.hid rfl, Lib.hid rfl⟩
            case round =>
              obtain ⟨k, z, hk, rfl, rfl, HZ, HALL⟩ := hrel
              by_cases hlt : k < t.size
              · have hd := refDigit_any t[k]
                have hz1 : 0 ≤ z := by rw [HZ.out]; omega
                have hz2 : z ≤ 1099511627776 := by rw [HZ.out]; have := satN_le (valB 16 0 ((ls t).take k)); omega
                obtain ⟨d, hde⟩ : ∃ d : Int, d = (digV t[k] : Nat) := ⟨_, rfl⟩
                have hd0 : 0 ≤ d := by omega
                rw [← hde] at hd
                by_cases hdb : d < 16
                · have hge : ¬ (16 : Int) ≤ d := by omega
                  have hdd : decide ((16 : Int) ≤ d) = false := decide_eq_false hge
                  obtain ⟨z2, hz3⟩ : ∃ z2, min (z * 16 + d) 1099511627776 = z2 := ⟨_, rfl⟩
                  have hmin : ∀ (W : World) ts ty, (Builtin.min_ ts ty #[.int .i64 (z * 16 + d), .int .i64 1099511627776]).run Tryd.prog W = .ok (.int .i64 z2) W := fun W ts ty => min_two W ts ty _ _ _ hz3
                  have HZ2 : Hid (z2 = (satN (valB 16 0 ((ls t).take (k + 1))) : Nat)) := by
                    show _ = _
                    have e := satN_step (valB 16 0 ((ls t).take k)) 16 (digV t[k]) (by decide)
                    rw [valB_take_succ 16 t k hlt, ← e, ← hz3, HZ.out, hde]
                    unfold satN
                    omega
                  have HA2 : Hid (((ls t).take (k + 1)).all (fun c => decide (digV c < 16)) = true) := by
                    refine Lib.hid (take_all_succ _ t k hlt HALL.out ?_)
                    exact decide_eq_true (by omega)
                  clear hz3 hde
                  go_wp2_with (go_at_call 42; refine (hd _).mono ?_; rintro e w' ⟨rfl, rfl⟩)
                  go_round
                  case rel => exact ⟨k + 1, z2, by omega, by go_num, rfl, HZ2, HA2⟩
                  case measure => simp [intOf]; omega
                · have hge : (16 : Int) ≤ d := by omega
                  have hdd : decide ((16 : Int) ≤ d) = true := decide_eq_true hge
                  have HN := Lib.hid (num_no HNE.out HB.out (all_take_no t k hlt (decide_eq_false (by omega))))
                  clear hde
                  go_wp2_with (go_at_call 42; refine (hd _).mono ?_; rintro e w' ⟨rfl, rfl⟩)
                  go_ret2
                  exact ⟨by rw [HN.out.1, HN.out.2]; rfl, by first | exact below_drewN (Below.refl _ _) _ | exact below_drewN _ _⟩
              · obtain rfl : k = t.size := by omega
                have HN : Hid (nV (ls s) = z ∧ nK (ls s) = true) := by
                  have hz := HZ.out
                  have ha := HALL.out
                  rw [take_ls_all] at hz ha
                  have := num_yes HNE.out HB.out ha
                  rw [hz]
                  exact Lib.hid this
                go_wp2
                go_ret2
                exact ⟨by rw [HN.out.1, HN.out.2]; rfl, by first | exact below_drewN (Below.refl _ _) _ | exact below_drewN _ _⟩
        · have HB0 : Hid (baseL (ls s) = (8, (ls s).drop 1)) := by
            show _ = _
            rw [HTWO.out, HZ0.out]
            exact baseL_8 _ _ hx
          have hq1 : ((s[1].toNat : Int) == 120) = false := by
            rw [beq_eq_false_iff_ne]
            exact fun e => hx (.inl (UInt8.toNat_inj.1 (by rw [show (120 : UInt8).toNat = 120 from rfl]; omega)))
          have hq2 : ((s[1].toNat : Int) == 88) = false := by
            rw [beq_eq_false_iff_ne]
            exact fun e => hx (.inr (UInt8.toNat_inj.1 (by rw [show (88 : UInt8).toNat = 88 from rfl]; omega)))
          clear hx
          go_enter Tryd.func36, Tryd.ntmps36
          go_wp2
          go_quiet (fail)
          have HTS : Hid ((s.extract 1 s.size).size ≤ 1000000000) := by show _ ≤ _; rw [ByteArray.size_extract]; omega
          have HE := Lib.hid (ls_drop s 1)
          have HB : Hid (baseL (ls s) = (8, ls (s.extract 1 s.size))) := by show _ = _; rw [HB0.out, HE.out]
          generalize s.extract 1 s.size = t at *
          go_wp2
          have hts : t.size ≤ 1000000000 := HTS.out
          go_loop [5, 6] (fun n i => ∃ (k : Nat) (z : Int), k ≤ t.size ∧ i = .int .i64 k ∧ n = .int .i64 z ∧ Hid (z = (satN (valB 8 0 ((ls t).take k)) : Nat)) ∧ Hid (((ls t).take k).all (fun c => decide (digV c < 8)) = true)) (fun _ i => t.size - (intOf i).toNat)
          case atStart => exact ⟨0, 0, Nat.zero_le _, rfl, rfl, Lib.hid rfl, Lib.hid rfl⟩
          case round =>
            obtain ⟨k, z, hk, rfl, rfl, HZ, HALL⟩ := hrel
            by_cases hlt : k < t.size
            · have hd := refDigit_any t[k]
              have hz1 : 0 ≤ z := by rw [HZ.out]; omega
              have hz2 : z ≤ 1099511627776 := by rw [HZ.out]; have := satN_le (valB 8 0 ((ls t).take k)); omega
              obtain ⟨d, hde⟩ : ∃ d : Int, d = (digV t[k] : Nat) := ⟨_, rfl⟩
              have hd0 : 0 ≤ d := by omega
              rw [← hde] at hd
              by_cases hdb : d < 8
              · have hge : ¬ (8 : Int) ≤ d := by omega
                have hdd : decide ((8 : Int) ≤ d) = false := decide_eq_false hge
                obtain ⟨z2, hz3⟩ : ∃ z2, min (z * 8 + d) 1099511627776 = z2 := ⟨_, rfl⟩
                have hmin : ∀ (W : World) ts ty, (Builtin.min_ ts ty #[.int .i64 (z * 8 + d), .int .i64 1099511627776]).run Tryd.prog W = .ok (.int .i64 z2) W := fun W ts ty => min_two W ts ty _ _ _ hz3
                have HZ2 : Hid (z2 = (satN (valB 8 0 ((ls t).take (k + 1))) : Nat)) := by
                  show _ = _
                  have e := satN_step (valB 8 0 ((ls t).take k)) 8 (digV t[k]) (by decide)
                  rw [valB_take_succ 8 t k hlt, ← e, ← hz3, HZ.out, hde]
                  unfold satN
                  omega
                have HA2 : Hid (((ls t).take (k + 1)).all (fun c => decide (digV c < 8)) = true) := by
                  refine Lib.hid (take_all_succ _ t k hlt HALL.out ?_)
                  exact decide_eq_true (by omega)
                clear hz3 hde
                go_wp2_with (go_at_call 42; refine (hd _).mono ?_; rintro e w' ⟨rfl, rfl⟩)
                go_round
                case rel => exact ⟨k + 1, z2, by omega, by go_num, rfl, HZ2, HA2⟩
                case measure => simp [intOf]; omega
              · have hge : (8 : Int) ≤ d := by omega
                have hdd : decide ((8 : Int) ≤ d) = true := decide_eq_true hge
                have HN := Lib.hid (num_no HNE.out HB.out (all_take_no t k hlt (decide_eq_false (by omega))))
                clear hde
                go_wp2_with (go_at_call 42; refine (hd _).mono ?_; rintro e w' ⟨rfl, rfl⟩)
                go_ret2
                exact ⟨by rw [HN.out.1, HN.out.2]; rfl, by first | exact below_drewN (Below.refl _ _) _ | exact below_drewN _ _⟩
            · obtain rfl : k = t.size := by omega
              have HN : Hid (nV (ls s) = z ∧ nK (ls s) = true) := by
                have hz := HZ.out
                have ha := HALL.out
                rw [take_ls_all] at hz ha
                have := num_yes HNE.out HB.out ha
                rw [hz]
                exact Lib.hid this
              go_wp2
              go_ret2
              exact ⟨by rw [HN.out.1, HN.out.2]; rfl, by first | exact below_drewN (Below.refl _ _) _ | exact below_drewN _ _⟩
      · have hq0 : ((s[0].toNat : Int) == 48) = false := by
          rw [beq_eq_false_iff_ne]
          exact fun e => hz (UInt8.toNat_inj.1 (by rw [show (48 : UInt8).toNat = 48 from rfl]; omega))
        have HB : Hid (baseL (ls s) = (10, ls s)) := by
          refine Lib.hid (baseL_ten _ (.inl ?_))
          rw [HTWO.out]
          simpa using hz
        clear hz
        have HTS := Lib.hid hs
        go_enter Tryd.func36, Tryd.ntmps36
        go_wp2
        have HWW := Below.refl w.heap.size w
        have hts : s.size ≤ 1000000000 := HTS.out
        go_loop [5, 6] (fun n i => ∃ (k : Nat) (z : Int), k ≤ s.size ∧ i = .int .i64 k ∧ n = .int .i64 z ∧ Hid (z = (satN (valB 10 0 ((ls s).take k)) : Nat)) ∧ Hid (((ls s).take k).all (fun c => decide (digV c < 10)) = true)) (fun _ i => s.size - (intOf i).toNat)
        case atStart => exact ⟨0, 0, Nat.zero_le _, rfl, rfl, Lib.hid rfl, Lib.hid rfl⟩
        case round =>
          obtain ⟨k, z, hk, rfl, rfl, HZ, HALL⟩ := hrel
          by_cases hlt : k < s.size
          · have hd := refDigit_any s[k]
            have hz1 : 0 ≤ z := by rw [HZ.out]; omega
            have hz2 : z ≤ 1099511627776 := by rw [HZ.out]; have := satN_le (valB 10 0 ((ls s).take k)); omega
            obtain ⟨d, hde⟩ : ∃ d : Int, d = (digV s[k] : Nat) := ⟨_, rfl⟩
            have hd0 : 0 ≤ d := by omega
            rw [← hde] at hd
            by_cases hdb : d < 10
            · have hge : ¬ (10 : Int) ≤ d := by omega
              have hdd : decide ((10 : Int) ≤ d) = false := decide_eq_false hge
              obtain ⟨z2, hz3⟩ : ∃ z2, min (z * 10 + d) 1099511627776 = z2 := ⟨_, rfl⟩
              have hmin : ∀ (W : World) ts ty, (Builtin.min_ ts ty #[.int .i64 (z * 10 + d), .int .i64 1099511627776]).run Tryd.prog W = .ok (.int .i64 z2) W := fun W ts ty => min_two W ts ty _ _ _ hz3
              have HZ2 : Hid (z2 = (satN (valB 10 0 ((ls s).take (k + 1))) : Nat)) := by
                show _ = _
                have e := satN_step (valB 10 0 ((ls s).take k)) 10 (digV s[k]) (by decide)
                rw [valB_take_succ 10 s k hlt, ← e, ← hz3, HZ.out, hde]
                unfold satN
                omega
              have HA2 : Hid (((ls s).take (k + 1)).all (fun c => decide (digV c < 10)) = true) := by
                refine Lib.hid (take_all_succ _ s k hlt HALL.out ?_)
                exact decide_eq_true (by omega)
              clear hz3 hde
              go_wp2_with (go_at_call 42; refine (hd _).mono ?_; rintro e w' ⟨rfl, rfl⟩)
              go_round
              case rel => exact ⟨k + 1, z2, by omega, by go_num, rfl, HZ2, HA2⟩
              case measure => simp [intOf]; omega
            · have hge : (10 : Int) ≤ d := by omega
              have hdd : decide ((10 : Int) ≤ d) = true := decide_eq_true hge
              have HN := Lib.hid (num_no HNE.out HB.out (all_take_no s k hlt (decide_eq_false (by omega))))
              clear hde
              go_wp2_with (go_at_call 42; refine (hd _).mono ?_; rintro e w' ⟨rfl, rfl⟩)
              go_ret2
              exact ⟨by rw [HN.out.1, HN.out.2]; rfl, HWW⟩
          · obtain rfl : k = s.size := by omega
            have HN : Hid (nV (ls s) = z ∧ nK (ls s) = true) := by
              have hz := HZ.out
              have ha := HALL.out
              rw [take_ls_all] at hz ha
              have := num_yes HNE.out HB.out ha
              rw [hz]
              exact Lib.hid this
            go_wp2
            go_ret2
            exact ⟨by rw [HN.out.1, HN.out.2]; rfl, HWW⟩
    · have h2d : decide ((2 : Int) ≤ (s.size : Int)) = false := decide_eq_false (by omega)
      have HB : Hid (baseL (ls s) = (10, ls s)) := Lib.hid (baseL_ten _ (.inr (by rw [ls_length]; omega)))
      have HTS := Lib.hid hs
      go_enter Tryd.func36, Tryd.ntmps36
      go_wp2
      have HWW := Below.refl w.heap.size w
      have hts : s.size ≤ 1000000000 := HTS.out
      go_loop [5, 6] (fun n i => ∃ (k : Nat) (z : Int), k ≤ s.size ∧ i = .int .i64 k ∧ n = .int .i64 z ∧ Hid (z = (satN (valB 10 0 ((ls s).take k)) : Nat)) ∧ Hid (((ls s).take k).all (fun c => decide (digV c < 10)) = true)) (fun _ i => s.size - (intOf i).toNat)
      case atStart => exact ⟨0, 0, Nat.zero_le _, rfl, rfl, Lib.hid rfl, Lib.hid rfl⟩
      case round =>
        obtain ⟨k, z, hk, rfl, rfl, HZ, HALL⟩ := hrel
        by_cases hlt : k < s.size
        · have hd := refDigit_any s[k]
          have hz1 : 0 ≤ z := by rw [HZ.out]; omega
          have hz2 : z ≤ 1099511627776 := by rw [HZ.out]; have := satN_le (valB 10 0 ((ls s).take k)); omega
          obtain ⟨d, hde⟩ : ∃ d : Int, d = (digV s[k] : Nat) := ⟨_, rfl⟩
          have hd0 : 0 ≤ d := by omega
          rw [← hde] at hd
          by_cases hdb : d < 10
          · have hge : ¬ (10 : Int) ≤ d := by omega
            have hdd : decide ((10 : Int) ≤ d) = false := decide_eq_false hge
            obtain ⟨z2, hz3⟩ : ∃ z2, min (z * 10 + d) 1099511627776 = z2 := ⟨_, rfl⟩
            have hmin : ∀ (W : World) ts ty, (Builtin.min_ ts ty #[.int .i64 (z * 10 + d), .int .i64 1099511627776]).run Tryd.prog W = .ok (.int .i64 z2) W := fun W ts ty => min_two W ts ty _ _ _ hz3
            have HZ2 : Hid (z2 = (satN (valB 10 0 ((ls s).take (k + 1))) : Nat)) := by
              show _ = _
              have e := satN_step (valB 10 0 ((ls s).take k)) 10 (digV s[k]) (by decide)
              rw [valB_take_succ 10 s k hlt, ← e, ← hz3, HZ.out, hde]
              unfold satN
              omega
            have HA2 : Hid (((ls s).take (k + 1)).all (fun c => decide (digV c < 10)) = true) := by
              refine Lib.hid (take_all_succ _ s k hlt HALL.out ?_)
              exact decide_eq_true (by omega)
            clear hz3 hde
            go_wp2_with (go_at_call 42; refine (hd _).mono ?_; rintro e w' ⟨rfl, rfl⟩)
            go_round
            case rel => exact ⟨k + 1, z2, by omega, by go_num, rfl, HZ2, HA2⟩
            case measure => simp [intOf]; omega
          · have hge : (10 : Int) ≤ d := by omega
            have hdd : decide ((10 : Int) ≤ d) = true := decide_eq_true hge
            have HN := Lib.hid (num_no HNE.out HB.out (all_take_no s k hlt (decide_eq_false (by omega))))
            clear hde
            go_wp2_with (go_at_call 42; refine (hd _).mono ?_; rintro e w' ⟨rfl, rfl⟩)
            go_ret2
            exact ⟨by rw [HN.out.1, HN.out.2]; rfl, HWW⟩
        · obtain rfl : k = s.size := by omega
          have HN : Hid (nV (ls s) = z ∧ nK (ls s) = true) := by
            have hz := HZ.out
            have ha := HALL.out
            rw [take_ls_all] at hz ha
            have := num_yes HNE.out HB.out ha
            rw [hz]
            exact Lib.hid this
          go_wp2
          go_ret2
          exact ⟨by rw [HN.out.1, HN.out.2]; rfl, HWW⟩
end

section
open Go.RowKit

theorem partsL_pos (l : List UInt8) : 0 < (partsL l).length := by
  unfold partsL
  have := splitL_pos 46 l
  split
  · rename_i h; simp; omega
  · exact this
theorem partsL_length (l : List UInt8) : (partsL l).length ≤ l.length + 1 := by
  unfold partsL
  have := splitL_length 46 l
  split
  · simp; omega
  · exact this
theorem splitG_sizes (c : UInt8) : ∀ l cur, ∀ x ∈ splitG c l cur, x.length ≤ l.length + cur.length
  | [], cur, x, hx => by simp [splitG] at hx; subst hx; simp
  | b :: r, cur, x, hx => by
    unfold splitG at hx
    split at hx
    · rcases List.mem_cons.1 hx with h | h
      · subst h; simp
      · have := splitG_sizes c r [] x h; simp at this ⊢; omega
    · have := splitG_sizes c r (cur ++ [b]) x hx; simp at this ⊢; omega
theorem partsL_sizes (l : List UInt8) (x : List UInt8) (hx : x ∈ partsL l) : x.length ≤ l.length := by
  have key : ∀ y ∈ splitL 46 l, y.length ≤ l.length := fun y hy => by have := splitG_sizes 46 l [] y hy; simpa using this
  unfold partsL at hx
  split at hx
  · exact key x (List.dropLast_subset _ hx)
  · exact key x hx
theorem getD_mem {α : Type _} (l : List α) (k : Nat) (d : α) (h : k < l.length) : l.getD k d ∈ l := by
  rw [List.getD_eq_getElem?_getD, List.getElem?_eq_getElem h, Option.getD_some]
  exact List.getElem_mem h

set_option maxHeartbeats 1000000 in
theorem refNumeric_any (s : ByteArray) (w : World) (hs : s.size ≤ 1000000000) :
    Calls Tryd.prog 26 #[.string s] w fun e w' => e = .returned (.bool (numericL (ls s))) ∧ Below w.heap.size w w' := by
  have hpar := refParts_any s w hs
  have hpos := partsL_pos (ls s)
  have hlen := partsL_length (ls s)
  have hsz := partsL_sizes (ls s) _ (getD_mem (partsL (ls s)) ((partsL (ls s)).length - 1) [] (by omega))
  have HN : Hid (numericL (ls s) = lastNum ((partsL (ls s)).getD ((partsL (ls s)).length - 1) [])) := by
    show _ = _
    rw [getD_last _ _ hpos]; rfl
  rw [ls_length] at hlen hsz
  generalize partsL (ls s) = P at *
  obtain ⟨m, hm⟩ : ∃ n, n = P.length := ⟨_, rfl⟩
  obtain ⟨k, hk⟩ : ∃ k, k = m - 1 := ⟨_, rfl⟩
  have hm1 : (m : Int) - 1 = ((k : Nat) : Int) := by omega
  have hkm : k < m := by omega
  have hkb : k ≤ 1000000001 := by omega
  unfold StrsPost at hpar
  rw [← hm] at hpar
  rw [← hm, ← hk] at hsz HN
  obtain ⟨x, hx⟩ : ∃ x, x = P.getD k [] := ⟨_, rfl⟩
  rw [← hx] at hsz HN
  have c1 := refDigits_any (bs x)
  have c2 := refNumber_any (bs x)
  rw [ls_bs] at c2
  rw [bs_size] at c1 c2
  have HD : Hid (digitsB (bs x) = (x.all digitU && !x.isEmpty)) := by show _ = _; unfold digitsB; rw [ls_bs]
  have hcellX : ∀ w1 A, Has w1 w1.heap.size A m (wv P) → ∃ b off, A = some ⟨b, off, none⟩ ∧ w1.cell? ⟨b, off + k, none⟩ = some (.string (bs x)) := fun w1 A h => by
    rw [hx]; exact str_cell h k hkm
  obtain ⟨X, hX⟩ : ∃ X, X = bs x := ⟨_, rfl⟩
  have HXL : Hid (X.size = x.length) := by show _ = _; rw [hX, bs_size]
  have HXG : Hid (∀ h : 1 < X.size, X[1] = x.getD 1 0) := by
    refine Lib.hid fun h => ?_
    have hl : 1 < x.length := by rw [← HXL.out]; exact h
    have e := ls_getE X 1 h
    have e2 : ls X = x := by rw [hX, ls_bs]
    rw [List.getD_eq_getElem?_getD, List.getElem?_eq_getElem hl, Option.getD_some]
    have e3 : (ls X)[1]'(by rw [ls_length]; exact h) = x[1] := by simp only [e2]
    rw [← e3]; exact (e _).symm
  rw [← hX] at c1 c2 hcellX HD
  clear hm hk hx hX hlen hpos
  go_enter Tryd.func26, Tryd.ntmps26
  go_wp2_with fail
  refine hpar.mono ?_
  rintro e w1 ⟨A, c, rfl, hmc, hh, hb⟩
  obtain ⟨b, off, rfl, hcell⟩ := hcellX w1 A hh
  clear hpar hcellX hh
  cases hdg : digitsB X with
  | true =>
    rw [hdg] at c1
    have HY : Hid (numericL (ls s) = true) := by
      show _ = _
      rw [HN.out]
      unfold lastNum
      rw [← HD.out, hdg]
      rfl
    clear hdg
    go_wp2_with (go_at_call 35; refine (c1 _ (by omega)).mono ?_; rintro e w' ⟨rfl, rfl⟩)
    go_ret
    exact ⟨ret_bool HY.out.symm, hb⟩
  | false =>
    rw [hdg] at c1
    have HY : Hid (numericL (ls s) = (nK x && decide (2 ≤ x.length) && (x.getD 1 0 == 120 || x.getD 1 0 == 88))) := by
      show _ = _
      rw [HN.out]
      unfold lastNum
      rw [← HD.out, hdg]
      rfl
    clear hdg
    generalize nK x = kk at *
    cases kk with
    | false =>
      go_wp2_with (first | (go_at_call 35; refine (c1 _ (by omega)).mono ?_; rintro e w' ⟨rfl, rfl⟩) | (go_at_call 36; refine (c2 _ (by omega)).mono ?_; rintro e w2 ⟨rfl, hb2⟩))
      go_ret
      exact ⟨ret_bool (by rw [HY.out]; rfl), hb.trans (hb2.mono hb.size)⟩
    | true =>
      by_cases h2 : 2 ≤ X.size
      · have h2d : decide ((2 : Int) ≤ (X.size : Int)) = true := decide_eq_true (by omega)
        have hl1 : 1 < X.size := by omega
        have hXd : decide (2 ≤ x.length) = true := decide_eq_true (by rw [← HXL.out]; exact h2)
        have HG := Lib.hid (HXG.out hl1)
        have h3 : ((X[1].toNat : Int) == 120) = (x.getD 1 0 == 120) := by
          rw [← HG.out]
          apply Bool.eq_iff_iff.2
          simp only [beq_iff_eq]
          exact ⟨fun e => UInt8.toNat_inj.1 (by rw [show (120 : UInt8).toNat = 120 from rfl]; omega), fun e => by rw [e]; rfl⟩
        have h4 : ((X[1].toNat : Int) == 88) = (x.getD 1 0 == 88) := by
          rw [← HG.out]
          apply Bool.eq_iff_iff.2
          simp only [beq_iff_eq]
          exact ⟨fun e => UInt8.toNat_inj.1 (by rw [show (88 : UInt8).toNat = 88 from rfl]; omega), fun e => by rw [e]; rfl⟩
        have HY2 : Hid (numericL (ls s) = ((x.getD 1 0 == 120) || (x.getD 1 0 == 88))) := by show _ = _; rw [HY.out, hXd]; simp
        generalize (x.getD 1 0 == 120) = q1 at *
        generalize (x.getD 1 0 == 88) = q2 at *
        clear hXd HY
        cases q1 <;> cases q2 <;>
        · go_wp2_with (first | (go_at_call 35; refine (c1 _ (by omega)).mono ?_; rintro e w' ⟨rfl, rfl⟩) | (go_at_call 36; refine (c2 _ (by omega)).mono ?_; rintro e w2 ⟨rfl, hb2⟩))
          go_ret
          exact ⟨ret_bool (by rw [HY2.out]; rfl), hb.trans (hb2.mono hb.size)⟩
      · have h2d : decide ((2 : Int) ≤ (X.size : Int)) = false := decide_eq_false (by omega)
        have hXd : decide (2 ≤ x.length) = false := decide_eq_false (by rw [← HXL.out]; exact h2)
        have HY2 : Hid (numericL (ls s) = false) := by show _ = _; rw [HY.out, hXd]; simp
        clear hXd HY
        go_wp2_with (first | (go_at_call 35; refine (c1 _ (by omega)).mono ?_; rintro e w' ⟨rfl, rfl⟩) | (go_at_call 36; refine (c2 _ (by omega)).mono ?_; rintro e w2 ⟨rfl, hb2⟩))
        go_ret
        exact ⟨ret_bool (by rw [HY2.out]), hb.trans (hb2.mono hb.size)⟩
end

section
open Go.RowKit Go.Shelf

theorem vn_short {l : List UInt8} (h1 : l.length ≤ 253) (h2 : l ≠ []) (h3 : numericL l = false) : vnL l = (splitL 46 l).all labL := by
  unfold vnL
  rw [decide_eq_true h2, decide_eq_true h1, h3]
  rfl
theorem all_drop {α : Type _} (p : α → Bool) : ∀ (l : List α) (k : Nat), (∀ x ∈ l.take k, p x = true) → l.all p = (l.drop k).all p
  | l, 0, _ => rfl
  | [], _ + 1, _ => rfl
  | a :: r, k + 1, h => by
    rw [List.all_cons, h a (by simp), Bool.true_and, List.drop_succ_cons]
    exact all_drop p r k fun x hx => h x (by simp [hx])

set_option maxRecDepth 20000 in
set_option maxHeartbeats 4000000 in
theorem refVn_any : HoVn 16 := by
  intro s w hs
  by_cases h0 : s.size = 0
  · have hnil : ls s = [] := List.eq_nil_of_length_eq_zero (by rw [ls_length]; exact h0)
    rw [hnil, show vnL [] = false from rfl]
    have he : (s.toList == ([] : List UInt8)) = true := by rw [toList_ls, hnil]; rfl
    have he' : s.toList.isEmpty = true := by rw [toList_ls, hnil]; rfl
    clear h0 hnil
    go_enter Tryd.func16, Tryd.ntmps16
    go_wp2
    go_ret
    exact ⟨rfl, Below.refl _ _⟩
  · have hne : ls s ≠ [] := fun e => h0 (by have := ls_length s; rw [e] at this; simpa using this.symm)
    have he : (s.toList == ([] : List UInt8)) = false := by rw [toList_ls]; exact beq_false_of_ne hne
    have he' : s.toList.isEmpty = false := by rw [toList_ls]; cases hx : ls s with
      | nil => exact absurd hx hne
      | cons _ _ => rfl
    by_cases h1 : 253 < s.size
    · have hV : vnL (ls s) = false := by
        unfold vnL
        rw [decide_eq_false (by rw [ls_length]; omega : ¬ (ls s).length ≤ 253)]
        simp
      have hd : decide ((253 : Int) < (s.size : Int)) = true := decide_eq_true (by omega)
      rw [hV]
      clear h0 hne hV
      go_enter Tryd.func16, Tryd.ntmps16
      go_wp2
      go_ret
      exact ⟨rfl, Below.refl _ _⟩
    · have hd : decide ((253 : Int) < (s.size : Int)) = false := decide_eq_false (by omega)
      have c1 := fun W => refNumeric_any s W hs
      cases hq : numericL (ls s) with
      | true =>
        have hV : vnL (ls s) = false := by unfold vnL; rw [hq]; simp
        rw [hq] at c1
        rw [hV]
        clear h0 hne hV hq
        go_enter Tryd.func16, Tryd.ntmps16
        go_wp2_with fail
        refine (c1 _).mono ?_
        rintro e w1 ⟨rfl, hb1⟩
        go_wp2
        go_ret
        exact ⟨rfl, hb1⟩
      | false =>
        have hV : vnL (ls s) = (splitL 46 (ls s)).all labL := vn_short (by rw [ls_length]; omega) hne hq
        rw [hq] at c1
        rw [hV]
        have c2 := fun W => refSplit_any s 46 W hs
        have hlen := splitL_length 46 (ls s)
        rw [ls_length] at hlen
        have hszs : ∀ x ∈ splitL 46 (ls s), x.length ≤ 1000000000 := fun x hx => by have := splitG_sizes 46 (ls s) [] x hx; rw [ls_length] at this; simp at this; omega
        have hpos := splitL_pos 46 (ls s)
        generalize splitL 46 (ls s) = P at *
        obtain ⟨R, hR⟩ : ∃ R, R = P.all labL := ⟨_, rfl⟩
        have HR := Lib.hid hR
        rw [← hR]
        clear h0 hne hV hq hR
        go_enter Tryd.func16, Tryd.ntmps16
        go_wp2_with fail
        refine (c1 _).mono ?_
        rintro e w1 ⟨rfl, hb1⟩
        go_wp2_with fail
        refine (c2 _).mono ?_
        rintro e w2 ⟨v, m, rfl, hown, hb2⟩
        obtain ⟨A, c, rfl, hh, hmc⟩ := Has.of_own hown
        have hm : m = P.length := by have := hh.1; rw [wv_length] at this; omega
        obtain ⟨b, off, rfl, _⟩ := str_cell hh 0 (by omega)
        have hb0 := hb1.trans (hb2.mono hb1.size)
        have HB := Lib.hid hb0
        have HH := Lib.hid hh
        have HM := Lib.hid hm
        have HSZ := Lib.hid hszs
        have hmb : m ≤ 1000000001 := by omega
        clear hm hh hszs hpos hown hb0 hb1 hb2 c1 c2 hlen
        go_wp2
        go_loopw [4] (fun i wr => ∃ k : Nat, k ≤ m ∧ i = .int .i64 k ∧ Hid (R = (P.drop k).all labL) ∧ Below w2.heap.size w2 wr) (fun i _ => m - (intOf i).toNat)
        case atStart => exact ⟨0, Nat.zero_le _, rfl, HR, Below.refl _ _⟩
        case round =>
          obtain ⟨k, hk, rfl, HK, hb3⟩ := hrel
          by_cases hlt : k < m
          · obtain ⟨b', off', e, hcell⟩ := str_cell (HH.out.below hb3) k hlt
            injection e with e
            injection e with e1 e2 _
            subst e1 e2
            have hkP : k < P.length := by rw [← HM.out]; exact hlt
            have hdr : P.drop k = P.getD k [] :: P.drop (k + 1) := by
              rw [List.drop_eq_getElem_cons hkP, List.getD_eq_getElem?_getD, List.getElem?_eq_getElem hkP, Option.getD_some]
            have hxs : (P.getD k []).length ≤ 1000000000 := HSZ.out _ (by rw [List.getD_eq_getElem?_getD, List.getElem?_eq_getElem hkP, Option.getD_some]; exact List.getElem_mem hkP)
            have HK2 := HK.out
            rw [hdr, List.all_cons] at HK2
            generalize P.getD k [] = x at *
            have c3 := fun W => refLab_any (bs x) W (by rw [bs_size]; exact hxs)
            simp only [ls_bs] at c3
            cases hx : labL x with
            | true =>
              rw [hx, Bool.true_and] at HK2
              have HN := Lib.hid HK2
              rw [hx] at c3
              clear hx HK2 hdr hkP hxs
              go_wp2_with (go_at_call 27; refine (c3 _).mono ?_; rintro e w4 ⟨rfl, hb4⟩)
              go_roundw
              case rel => exact ⟨k + 1, by omega, by go_num, HN, hb3.trans (hb4.mono hb3.size)⟩
              case measure => simp [intOf]; omega
            | false =>
              rw [hx, Bool.false_and] at HK2
              have HN := Lib.hid HK2
              rw [hx] at c3
              clear hx HK2 hdr hkP hxs
              go_wp2_with (go_at_call 27; refine (c3 _).mono ?_; rintro e w4 ⟨rfl, hb4⟩)
              go_ret
              exact ⟨ret_bool HN.out.symm, HB.out.trans ((hb3.trans (hb4.mono hb3.size)).mono HB.out.size)⟩
          · obtain rfl : k = m := by omega
            have HN : Hid (R = true) := by
              show _ = _
              rw [HK.out, List.drop_eq_nil_of_le (by have := HM.out; omega)]
              rfl
            go_wp2
            go_ret
            exact ⟨ret_bool HN.out.symm, HB.out.trans (hb3.mono HB.out.size)⟩
end

end Go.Proofs.YthoolifdmemceaaDoor
